import PyProof.Rows.All
import Wide.All
import OpenK.AllK
import Wide.FinOn
import Lean
import PyProof.EqAt
import PyProof.EqKinds
import PyProof.TupleCall
import PyProof.ZipIter
import PyProof.EnumMake
import PyProof.EnumFor
import PyProof.CollectIter
import PyProof.Rows.SeqMore
import PyProof.ConsumeWalk
import PyProof.Rows.SortShellK
import PyProof.DictItems
import PyProof.DictWalks
import PyProof.AttrMissHeap
import PyProof.DictIter
import PyProof.MaxThree
import PyProof.SeqI3
import KE.KDictOf
import PySem.Challenge.RW_fewtimes_k18_lines_within
set_option Elab.async false
set_option linter.all false
set_option compiler.extract_closed false
set_option genSizeOf false
set_option bootstrap.genMatcherCode false
set_option maxRecDepth 100000
set_option maxHeartbeats 4000000
open PySem.W (Frag)
open PySem renaming wpAny_bind → gV, Value → h6, wpAny_pure → q7, Shared → z4, sizeLine_eq → B2, sizeLine → Hh, wpAny → Hm, model → Hv, starEach → HG, Program → HI, wpAny_setField_rec → HP, wpAny_field → HU, wpAny_callSpecial?_slot → HZ, World → Ic, wpAny_call_entry → Ig, Paired → Ih, Around → Ik, wpAny_seqItems → Il, Comprehension → Iw, wpAny_holding → ID, sysModules → IF, wpAny_pyIter_tuple → II, PyData → IJ, wpAny_newObj_type → IQ, wpAny_rule → IT, mem_of_lookup → IX, binaryOp → J0, compareOp → J6, wpAny_pyIter_list → Jb, mainGlobals → Jk, wpAny_mono → Jr, assignEach → Js, wpAny_isInstance → Jt, Builtin → Jy, wpAny_onRaise → Jz, wpAny_attempt → JA, foldedSetIterable → JE, cellsFrom → JF, bootBuiltins → JO, swappedStores → JR, cLine → JS, DictEntry → JT, wpAny_Call_Name_kw → JY, wpAny_passesOwn → K2, wpAny_truthy_bool → K7, wpAny_typeOf → K8, wpAny_standAt → Ki, IsPair → Km, NameKind → Kq, wpAny_of_eq → Ku, wpAny_letGo → Kv, tupleKind_room_in1 → KD, wpAny_loadPart' → KN, swapsWithSole → KP, pyNext → KR, FuncData → L3, IsZip → L5, backTo → Li, behindInMarks → Lj, call_meets → Lv, tupleKind → LA, swapsWith → LB, sliceBounds → LH, Operator → LJ, bindName → LK, wpAny_bindName → LL, rawInt → LM, codeAny_mono → LQ, Reads → LZ, isSubtype_type → Me, wpAny_dictEntries → Mh, inplaceOp → Mo, wpAny_pyIter_zip → Mt, assignInOrder → My, codeAny → MA, Model → MK, wpAny_updateSeq_pair → MP, letOwnedTupleGo → MU, codeAny_builtin → N1, Keyword → N8, wpAny_richCompare_same_room → Nf, firstArgMember → Nr, wpAny_newTuple → Nt, isSubtype_stop → Nu, wpAny_binaryOp_repeat_ref → NG, wpAny_letOwnedTupleGo_zip → NH, standAt → NM, getItem → NN, attributeBase → NT, wpAny_newList → NU, wpAny_comprehension_free → NV, noFill_tuple_add → O0, wpAny_pyNext_list_item → Ol, IsPart → Om, seqIndex_neg → Oo, wpAny_getItem_list_neg → Ot, typeIs_int → Ov, IsEnum → Ox, wpAny_execs_nil → OB, pushCells_keeps → OD, wpAny_ite_false → OE, wpAny_pyNext_list_end → OK, builtinLookup_eq_fast → OM, seqIndex_of → OP, keywordEach → OQ, atKey → OS, newFunctionEnv → OT, ZipApart → OU, ReadsAll → OW, wpAny_ite_true → P4, wpAny_pyIter_keyiter → P5, setItem → Ph, callerA → Pj, valueAt → Pk, seq_tuple_add → Pp, plainId_quiet → Pt, mroOf_keyiter → Pu, foldedForSure → Pz, pyIter → PH, BindsTo → Q5, concat_meets → Q6, wpAny_sequenceKey → Q7, call_meetsIn → Q9, callType_new → Qa, wpAny_pyIter_enum → Qb, wpAny_Dict_empty → Qs, pushCells → Qt, checkBuiltinCall → Qu, IsEnumOut → Qv, entryFor_of_tree → QA, wpAny_throw → QM, richCompare → QO, builtinsNs → R4, wpAny_Name → R5, bindL → R6, bindC → R7, backToKw → R8, call → R9
open PySem.Heap renaming get?_push_of_some → hH, get?_push_size → D1, lt_size → Hi, size_push → Io, SameBut → IV, get?_update_ne → Ji, IsTuple → Lb, get?_update_self → Ml, get?_push_cases → MQ, IsList → NP, get?_update_other → Ou, ExtBut → QL
open Bool renaming and_eq_true → tv, false_ne_true → He, false_eq_true → J4, not_eq_true' → Je, not_eq_true → Mr, false_or → MB, false_and → Nk, or_eq_true → OF, and_eq_true_iff → OV
open List renaming length_map → A0, length_append → A1, getElem?_eq_getElem → A2, range → B0, getElem?_append_right → B1, pairwise_append → D0, mem_cons → Hg, size_toArray → Hj, append_assoc → Hl, replicate → Ho, getElem?_append_left → Hq, map_cons → Hs, mem_map → Hu, mem_append_right → Hw, getElem?_eq_some_iff → Hx, mem_append → Hy, length_take → Hz, mem_range → HB, getElem?_map → HC, length_range → HD, not_mem_nil → HE, mem_cons_of_mem → HF, map_congr_left → HK, mem_of_getElem? → HN, length_singleton → HQ, toList_toArray → HR, length_cons → HS, mem_map_of_mem → HX, mem_cons_self → Ie, length_eq_zero_iff → Ij, map_map → Im, getD_eq_getElem?_getD → Ip, length_pos_iff → Iy, map_append → Iz, mem_append_left → IA, flatten_cons → IB, drop_eq_getElem_cons → IG, replicate_succ → IK, take_append_drop → IY, length_drop → J8, mem_flatMap → Ja, pairwise_map → Jd, nodup_iff_pairwise_ne → Jf, getElem?_range → Jh, append_nil → Jl, nodup_cons → Jm, find?_cons → Jn, length_nil → Jo, getElem?_eq_none → Jq, all_cons → Jv, any_cons → Jw, mem_iff_getElem → JC, filter_cons_of_pos → JG, filter_cons_of_neg → JH, forIn_cons → JI, dropLast_concat_getLast → JL, flatten_append → JN, map_nil → JP, drop_eq_nil_of_le → JQ, lookup_cons → JU, Perm → JV, any_eq_true → JW, zipWith → K9, mem_of_mem_drop → Ka, mem_of_mem_take → Kb, ext_getElem? → Kc, flatMap_cons → Ke, flatMap_append → Ko, getElem?_cons_succ → Ks, getElem?_set_self → Kw, take_of_length_le → KG, find?_cons_of_neg → KI, perm_append_comm → KU, length_filter_le → KW, reverse_cons → KY, zipIdx_cons → La, mem_reverse → Ld, all_eq_true → Le, getElem?_take_of_lt → Lk, mem_filter → Lo, of_mem_zip → Lp, foldl_cons → Lq, getElem?_drop → Lx, filter_append → Lz, length → LF, forIn_nil → LW, extract → Mc, reverse_perm → Md, find?_cons_of_pos → Mj, getElem?_zipWith → Mn, foldl → Mp, getElem_mem → Mv, getElem?_set_ne → MM, nil_append → MV, zipIdx_nil → MY, range_succ → N4, filterMap_cons → N5, length_reverse → N6, map_set → Ni, pairwise_cons → Nw, drop_drop → Nx, set_cons_zero → NB, set_cons_succ → ND, perm_ext_iff_of_nodup → NF, nodup_append → NR, set_comm → NS, sum_cons → NY, getElem?_replicate → NZ, drop_length → Oc, cons_append → Oe, getElem?_cons_zero → Of, length_zip → OG, sum_append → OI, map_const' → OJ, pairwise_reverse → OL, getElem?_mapIdx → OX, reverse_reverse → OY, length_zipWith → Po, mem_filterMap → PJ, take_add_one → Qe, getElem?_set → Qk, ext_getElem → Qw, map_snd_zip → Qz, range'_succ → QC, nodup_range → QH, map_zipWith → QI, flatMap_def → QJ, map_id → QP, length_set → QW
open PyProof.Rows renaming wpS_bind → D2, Keyed → Hf, pendingOf → Ht, arrOf → Ib, wpS_forRange → Iu, SortSt → Iv, callWith_type1 → IE, kindOf → IW, slot_tuple_getitem → Jp, wpS_modify → Ju, failedOf → JM, assignInOrder_cons → JX, SortKind → Ln, wpS_get → Lr, get?_update_seq → Lu, setPending → Lw, listUpdate_at → MD, mem_zip_self → Ng, AllBare → NK, assignInOrder_nil → NL, seqSlot_of → Oa, subscriptTail_builtinR → Oq, envOfC → OO, entry_tuple_getitem → Pm, args_tuple_getitem → PQ, unpackItems_tuple → Q2, listItems_at → Qg, seqObj → Qy, keyKind'_eq → QR, seqEpoch_at → QS, IntsAre → R3, mergeAt' → Rb
open Nat renaming le_refl → Hk, mul_le_mul → HH, lt_of_lt_of_le → HW, ne_of_lt → I0, le_trans → IH, lt_irrefl → IZ, ne_of_gt → J1, succ_mul → J2, zero_le → J9, mul_le_mul_right → Kd, add_mul → L8, le_of_lt → L9, min_eq_left → Ls, mul_comm → LV, sub_self → Nb, zero_add → Nc, succ_le_succ → Ob, div_lt_of_lt_mul → Pe, add_assoc → Pq, add_sub_cancel → PZ, not_lt → Ra, succ → Rk
open Array renaming toList_append → Hn, toList_push → Hr, length_toList → HJ, getElem?_toList → HM, getElem?_eq_getElem → HY, toList_reverse → Ia, toList_extract → JD, size_append → KZ, getElem?_eq_none → Mg, toList_inj → Mw, map → Mx, size_push → MZ, toList_setIfInBounds → Ny, toList → Oj, all_eq_true → Qh, filterMap → R0
open Int renaming toNat_natCast → HA, natCast_mul → HV, toNat_of_nonneg → Jg, mul_nonneg → K0, natCast_add → K6, mul_add → Kf, add_mul → L6, natCast_ediv → Lf, natCast_emod → Lg, emod_lt_of_pos → Ly, eq_ofNat_of_zero_le → LI, neg_mul → MR, emod_nonneg → N3, ofNat_lt → Ql
open PySem.NameKind renaming free → I8, cell → Jx
open PySem.W renaming mg_of → I9, kia_one → IU, fnOf → Kz, keepIn → L4, kitx_list → LN, kitx_dict → LO, cellsFrom_some → LR, codeIn → Nl, methodObj → NJ, instObj → OA, OpenLaw → OC, lookIn → ON, kitAny → P6, kitx_float → PM, kitx_tuple → PN, kitx_none → Q3, kitx_bool → Q4, plainGet → Qn, kitx_int → Qo, kitx_str → Qp
open PySem.Value renaming ref → Ii, type → IM, none → Kg, bool → Oi, int → Pf, str → Pg, float → QK
open PySem.Str renaming ofString → Iq
open List.Perm renaming append_left → Ir, append_right → IC, of_eq → KO, refl → OZ
open PySem.PyData renaming eqv → IP, canLayAll0 → IS, depthAll → JK, eqvAll → Kn, depth → KH, canLay0 → Mf, list → QN
open True renaming intro → J3
open PySem.SeqAt renaming readOf → Jc, readOf_eq → K5, EqAt → PR, eqAt_reads → Qx
open Option renaming some → Jj, isSome_iff_exists → Kj, map_eq_some_iff → KA, map_some → KL, bind_some → Lc, isSome_some → PV, getD_none → Qq, join_some → QE, bind_none → QF, join_none → QG
open PySem.Shared renaming heap → JB
open PySem.F renaming slot_zip_next → JJ, slot_tuple_iterator_next → JZ, plainAttrs_list → Kt, slot_enumerate_next → KS, args_tuple_add_2 → Ll, entry_tuple_add → LG, slot_tuple_add → LS, args_zip_next_1 → LX, slot_dict_get → Mm, entry_zip_next → Ms, slot_int_rmul → MW, args_tuple_iterator_next_1 → MX, entry_tuple_iterator_next → N9, slot_list_insert → NW, args_dict_get_3 → O1, args_enumerate_next_1 → O9, entry_dict_get → Ow, entry_enumerate_next → Oy, slot_dict_ne → P7, args_int_rmul_2 → Q8, entry_int_rmul → Qr, slot_dict_iter → QB, fills_int_mul → QX, entry_zip_new → QY, slot_tuple_lt → QZ
open PySem.Builtin.Slice renaming slicePlaces → K1, sliceAdjust → Lh, sliceApplied → Nm
open PySem.Paired renaming length → Kh
open PySem.Builtin.Tuple renaming tupleExact → Kk, tupleCompareSizes → Mk, tupleItemsOf → Np, tupleIsExact → Nq, tupleTooMany → Nv
open PySem.Obj renaming mapSeq → Kl, data_mapFields → PX
open LawfulBEq renaming eq_of_beq → Kr
open PySem.Calls renaming spliced_cons → Kx, spliced_nil → LP, callWith_builtin → LU, Name_function_global → Nj, evalArgs_plain → OR
open ForInStep renaming yield → KJ
open Function renaming comp → KQ
open PySem.Builtin.List renaming listTooLong → Lm, listLengthHint → Nh, listFitsIndex → NA
open PyProof.Rows.IsTup renaming new → LC
open PySem.Builtin.Range renaming rangeSize → LD, rangeFitsLong → Na
open PySem.Heap.IsTuple renaming push → LY
open And renaming intro → Mq
open PyProof.Rows.SortSt renaming mk' → Mu
open Prod.mk renaming injEq → MJ
open PySem.Data renaming seq → MN
open PySem.Heap.SameBut renaming update → N7
open PySem.Builtin.Dict_items renaming isOneOf → Nz
open PySem.Builtin.Dict renaming dictSlotArgs → NI, samePairs → Oz
open List.Pairwise renaming nil → NO
open Option.some renaming injEq → NQ
open PySem.Env renaming blockKind → NX, kindOf → Q1
open PySem.Heap.IsList renaming push → O8
open Sum renaming inl → Og, inr → Oh
open List.cons renaming injEq → OH
open PySem.Expr renaming Subscript → Pa, Attribute → Pb, Constant → Pw, ListComp → Px, UnaryOp → Qi, Compare → Qj, BoolOp → QT, BinOp → Rc, IfExp → Rf, Tuple → Rg, Slice → Rh, Name → Rl, List → Rm, Call → Ro, Dict → Rp
open PySem.Stmt renaming AugAssign → Pc, Continue → Py, Assign → QU, Return → QV, While → Ri, Break → Rj, Expr → Rq, Pass → Rr
open PySem.Builtin.Int renaming intBits → Pn
open PySem.SeqAt.EqAt renaming int_str → PD, str_int → PF, int_int → PU
open PySem.Around renaming in1_handled → PY, under_plain → Q0
open Iff renaming rfl → Qc
open Exists renaming intro → Qf
open PySem.Flow renaming next → Qm
namespace L2
open PySem PySem.Spec PyProof.Rows
section
noncomputable abbrev Key:=Sum Int Str
noncomputable def gL:Key->h6->Bool
 | .inl k,v=>Value.isInt k v
 | .inr x,v=>Value.isStrOf x v
noncomputable def Et (w:Ic):Key->Int
 | .inl k=>hashInt k
 | .inr x=>hashStr w x
theorem aU:∀ {k:Key} {v:h6},gL k v=true->(∃ i t,k=Og i/\v=Pf i t)∨(∃ x t,k=Oh x/\v=Pg x t)
 | .inl i,v,h=>by
  obtain ⟨t,e⟩:=Value.isInt_shape (k:=i) (v:=v) h;exact .inl ⟨i,t,rfl,e⟩
 | .inr x,v,h=>by
  obtain ⟨t,e⟩:=Value.isStrOf_shape (x:=x) (v:=v) h;exact .inr ⟨x,t,rfl,e⟩
theorem tO (i:Int) (t:Tok):gL (.inl i) (.int i t)=true:=by simp [gL,Value.isInt]
theorem tP (x:Str) (t:Tok):gL (.inr x) (.str x t)=true:=by simp [gL,Value.isStrOf]
theorem BG (a b:Int):decide ((Og a:Key)=Og b)=(a==b):=by
 by_cases e:a=b
 ·subst e;simp
 ·have h : ¬ (Og a:Key)=Og b:=fun q=>e (Og.inj q);rw [decide_eq_false h];exact (beq_eq_false_iff_ne.mpr e).symm
theorem BH (a b:Str):decide ((Oh a:Key)=Oh b)=decide (a=b):=by
 by_cases e:a=b
 ·subst e;simp
 ·have h : ¬ (Oh a:Key)=Oh b:=fun q=>e (Oh.inj q);rw [decide_eq_false h,decide_eq_false e]
theorem BI (a:Int) (b:Str):decide ((Og a:Key)=Oh b)=false:=decide_eq_false (fun q=>nomatch q)
theorem BJ (a:Str) (b:Int):decide ((Oh a:Key)=Og b)=false:=decide_eq_false (fun q=>nomatch q)
noncomputable def aK (prog:HI) (w:Ic):PySem.KeyKind prog w Key where
 is:=gL
 hash:=Et w
 inj:=fun v a b ha hb=>by
  rcases aU ha with ⟨i,t,rfl,rfl⟩ | ⟨x,t,rfl,rfl⟩
  ·rcases aU hb with ⟨j,u,rfl,e⟩ | ⟨y,u,rfl,e⟩
   ·injection e with e1 _;rw [e1]
   ·exact nomatch e
  ·rcases aU hb with ⟨j,u,rfl,e⟩ | ⟨y,u,rfl,e⟩
   ·exact nomatch e
   ·injection e with e1 _;rw [e1]
 byValue:=fun k v h=>by
  rcases aU h with ⟨i,t,rfl,rfl⟩ | ⟨x,t,rfl,rfl⟩ <;> rfl
 pyHash:=fun hv h=>by
  rcases aU hv with ⟨i,t,rfl,rfl⟩ | ⟨x,t,rfl,rfl⟩
  ·exact wpAny_pyHash_int h
  ·exact wpAny_pyHash_str h
 eqBool:=fun hu hv h=>by
  rcases aU hu with ⟨i,t,rfl,rfl⟩ | ⟨x,t,rfl,rfl⟩
  ·rcases aU hv with ⟨j,u,rfl,rfl⟩ | ⟨y,u,rfl,rfl⟩
   ·rw [BG] at h;exact wpAny_eqBool_int h
   ·rw [BI] at h;exact PD i t y u _ _ _ _ h
  ·rcases aU hv with ⟨j,u,rfl,rfl⟩ | ⟨y,u,rfl,rfl⟩
   ·rw [BJ] at h;exact PF x t j u _ _ _ _ h
   ·rw [BH] at h;exact wpAny_eqBool_str h
 «strs» := fun k x t v h=>by
  rcases aU h with ⟨i,u,rfl,e⟩ | ⟨y,u,rfl,e⟩
  ·exact nomatch e
  ·injection e with e1 _
   subst e1
   cases v <;> rfl
theorem pZ (prog:HI) (w:Ic) (i:Int) (t:Tok):(aK prog w).is (.inl i) (.int i t)=true:=tO i t
theorem q0 (prog:HI) (w:Ic) (x:Str) (t:Tok):(aK prog w).is (.inr x) (.str x t)=true:=tP x t
end
section
inductive V where
 | non | bl (b:Bool) | int (i:Int) | str (x:Str) | byt (b:Array UInt8) | flt (b:UInt64) | ref (a:Addr) | ty (n:String)
 deriving DecidableEq
noncomputable def RelV:V->h6->Prop
 | .non,u=>u=Kg
 | .bl b,u=>u=Oi b
 | .int i,u => ∃ t,u=Pf i t
 | .str x,u => ∃ t,u=Pg x t
 | .byt b,u => ∃ t,u=Value.bytes b t
 | .flt b,u => ∃ t,u=QK b t
 | .ref a,u=>u=Ii a
 | .ty n,u=>u=IM n
noncomputable abbrev Vals:List V->List h6->Prop:=Ih RelV
theorem Vals.length {xs:List V} {us:List h6} (r:Vals xs us):xs.length=us.length:=Kh r
theorem Vals.get:∀ {xs:List V} {us:List h6} {i:Nat} {x:V},Vals xs us->xs[i]? = some x -> ∃ u,us[i]? = some u/\RelV x u
 | _,_,_,_, .nil,e=>by simp at e
 | _,_,0,_, .cons r _,e=>by simp at e;subst e;exact ⟨_,rfl,r⟩
 | _,_,i+1,x, .cons _ t,e=>by
   obtain ⟨u,h1,h2⟩:=Vals.get (i:=i) (x:=x) t (by simpa using e)
   exact ⟨u,by simpa using h1,h2⟩
theorem Vals.set {x:V} {u:h6} (r:RelV x u):∀ {xs:List V} {us:List h6} (i:Nat),Vals xs us->Vals (xs.set i x) (us.set i u)
 | _,_,_, .nil => .nil
 | _,_,0, .cons _ t => .cons r t
 | _,_,i+1, .cons q t => .cons q (Vals.set r i t)
theorem Vals.append:∀ {xs ys:List V} {us ws:List h6},Vals xs us->Vals ys ws->Vals (xs++ys) (us++ws)
 | _,_,_,_, .nil,s=>s
 | _,_,_,_, .cons r t,s => .cons r (Vals.append t s)
theorem Vals.take:∀ {xs:List V} {us:List h6} (n:Nat),Vals xs us->Vals (xs.take n) (us.take n)
 | _,_,0,_ => .nil
 | _,_,_+1, .nil => .nil
 | _,_,n+1, .cons r t => .cons r (Vals.take n t)
theorem Vals.drop:∀ {xs:List V} {us:List h6} (n:Nat),Vals xs us->Vals (xs.drop n) (us.drop n)
 | _,_,0,r=>r
 | _,_,_+1, .nil => .nil
 | _,_,n+1, .cons _ t=>Vals.drop n t
noncomputable def RelO:Option V->Option h6->Prop
 | some v,some u=>RelV v u
 | none,none=>True
 | _,_=>False
noncomputable def KV {κ:Type}:List (κ × V)->List (κ × h6)->Prop:=Ih fun (p : κ × V) (q : κ × h6)=>p.1=q.1/\RelV p.2 q.2
noncomputable def kV:Key->V
 | .inl i => .int i
 | .inr x => .str x
inductive HO where
 | lst (xs:List V)
 | tup (xs:List V)
 | dK (kvs:List (Key×V)) | dT (kvs:List (List Key×V))
 | set (S:Int->Bool) (n:Nat)
 | ins (C dx:Addr) (fs:List (Str×V))
 | own (x:Addr)
 | xd (fs:List (Str×V))
 | met (f x:Addr)
 | rng (lo hi:Int)
 | frz (o:Obj) (u:HO)
 | tbl (ps:Array h6)
 | ext (φ:Heap->Prop)
noncomputable abbrev Hp:=Addr->Option HO
noncomputable def upd (H:Hp) (a:Addr) (o:HO):Hp:=fun b=>if b=a then some o else H b
theorem aw {H:Hp} {a:Addr} {o:HO}:upd H a o a=some o:=by unfold upd;rw [if_pos rfl]
theorem ak {H:Hp} {a b:Addr} {o:HO} (h:b≠a):upd H a o b=H b:=by unfold upd;rw [if_neg h]
theorem zN {H:Hp} {a:Addr} {o u:HO}:upd (upd H a o) a u=upd H a u:=by
 funext b;unfold upd;split <;> rfl
theorem yQ {H:Hp} {a b:Addr} {o u:HO} (h:H a=some o) (h':H b=some u) (d:o≠u):a≠b:=by
 intro e;subst e;rw [h] at h';exact d (Jj.inj h')
theorem b7 {H:Hp} {a b:Addr} {o:HO} (h:H a=some o) (h':H b=none):a≠b:=by
 intro e;subst e;rw [h] at h';cases h'
section
variable (P:HI) (w:Ic)
noncomputable def ObjOk (H:Hp) (h:Heap) (a:Addr):HO->Prop
 | .lst xs=>xs.length<=Hh /\ ∃ (its:List h6) (n:Nat),Vals xs its/\h.get? a=some { cls := .type "list",data := .seq its.toArray n }
 | .tup xs=>xs.length<=Hh /\ ∃ its:List h6,Vals xs its/\IsTup h a its.toArray
 | .dK kvs=>kvs.length<=Hh/\(a==IF)=false /\ ∃ vs,KV kvs vs/\h.DictOf (aK P w) a vs
 | .dT kvs=>kvs.length<=Hh/\(a==IF)=false /\ ∃ xs:List (List Key×Addr×h6),
  Ih (fun (p:List Key×V) (q:List Key×Addr×h6)=>p.1=q.1/\H q.2.1=some (.tup (p.1.map kV))/\RelV p.2 q.2.2) kvs xs /\
  ∃ o es ep,h.get? a=some o/\o.ExactDict/\o.data = .dict es ep/\es.toList=xs.map (entryOfKey (LA (aK P w)))/\(xs.map (·.1)).Nodup
 | .set S n=>h.SetOf (intKind P w) a S n
 | .ins C dx fs=>H dx=some (.own a)/\fs.length<=1000/\dx≠a/\h.get? a=some (OA C dx) /\
  ∃ mA,h.Ns1 dx mA/\(∀ f,RelO (fs.lookup f) (mA f))/\PySem.Within mA (fs.map (·.1))
 | .own _ => ∃ o,h.get? a=some o
 | .xd fs => ∃ mA,h.Ns1 a mA /\ ∀ f,RelO (fs.lookup f) (mA f)
 | .rng lo hi => ∃ t u v,h.get? a=some { cls := .type "range",data := .fields #[.int lo t, .int hi u, .int 1 v] }
 | .frz o u=>h.get? a=some o/\ObjOk H h a u
 | .tbl ps=>h.get? a=some { cls := .none,data := .fields ps }
 | .met f x=>h.get? a=some (NJ (.ref f) (.ref x))
 | .ext φ => φ h/\(∃ o,h.get? a=some o) /\ ∀ h1 h2:Heap, φ h1->(∀ o,h1.get? a=some o->h2.get? a=some o) -> φ h2
def HOk (H:Hp) (h:Heap):Prop := ∀ a o,H a=some o->ObjOk P w H h a o
end
section
variable {P:HI} {w:Ic} {H H':Hp} {h h':Heap} {a:Addr} {o:HO}
theorem ObjOk.lt (x:ObjOk P w H h a o):a < h.objs.size:=by
 cases o with
 | lst xs=>obtain ⟨_,_,_,_,e⟩:=x;exact Hi e
 | tup xs=>obtain ⟨_,_,_,p⟩:=x;exact p.lt
 | dK kvs=>obtain ⟨_,_,_,_,o,_,_,e,_⟩:=x;exact Hi e
 | dT kvs=>obtain ⟨_,_,_,_,o,_,_,e,_⟩:=x;exact Hi e
 | set S n=>obtain ⟨o,_,_,_,e,_⟩:=x;exact Hi e
 | ins C dx fs=>obtain ⟨_,_,_,e,_⟩:=x;exact Hi e
 | own y=>obtain ⟨_,e⟩:=x;exact Hi e
 | xd fs=>obtain ⟨_,⟨_,_,_,e,_⟩,_⟩:=x;exact Hi e
 | rng lo hi=>obtain ⟨_,_,_,e⟩:=x;exact Hi e
 | frz ob u=>obtain ⟨e,_⟩:=x;exact Hi e
 | tbl ps=>exact Hi (show h.get? a=some _ from x)
 | met f y=>exact Hi (show h.get? a=some _ from x)
 | ext φ => obtain ⟨_,⟨_,e⟩,_⟩:=x;exact Hi e
theorem Rz {α β:Type} {F G : α -> β -> Prop}:∀ {l₁:List α} {l₂:List β},Ih F l₁ l₂ -> (∀ a b,F a b->G a b)->Ih G l₁ l₂
 | _,_, .nil,_ => .nil
 | _,_, .cons r t,f => .cons (f _ _ r) (Rz t f)
theorem ObjOk.stay (x:ObjOk P w H h a o) (k:∀ b u,(b=a∨H b=some (.own a))->h.get? b=some u->h'.get? b=some u)
 (ho:∀ b,H b=some (.own a)->H' b=some (.own a)) (j:∀ b xs,H b=some (.tup xs)->H' b=some (.tup xs)):ObjOk P w H' h' a o:=by
 induction o with
 | lst xs=>obtain ⟨z,its,n,r,e⟩:=x;exact ⟨z,its,n,r,k _ _ (.inl rfl) e⟩
 | tup xs=>obtain ⟨z,its,r,ob,e,c⟩:=x;exact ⟨z,its,r,ob,k _ _ (.inl rfl) e,c⟩
 | dK kvs=>obtain ⟨z,y,vs,r,ob,es,ep,e,c⟩:=x;exact ⟨z,y,vs,r,ob,es,ep,k _ _ (.inl rfl) e,c⟩
 | dT kvs =>
   obtain ⟨z,y,xs,r,ob,es,ep,e,c⟩:=x;exact ⟨z,y,xs,Rz r fun p q z=>⟨z.1,j _ _ z.2.1,z.2.2⟩,ob,es,ep,k _ _ (.inl rfl) e,c⟩
 | set S n=>obtain ⟨ob,es,ep,t,e,c⟩:=x;exact ⟨ob,es,ep,t,k _ _ (.inl rfl) e,c⟩
 | ins C dx fs =>
   obtain ⟨d,z,ne,e,mA,⟨od,es,ep,e2,c⟩,r⟩:=x;exact ⟨ho _ d,z,ne,k _ _ (.inl rfl) e,mA,⟨od,es,ep,k _ _ (.inr d) e2,c⟩,r⟩
 | own y=>obtain ⟨ob,e⟩:=x;exact ⟨ob,k _ _ (.inl rfl) e⟩
 | xd fs=>obtain ⟨mA,⟨od,es,ep,e,c⟩,r⟩:=x;exact ⟨mA,⟨od,es,ep,k _ _ (.inl rfl) e,c⟩,r⟩
 | rng lo hi=>obtain ⟨t,u,v,e⟩:=x;exact ⟨t,u,v,k _ _ (.inl rfl) e⟩
 | frz ob u ih=>obtain ⟨e,q⟩:=x;exact ⟨k _ _ (.inl rfl) e,ih q⟩
 | tbl ps =>
   have e:h.get? a=some { cls := .none,data := .fields ps }:=x;show h'.get? a=some { cls := .none,data := .fields ps };exact k a _ (.inl rfl) e
 | met f y =>
   have e:h.get? a=some (NJ (.ref f) (.ref y)):=x;show h'.get? a=some (NJ (.ref f) (.ref y));exact k a _ (.inl rfl) e
 | ext φ => obtain ⟨p,⟨o,e⟩,st⟩:=x;exact ⟨st _ _ p fun o q=>k _ _ (.inl rfl) q,⟨o,k _ _ (.inl rfl) e⟩,st⟩
theorem HOk.lt (x:HOk P w H h) (e:H a=some o):a < h.objs.size:=(x a o e).lt
theorem HOk.fresh (x:HOk P w H h) (e:h.objs.size<=a):H a=none:=by
 cases q:H a with
 | none=>rfl
 | some u=>exact absurd (HW (x.lt q) e) (IZ _)
theorem HOk.kept (x:HOk P w H h) (k:∀ b u,h.get? b=some u->h'.get? b=some u):HOk P w H h':=fun a o e =>
 (x a o e).stay (fun b u _ q=>k b u q) (fun _ q=>q) fun _ _ q=>q
theorem HOk.laid (x:HOk P w H h) (k:∀ b u,h.get? b=some u->h'.get? b=some u) (j:h.objs.size<=a) (new:ObjOk P w (upd H a o) h' a o):HOk P w (upd H a o) h':=fun b u e=>by
 have hn:=x.fresh j
 by_cases hb:b=a
 ·subst hb;rw [aw] at e;cases e;exact new
 ·rw [ak hb] at e;exact (x b u e).stay (fun c v _ q=>k c v q) (fun c q=>by rw [ak (b7 q hn)];exact q) fun c xs q=>by rw [ak (b7 q hn)];exact q
end
def Rd (H:Hp) (a:Addr) (u:HO):Prop:=H a=some u ∨ ∃ o,H a=some (.frz o u)
theorem Rd.of {H:Hp} {a:Addr} {u:HO} (h:H a=some u):Rd H a u := .inl h
theorem Rd.ok {P:HI} {w:Ic} {H:Hp} {h:Heap} {a:Addr} {u:HO} (r:Rd H a u) (x:HOk P w H h):ObjOk P w H h a u:=by
 rcases r with r | ⟨o,r⟩
 ·exact x a u r
 ·obtain ⟨_,q⟩:=x a _ r;exact q
noncomputable def Mut:Option HO->Prop
 | some (.lst _)=>True
 | some (.dK _)=>True
 | some (.dT _)=>True
 | some (.set _ _)=>True
 | some (.ins _ _ _)=>True
 | some (.ext _)=>True
 | _=>False
section
variable {P:HI} {w:Ic} {H:Hp} {h h':Heap} {x e:Addr} {o':HO}
theorem HOk.write (ok:HOk P w H h) (mu:Mut (H x)) (he:e=x∨H e=some (.own x)) (k:∀ b u,b≠e->h.get? b=some u->h'.get? b=some u) (F:∃ u,h'.get? e=some u)
 (new:ObjOk P w (upd H x o') h' x o'):HOk P w (upd H x o') h':=fun b u q=>by
 have nown:∀ c y,H c=some (.own y)->c≠x:=fun c y r z=>by subst z;rw [r] at mu;exact mu
 have ntup:∀ c xs,H c=some (.tup xs)->c≠x:=fun c xs r z=>by subst z;rw [r] at mu;exact mu
 by_cases hb:b=x
 ·subst hb;rw [aw] at q;cases q;exact new
 ·rw [ak hb] at q
  by_cases j:b=e
  ·have q':H b=some (.own x):=by
    rcases he with z | z
    ·exact absurd (j.trans z) hb
    ·rw [j];exact z
   rw [q] at q';cases q';obtain ⟨v,G⟩:=F;exact ⟨v,by rw [j];exact G⟩
  ·refine (ok b u q).stay (fun c v B r=>k c v ?_ r) (fun c r=>by rw [ak (nown c b r)];exact r) fun c xs r=>by rw [ak (ntup c xs r)];exact r
   rcases B with rfl | B
   ·exact j
   ·rintro rfl
    rcases he with z | z
    ·exact nown c b B z
    ·rw [B] at z;cases z;exact hb rfl
end
structure Un (fs ex:List Addr) (H H':Hp) (h h':Heap):Prop where
 keep:∀ b o,h.get? b=some o->H b=none->b∉fs->b∉ex->h'.get? b=some o
 slot:∀ b o,h.get? b=some o->H b=none->b∈fs->b∉ex -> ∃ sl,h'.get? b=some { o with slots:=sl }
 free:∀ b o,h.get? b=some o->H b=none->b∉ex->H' b=none
 there:∀ b o,h.get? b=some o->b∉ex -> ∃ o',h'.get? b=some o'
 tups:∀ b xs,H b=some (.tup xs)->H' b=some (.tup xs)
 frzs:∀ b o u,H b=some (.frz o u)->H' b=some (.frz o u)
 tbls:∀ b ps,H b=some (.tbl ps) -> ∃ more,H' b=some (.tbl (ps++more))
section
variable {fs fs' ex ex':List Addr} {H H1 H2:Hp} {h h1 h2 h':Heap} {a x e:Addr} {o:HO}
theorem Un.any (u:Un fs ex H H1 h h1) {b:Addr} {ob:Obj} (q:h.get? b=some ob) (n:H b=none) (hx:b∉ex):∃ sl,h1.get? b=some { ob with slots:=sl }:=by
 by_cases hb:b∈fs
 ·exact u.slot b ob q n hb hx
 ·exact ⟨ob.slots,u.keep b ob q n hb hx⟩
theorem Un.kept (k:∀ b u,h.get? b=some u->h'.get? b=some u):Un fs ex H H h h' :=
 ⟨fun b ob q _ _ _=>k b ob q,fun b ob q _ _ _=>⟨ob.slots,k b ob q⟩,fun _ _ _ n _=>n,fun b ob q _=>⟨ob,k b ob q⟩,fun _ _ q=>q,fun _ _ _ q=>q,fun _ ps q=>⟨#[],by rw [q];simp⟩⟩
theorem Un.refl:Un fs ex H H h h:=Un.kept fun _ _ q=>q
theorem Un.laid (k:∀ b u,h.get? b=some u->h'.get? b=some u) (j:h.objs.size<=a) (hn:H a=none):Un fs ex H (upd H a o) h h' where
 keep:=fun b u q _ _ _=>k b u q
 slot:=fun b u q _ _ _=>⟨u.slots,k b u q⟩
 free:=fun b u q n _=>by rw [ak (I0 (HW (Hi q) j))];exact n
 there:=fun b u q _=>⟨u,k b u q⟩
 tups:=fun b xs q=>by rw [ak (b7 q hn)];exact q
 frzs:=fun b u xs q=>by rw [ak (b7 q hn)];exact q
 tbls:=fun b ps q=>⟨#[],by rw [ak (b7 q hn),q];simp⟩
theorem Un.write (mu:Mut (H x)) (he:e=x∨H e=some (.own x)) (k:∀ b u,b≠e->h.get? b=some u->h'.get? b=some u) (B:∃ u,h'.get? e=some u):Un fs ex H (upd H x o) h h':=by
 have hx:∀ b,H b=none->b≠x:=fun b n z=>by subst z;rw [n] at mu;exact mu
 have hb:∀ b,H b=none->b≠e:=fun b n z=>by
  subst z
  rcases he with r | r
  ·exact hx b n r
  ·rw [n] at r;cases r
 have hm:∀ b u,H b=some u -> ¬ Mut (some u)->b≠x:=fun b u q nm z=>by subst z;rw [q] at mu;exact nm mu
 refine ⟨fun b u q n _ _=>k b u (hb b n) q,fun b u q n _ _=>⟨u.slots,k b u (hb b n) q⟩,fun b u q n _=>by rw [ak (hx b n)];exact n,fun b u q _ => ?_,
  fun b xs q=>by rw [ak (hm b _ q fun z=>z)];exact q,fun b u xs q=>by rw [ak (hm b _ q fun z=>z)];exact q,fun b ps q=>⟨#[],by rw [ak (hm b _ q fun z=>z),q];simp⟩⟩
 by_cases j:b=e
 ·subst j;exact B
 ·exact ⟨u,k b u j q⟩
end
noncomputable def trk (h:Heap) (H:Hp):List Addr:=(B0 h.objs.size).filter fun a=>(H a).isSome
noncomputable def fC (h:Heap) (H:Hp):Heap:=PySem.W.hideAll h (trk h H)
theorem tQ (h:Heap) (H:Hp):(fC h H).objs.size=h.objs.size:=PySem.W.hideAll_size _ _
theorem wx {h:Heap} {H:Hp} {b:Addr} {o:Obj} (e:h.get? b=some o) (n:H b=none):(fC h H).get? b=some o :=
 PySem.W.hideAll_get _ e fun hm=>by
  have q:(H b).isSome=true:=(Lo.mp hm).2;rw [n] at q;simp at q
theorem zO {h:Heap} {H:Hp} {b:Addr} {o:Obj} (e:(fC h H).get? b=some o):h.get? b=some o/\H b=none:=by
 have e':h.get? b=some o:=PySem.W.of_hideAll (trk h H) e;refine ⟨e', ?_⟩
 cases q:H b with
 | none=>rfl
 | some x =>
   have hm:b∈trk h H:=Lo.mpr ⟨HB.mpr (Hi e'),by simp [q]⟩
   have z:(fC h H).get? b=none:=PySem.W.hideAll_none (trk h H) hm;rw [z] at e;cases e
noncomputable def zP (g h:Heap) (L:Addr):List (Addr×Obj):=(B0 h.objs.size).filterMap fun a=>if a=L∨(g.get? a).isSome=true then none else (h.get? a).map fun o=>(a,o)
noncomputable def rest (g h:Heap) (L d:Addr):List (Addr×Obj):=(zP g h L).filter fun p=>decide (p.1≠d)
end
section
structure Mod (K:Frag) (mg:Str->Option h6) (base:Heap):Prop where
 kin:K.In base
 glob:base.Ns Jk mg
 blt:∃ mb,base.Ns R4 mb /\ ∀ x:Str,x ≠ "__name__" -> mb x=JO x
 nolimit:base.NoLimit
structure Cx where
 prog:HI
 w:Ic
 K:Frag
 mg:Str->Option h6
 base:Heap
 A:Ik
 N:List Str
 s₀:z4
 H₀:Hp
 env:Env
 outer:List Env
 stack:List Env
 ex:List Addr
 fn:Str->Bool
 calm:Bool
 pn:List (Addr×Obj)
 xe:h6->z4->Prop
noncomputable def frs (l:List Env):List Addr:=l.filterMap (·.frame)
noncomputable abbrev Cx.fs (X:Cx):List Addr:=frs X.outer
def Vis (sc:Scope) (x:Str):Prop:=sc.names.lookup x=some .local∨sc.names.lookup x=some .cell∨sc.names.lookup x=some .free
def Loc (sc:Scope) (x:Str):Prop:=sc.names.lookup x=some .local∨sc.names.lookup x=some .cell
def Eu (env:Env) (h:Heap) (m:Str->Option h6) (x:Str) (u:h6):Prop :=
 (env.kindOf x=some .local/\m x=some u)∨((env.kindOf x=some .cell∨env.kindOf x=some .free) /\ ∃ c,env.cells.lookup x=some c/\h.IsCell c (some u))
structure Cx.Ok (X:Cx):Prop where
 mod:Mod X.K X.mg X.base
 kind:X.env.scope.kind = .function
 glob:X.env.globals=Jk
 blt:X.env.builtins=R4
 above:X.s₀.heap.objs.size<=X.env.locals
 inj:∀ x y c,X.env.cells.lookup x=some c->X.env.cells.lookup y=some c->x=y
 has:∀ x,(X.env.kindOf x=some .cell∨X.env.kindOf x=some .free) -> ∃ c,X.env.cells.lookup x=some c
 cab:∀ x c,X.fn x=true->X.env.cells.lookup x=some c->X.s₀.heap.objs.size<=c
 hd:X.calm=true->X.A.handled=none
 frames:X.A.frames=some X.stack
 stk:X.stack=X.outer∨(X.stack=X.env::X.outer/\X.env.frame=some X.env.locals)
 exf:∀ b∈X.ex,b≠X.env.locals /\ ∀ x c,X.env.cells.lookup x=some c->c≠b
 bs:∀ b o,X.base.get? b=some o->X.s₀.heap.get? b=some o/\X.H₀ b=none
 bsz:X.base.objs.size<=X.s₀.heap.objs.size
 noex:∀ b o,X.base.get? b=some o->b∉X.ex
 exfs:∀ b∈X.ex,b∉X.fs
 funs:X.s₀.heap.FunFrames X.base X.outer
 frf:∀ b∈X.fs,X.H₀ b=none
structure Inv (X:Cx) (pins:List (Addr×Obj)) (σ:List (Option V)) (H:Hp) (s:z4):Prop where
 ok:X.Ok
 os:s.os=X.s₀.os
 bare:NK s.gens
 base:Un X.fs X.ex X.H₀ H X.s₀.heap s.heap
 loc:∃ m,s.heap.Ns X.env.locals m /\ ∀ (i:Nat) (x:Str) (v:V),X.N[i]? = some x -> σ[i]? = some (some v)->Vis X.env.scope x -> ∃ u,RelV v u/\Eu X.env s.heap m x u
 cell:∀ x c,X.env.cells.lookup x=some c -> ∃ v,s.heap.IsCell c v
 free:H X.env.locals=none
 freeC:∀ x c,X.env.cells.lookup x=some c->H c=none
 pin:∀ p∈X.pn++pins,s.heap.get? p.1=some p.2/\H p.1=none/\p.1≠X.env.locals/\p.1∉X.fs /\ ∀ v,p.2.data ≠ .cell v
 hok:HOk X.prog X.w H s.heap
 len : σ.length=X.N.length
section
variable {X:Cx} {pins:List (Addr×Obj)} {σ:List (Option V)} {H H':Hp} {s:z4} {h':Heap}
theorem Cx.Ok.nofr (ok:X.Ok) {b:Addr} {o:Obj} (e:X.base.get? b=some o):b∉X.fs:=fun hb=>by
 have:=(ok.funs.mem hb).1;rw [e] at this;cases this
theorem Inv.bs (I:Inv X pins σ H s):∀ b o,X.base.get? b=some o->s.heap.get? b=some o/\H b=none:=fun b o e =>
 ⟨I.base.keep b o (I.ok.bs b o e).1 (I.ok.bs b o e).2 (I.ok.nofr e) (I.ok.noex b o e),I.base.free b o (I.ok.bs b o e).1 (I.ok.bs b o e).2 (I.ok.noex b o e)⟩
theorem Inv.bk (I:Inv X pins σ H s):∀ b o,X.base.get? b=some o->s.heap.get? b=some o:=fun b o e=>(I.bs b o e).1
theorem Inv.mod (I:Inv X pins σ H s):Mod X.K X.mg X.base:=I.ok.mod
theorem Inv.kIn (I:Inv X pins σ H s):X.K.In s.heap:=I.ok.mod.kin.keeps I.bk
theorem Inv.fr (I:Inv X pins σ H s):∃ m,Fr X.base X.env.locals s.heap m :=
 let ⟨m,hn,_⟩:=I.loc
 ⟨m,hn,I.bk,IH I.ok.bsz I.ok.above⟩
theorem Inv.lt (I:Inv X pins σ H s):X.env.locals < s.heap.objs.size:=let ⟨_,hn,_⟩:=I.loc;hn.lt
theorem Inv.sz (I:Inv X pins σ H s):X.s₀.heap.objs.size<=s.heap.objs.size:=IH I.ok.above (L9 I.lt)
theorem Inv.nofs (I:Inv X pins σ H s) {a:Addr} (h:s.heap.objs.size<=a):a∉X.fs:=fun hb=>by
 obtain ⟨_,o,ho,_⟩:=I.ok.funs.mem hb;exact absurd (HW (Hi ho) (IH I.sz h)) (IZ _)
theorem Inv.cne (I:Inv X pins σ H s):∀ x c,X.env.cells.lookup x=some c->c≠X.env.locals:=fun x c e z=>by
 obtain ⟨v,o,ho,hd⟩:=I.cell x c e;obtain ⟨m,⟨o',es,ep,j,q,_⟩,_⟩:=I.loc;rw [z,j] at ho;cases ho;rw [q] at hd;cases hd
theorem Inv.funs (I:Inv X pins σ H s):s.heap.FunFrames X.base X.outer:=by
 have all:∀ (l:List Env),(∀ b∈frs l,b∈X.fs)->X.s₀.heap.FunFrames X.base l->s.heap.FunFrames X.base l:=by
  intro l
  induction l with
  | nil=>intro _ _;trivial
  | cons env r ih =>
    intro hs q;obtain ⟨B,⟨L,o,hf,hn,ho,hd⟩,F⟩:=q;have j:L∈X.fs:=hs L (by unfold frs;rw [N5,hf];exact Ie)
    obtain ⟨sl,e⟩:=I.base.slot L o ho (I.ok.frf L j) j fun z=>I.ok.exfs L z j;exact ⟨B,⟨L,_,hf,hn,e,hd⟩,ih (fun b hb=>hs b (by unfold frs;rw [N5,hf];exact HF _ hb)) F⟩
 exact all X.outer (fun _ hb=>hb) I.ok.funs
theorem Inv.stack (I:Inv X pins σ H s):s.heap.FunFrames X.base X.stack:=by
 rcases I.ok.stk with e | ⟨e,hf⟩
 ·rw [e];exact I.funs
 ·rw [e];obtain ⟨m,hn,_⟩:=I.loc;refine .cons (by rw [I.ok.kind];decide) hf hn ?_ I.funs
  exact Heap.get?_none_of_le (IH I.ok.bsz I.ok.above)
theorem Inv.stkSub (I:Inv X pins σ H s):∀ b∈frs X.stack,b∈X.env.locals::X.fs:=fun b hb=>by
 rcases I.ok.stk with e | ⟨e,hf⟩
 ·rw [e] at hb;exact HF _ hb
 ·rw [e] at hb;unfold frs at hb;rw [N5,hf] at hb;exact hb
theorem Inv.stkFree (I:Inv X pins σ H s):∀ b∈frs X.stack,H b=none:=fun b hb=>by
 rcases Hg.mp (I.stkSub b hb) with e | hb
 ·rw [e];exact I.free
 ·obtain ⟨_,o,ho,_⟩:=I.ok.funs.mem hb;exact I.base.free b o ho (I.ok.frf b hb) fun z=>I.ok.exfs b z hb
theorem Inv.step {g':Array GenState} {t':Nat} {d':Drawn} {ch:List Addr} (I:Inv X pins σ H s)
 (j:∀ b∈ch,(b∈X.ex∨X.s₀.heap.objs.size<=b)/\b≠X.env.locals/\(∀ x c,X.env.cells.lookup x=some c->c≠b) /\ ∀ p∈X.pn++pins,p.1≠b)
 (keep:∀ b o,b≠X.env.locals->b∉X.fs->b∉ch->s.heap.get? b=some o->H b=none->h'.get? b=some o)
 (slot:∀ b o,b≠X.env.locals->b∈X.fs->b∉ch->s.heap.get? b=some o->H b=none -> ∃ sl,h'.get? b=some { o with slots:=sl }) (free:∀ b o,b∉ch->s.heap.get? b=some o->H b=none->H' b=none)
 (there:∀ b o,b∉ch->s.heap.get? b=some o -> ∃ o',h'.get? b=some o')
 (tups:∀ b xs,H b=some (.tup xs)->H' b=some (.tup xs)) (frzs:∀ b o u,H b=some (.frz o u)->H' b=some (.frz o u)) (tbls:∀ b ps,H b=some (.tbl ps) -> ∃ more,H' b=some (.tbl (ps++more)))
 (ns:∀ m,s.heap.Ns X.env.locals m->h'.Ns X.env.locals m) (hok:HOk X.prog X.w H' h') (G:NK g') :
 Inv X pins σ H' { s with heap:=h',gens:=g',drawn:=d',toks:=t' }:=by
 have neL:∀ b o,X.s₀.heap.get? b=some o->b≠X.env.locals:=fun b o e=>I0 (HW (Hi e) I.ok.above);have neC:∀ b o,X.s₀.heap.get? b=some o->b∉X.ex->b∉ch:=fun b o e hx hb=>by
  rcases (j b hb).1 with z | z
  ·exact hx z
  ·exact absurd (HW (Hi e) z) (IZ _)
 have cellK:∀ x c,X.env.cells.lookup x=some c -> ∀ v,s.heap.IsCell c v->h'.IsCell c v:=fun x c e v ⟨o,ho,hd⟩=>by
  have nch:c∉ch:=fun z=>(j c z).2.2.1 x c e rfl
  by_cases B:c∈X.fs
  ·obtain ⟨sl,q⟩:=slot c o (I.cne x c e) B nch ho (I.freeC x c e);exact ⟨_,q,hd⟩
  ·exact ⟨o,keep c o (I.cne x c e) B nch ho (I.freeC x c e),hd⟩
 refine ⟨I.ok,I.os,G,⟨fun b o e n hb hx => ?_,fun b o e n hb hx => ?_,fun b o e n hx => ?_,fun b o e hx => ?_,fun b xs e=>tups b xs (I.base.tups b xs e),fun b o xs e=>frzs b o xs (I.base.frzs b o xs e),fun b ps e => ?_⟩, ?_,fun x c e => ?_, ?_,fun x c e => ?_,fun p F => ?_,hok,I.len⟩
 ·exact keep b o (neL b o e) hb (neC b o e hx) (I.base.keep b o e n hb hx) (I.base.free b o e n hx)
 ·obtain ⟨sl,e1⟩:=I.base.slot b o e n hb hx;obtain ⟨sl',e2⟩:=slot b _ (neL b o e) hb (neC b o e hx) e1 (I.base.free b o e n hx);exact ⟨sl',e2⟩
 ·obtain ⟨o',e1⟩:=I.base.there b o e hx;exact free b o' (neC b o e hx) e1 (I.base.free b o e n hx)
 ·obtain ⟨o',e1⟩:=I.base.there b o e hx;exact there b o' (neC b o e hx) e1
 ·obtain ⟨J,e1⟩:=I.base.tbls b ps e;obtain ⟨L,e2⟩:=tbls b _ e1;exact ⟨J++L,by rw [e2,Array.append_assoc]⟩
 ·obtain ⟨m,hn,O⟩:=I.loc;refine ⟨m,ns m hn,fun i x v e1 e2 U => ?_⟩;obtain ⟨u,r,l⟩:=O i x v e1 e2 U;refine ⟨u,r, ?_⟩
  rcases l with l | ⟨k,c,e,z⟩
  ·exact .inl l
  ·exact .inr ⟨k,c,e,cellK x c e _ z⟩
 ·obtain ⟨v,z⟩:=I.cell x c e;exact ⟨v,cellK x c e v z⟩
 ·obtain ⟨m,⟨o,_,_,ho,_⟩,_⟩:=I.loc;exact free _ o (fun z=>(j _ z).2.1 rfl) ho I.free
 ·obtain ⟨v,o,ho,hd⟩:=I.cell x c e;exact free c o (fun z=>(j c z).2.2.1 x c e rfl) ho (I.freeC x c e)
 ·obtain ⟨e,n,ne,nf,d⟩:=I.pin p F;have nch:p.1∉ch:=fun z=>(j p.1 z).2.2.2 p F rfl;exact ⟨keep p.1 p.2 ne nf nch e n,free p.1 p.2 nch e n,ne,nf,d⟩
theorem Inv.un {t':Nat} (I:Inv X pins σ H s) (u:Un X.fs [] H H' s.heap h') (hok:HOk X.prog X.w H' h'):Inv X pins σ H' { s with heap:=h',toks:=t' }:=by
 obtain ⟨m,⟨o,es,ep,ho,r⟩,_⟩:=id I.loc;obtain ⟨sl,q⟩:=u.any ho I.free (by simp)
 exact I.step (g':=s.gens) (d':=s.drawn) (ch := []) (fun _ z=>nomatch z) (fun b o _ hb _ e n=>u.keep b o e n hb (by simp)) (fun b o _ hb _ e n=>u.slot b o e n hb (by simp)) (fun b o _ e n=>u.free b o e n (by simp)) (fun b o _ e=>u.there b o e (by simp)) u.tups u.frzs u.tbls (fun m' hm=>by
  obtain ⟨o',es',ep',j,r'⟩:=hm;rw [ho] at j;cases j;exact ⟨_,es',ep',q,r'⟩) hok I.bare
theorem Inv.call {g':Array GenState} {t':Nat} {d':Drawn} {ch:List Addr} (I:Inv X pins σ H s) (u:Un (frs X.stack) ch H H' s.heap h') (hok:HOk X.prog X.w H' h') (G:NK g')
 (q:∀ b∈ch,(b∈X.ex∨X.s₀.heap.objs.size<=b)/\b≠X.env.locals/\(∀ x c,X.env.cells.lookup x=some c->c≠b) /\ ∀ p∈X.pn++pins,p.1≠b) :
 Inv X pins σ H' { s with heap:=h',gens:=g',drawn:=d',toks:=t' }:=by
 obtain ⟨m,⟨o,es,ep,ho,r⟩,_⟩:=id I.loc;obtain ⟨sl,F⟩:=u.any ho I.free fun z=>(q _ z).2.1 rfl;exact I.step (ch:=ch) q (fun b o F hb j e n=>u.keep b o e n (fun z=>(Hg.mp (I.stkSub b z)).elim F hb) j) (fun b o _ _ j e n=>u.any e n j) (fun b o j e n=>u.free b o e n j) (fun b o j e=>u.there b o e j) u.tups u.frzs u.tbls (fun m' hm=>by
  obtain ⟨o',es',ep',B,r'⟩:=hm;rw [ho] at B;cases B;exact ⟨_,es',ep',F,r'⟩) hok G
theorem Inv.turned {t':Nat} {it:Addr} (I:Inv X pins σ H s) (k:∀ b o,b≠it->s.heap.get? b=some o->h'.get? b=some o) (hn:H it=none) (B:it≠X.env.locals)
 (h1:it∈X.ex∨X.s₀.heap.objs.size<=it) (h2:∀ x c,X.env.cells.lookup x=some c->c≠it) (F:∀ p∈X.pn++pins,p.1≠it):Inv X pins σ H { s with heap:=h',toks:=t' }:=by
 have nit:∀ b u,H b=some u->b≠it:=fun b u e z=>by rw [z,hn] at e;cases e
 refine I.step (g':=s.gens) (d':=s.drawn) (ch := [it]) (fun b hb => ?_) (fun b o _ _ j e _=>k b o (fun z=>j (by simp [z])) e) (fun b o _ _ j e _=>⟨o.slots,k b o (fun z=>j (by simp [z])) e⟩) (fun _ _ _ _ n=>n)
  (fun b o j e=>⟨o,k b o (fun z=>j (by simp [z])) e⟩) (fun _ _ e=>e) (fun _ _ _ e=>e) (fun b ps e=>⟨#[],by rw [e];simp⟩) (fun m hm => ?_) (fun b u e => ?_) I.bare
 ·have e:b=it:=by simpa using hb
  subst e;exact ⟨h1,B,h2,F⟩
 ·obtain ⟨o,es,ep,ho,r⟩:=hm;exact ⟨o,es,ep,k _ o (Ne.symm B) ho,r⟩
 ·refine (I.hok b u e).stay (fun c v j q=>k c v ?_ q) (fun _ q=>q) fun _ _ q=>q
  rcases j with z | z
  ·rw [z];exact nit b u e
  ·exact nit c _ z
theorem Inv.tok (I:Inv X pins σ H s) (t:Nat):Inv X pins σ H { s with toks:=t }:=I.un (h':=s.heap) (t':=t) Un.refl I.hok
theorem Inv.kept {t':Nat} (I:Inv X pins σ H s) (k:∀ b u,s.heap.get? b=some u->h'.get? b=some u):Inv X pins σ H { s with heap:=h',toks:=t' }:=I.un (Un.kept k) (I.hok.kept k)
theorem Inv.laid {a:Addr} {o:HO} {t':Nat} (I:Inv X pins σ H s) (k:∀ b u,s.heap.get? b=some u->h'.get? b=some u) (j:s.heap.objs.size<=a) (new:ObjOk X.prog X.w (upd H a o) h' a o) :
 Inv X pins σ (upd H a o) { s with heap:=h',toks:=t' }:=I.un (Un.laid k j (I.hok.fresh j)) (I.hok.laid k j new)
theorem Inv.write {x e:Addr} {o:HO} {t':Nat} (I:Inv X pins σ H s) (mu:Mut (H x)) (he:e=x∨H e=some (.own x)) (k:∀ b u,b≠e->s.heap.get? b=some u->h'.get? b=some u) (j:∃ u,h'.get? e=some u)
 (new:ObjOk X.prog X.w (upd H x o) h' x o):Inv X pins σ (upd H x o) { s with heap:=h',toks:=t' }:=I.un (Un.write mu he k j) (I.hok.write mu he k j new)
theorem Inv.pins_of {pins':List (Addr×Obj)} (I:Inv X pins σ H s) (h:∀ p∈pins',s.heap.get? p.1=some p.2/\H p.1=none/\p.1≠X.env.locals/\p.1∉X.fs /\ ∀ v,p.2.data ≠ .cell v):Inv X pins' σ H s :=
 ⟨I.ok,I.os,I.bare,I.base,I.loc,I.cell,I.free,I.freeC,fun p j=>(Hy.mp j).elim (fun z=>I.pin p (IA _ z)) (h p),I.hok,I.len⟩
theorem n9 {N:List Str} (q:N.Nodup) {i j:Nat} {x:Str} (a:N[i]? = some x) (b:N[j]? = some x):i=j:=by
 obtain ⟨h1,e1⟩:=Hx.mp a;obtain ⟨h2,e2⟩:=Hx.mp b;exact (List.getElem_inj q).mp (e1.trans e2.symm)
theorem tR {M:MK} {A:Ik} {E:h6->z4->Prop} {i:Nat} {x:Str} {v:V} {u:h6} {Q:Unit->z4->Prop} (I:Inv X pins σ H s) (hN:X.N.Nodup) (hi:X.N[i]? = some x) (hx:Loc X.env.scope x) (r:RelV v u)
 (h:∀ s',Inv X pins (σ.set i (some v)) H s'->(∃ a,IV a s.heap s'.heap/\(a=X.env.locals∨X.env.cells.lookup x=some a))->Q () s') (hf:X.fn x=true∨X.env.scope.names.lookup x=some .local:=by first | exact .inl rfl | exact .inr rfl | assumption):Hm M A (storeName X.env x u) Q E s:=by
 obtain ⟨m,hn,hl⟩:=id I.loc;have O:(X.env.scope.kind == .class || (X.env.scope.kind == .module&&X.env.locals != X.env.globals))=false:=by rw [I.ok.kind];rfl
 have U:i < σ.length:=by rw [I.len];exact (Hx.mp hi).1
 have cne:=I.cne;have tracked:∀ {a:Addr} {h':Heap},(∃ o,s.heap.get? a=some o/\H a=none)->IV a s.heap h'->HOk X.prog X.w H h':=fun {a h'} ha hs b ob e=>by
  obtain ⟨_,_,F⟩:=ha;refine (I.hok b ob e).stay (fun c w' B q=>(hs.2 c ?_).trans q) (fun _ q=>q) fun _ _ q=>q;rintro rfl
  rcases B with rfl | B
  ·rw [F] at e;cases e
  ·rw [F] at B;cases B
 rcases hx with G | G
 ·refine wpAny_storeName_local G hn (fun h' EZ hs => ?_) O;obtain ⟨oL,_,_,F1,_⟩:=id hn;refine h _ ⟨I.ok,I.os,I.bare,⟨fun b o e n hb hx => ?_,fun b o e n hb hx => ?_,I.base.free,fun b o e hx => ?_,I.base.tups,I.base.frzs,I.base.tbls⟩,⟨_,EZ,fun j y v' e1 e2 e3 => ?_⟩,fun y c e => ?_,I.free,I.freeC,fun p hp => ?_,tracked ⟨oL,F1,I.free⟩ hs,by simpa using I.len⟩ ⟨_,hs, .inl rfl⟩
  ·exact (hs.2 b (I0 (HW (Hi e) I.ok.above))).trans (I.base.keep b o e n hb hx)
  ·obtain ⟨sl,e1⟩:=I.base.slot b o e n hb hx;exact ⟨sl,(hs.2 b (I0 (HW (Hi e) I.ok.above))).trans e1⟩
  ·obtain ⟨o',e1⟩:=I.base.there b o e hx;exact ⟨o',(hs.2 b (I0 (HW (Hi e) I.ok.above))).trans e1⟩
  ·by_cases J:j=i
   ·subst J;rw [hi] at e1;cases e1;rw [Kw U] at e2
    cases e2
    exact ⟨u,r, .inl ⟨G,by simp⟩⟩
   ·rw [MM (Ne.symm J)] at e2;obtain ⟨u',r',q⟩:=hl j y v' e1 e2 e3;refine ⟨u',r', ?_⟩
    rcases q with ⟨k,e⟩ | ⟨k,c,e,z⟩
    ·refine .inl ⟨k, ?_⟩;have:y≠x:=fun e=>J (n9 hN e1 (e ▸ hi));simp [this,e]
    ·exact .inr ⟨k,c,e,z.sameBut hs (cne y c e)⟩
  ·obtain ⟨w',z⟩:=I.cell y c e;exact ⟨w',z.sameBut hs (cne y c e)⟩
  ·obtain ⟨e,n,ne,nf,d⟩:=I.pin p hp;exact ⟨(hs.2 p.1 ne).trans e,n,ne,nf,d⟩
 ·have L:X.fn x=true:=by
   rcases hf with z | z
   ·exact z
   ·rw [z] at G;cases G
  obtain ⟨c,B⟩:=I.ok.has x (.inl G);obtain ⟨w',z⟩:=I.cell x c B;refine wpAny_storeName_cell I.ok.kind G B z (fun h' Y hs => ?_);obtain ⟨oc,Z,EX⟩:=id z;refine h { s with heap:=h' } ⟨I.ok,I.os,I.bare,⟨fun b o e n hb hx => ?_,fun b o e n hb hx => ?_,I.base.free,fun b o e hx => ?_,I.base.tups,I.base.frzs,I.base.tbls⟩,⟨m,hn.sameBut hs (Ne.symm (cne x c B)),fun j y v' e1 e2 e3 => ?_⟩,fun y c' e => ?_,I.free,I.freeC,fun p hp => ?_,tracked ⟨oc,Z,I.freeC x c B⟩ hs,by simpa using I.len⟩ ⟨c,hs, .inr B⟩
  ·exact (hs.2 b (I0 (HW (Hi e) (I.ok.cab x c L B)))).trans (I.base.keep b o e n hb hx)
  ·obtain ⟨sl,e1⟩:=I.base.slot b o e n hb hx;exact ⟨sl,(hs.2 b (I0 (HW (Hi e) (I.ok.cab x c L B)))).trans e1⟩
  ·obtain ⟨o',e1⟩:=I.base.there b o e hx;exact ⟨o',(hs.2 b (I0 (HW (Hi e) (I.ok.cab x c L B)))).trans e1⟩
  ·by_cases J:j=i
   ·subst J;rw [hi] at e1;cases e1;rw [Kw U] at e2
    cases e2
    exact ⟨u,r, .inr ⟨.inl G,c,B,Y⟩⟩
   ·rw [MM (Ne.symm J)] at e2;obtain ⟨u',r',q⟩:=hl j y v' e1 e2 e3;refine ⟨u',r', ?_⟩
    rcases q with q | ⟨k,c',e,z'⟩
    ·exact .inl q
    ·refine .inr ⟨k,c',e,z'.sameBut hs ?_⟩;rintro rfl;exact J (n9 hN e1 (I.ok.inj _ _ _ e B ▸ hi))
  ·by_cases EY:c'=c
   ·subst EY;exact ⟨_,Y⟩
   ·obtain ⟨w2,z2⟩:=I.cell y c' e;exact ⟨w2,z2.sameBut hs EY⟩
  ·obtain ⟨e,n,ne,nf,d⟩:=I.pin p hp;refine ⟨(hs.2 p.1 ?_).trans e,n,ne,nf,d⟩;intro q;rw [q,Z] at e;have q':oc=p.2:=Jj.inj e;exact d w' (by rw [<- q'];exact EX)
theorem cS {M:MK} {A:Ik} {E:h6->z4->Prop} {i:Nat} {x:Str} {v:V} {u:h6} {Q:Unit->z4->Prop} (I:Inv X pins σ H s) (j:X.N.Nodup) (hi:X.N[i]? = some x) (hx:Loc X.env.scope x) (r:RelV v u)
 (h:∀ s',Inv X pins (σ.set i (some v)) H s'->Q () s') (hf:X.fn x=true∨X.env.scope.names.lookup x=some .local:=by first | exact .inl rfl | exact .inr rfl | assumption):Hm M A (storeName X.env x u) Q E s :=
 tR I j hi hx r (fun s' I' _=>h s' I') hf
theorem Inv.call' {s':z4} {ch:List Addr} (I:Inv X pins σ H s) (ho:s'.os=s.os) (u:Un (frs X.stack) ch H H' s.heap s'.heap) (hok:HOk X.prog X.w H' s'.heap) (q:NK s'.gens)
 (j:∀ b∈ch,(b∈X.ex∨X.s₀.heap.objs.size<=b)/\b≠X.env.locals/\(∀ x c,X.env.cells.lookup x=some c->c≠b) /\ ∀ p∈X.pn++pins,p.1≠b):Inv X pins σ H' s':=by
 obtain ⟨h',g',d',t',o'⟩:=s';have e:o'=s.os:=ho;subst e;exact I.call (g':=g') (t':=t') (d':=d') u hok q j
end
noncomputable abbrev XK:=h6->Option Addr->Hp->Prop
noncomputable abbrev St:=List (Option V)
noncomputable abbrev VK:=V->Hp->Prop
noncomputable abbrev TE:=St->Hp->VK->Prop
noncomputable abbrev TT:=St->Hp->(Bool->Hp->Prop)->Prop
noncomputable abbrev TA:=St->Hp->(List V->Hp->Prop)->Prop
structure bE where
 nx:St->Hp->Prop
 rt:VK
 bk:St->Hp->Prop:=fun _ _=>False
 ct:St->Hp->Prop:=fun _ _=>False
noncomputable abbrev TS:=bE->St->Hp->Prop
def EP (X:Cx) (pins:List (Addr×Obj)) (σ:St) (Q:VK) (u:h6) (s':z4):Prop := ∃ v H',Inv X pins σ H' s'/\RelV v u/\Q v H'
def TP (X:Cx) (pins:List (Addr×Obj)) (σ:St) (Q:Bool->Hp->Prop) (b:Bool) (s':z4):Prop := ∃ H',Inv X pins σ H' s'/\Q b H'
def AP (X:Cx) (pins:List (Addr×Obj)) (σ:St) (Q:List V->Hp->Prop) (us:List h6) (s':z4):Prop := ∃ vs H',Inv X pins σ H' s'/\Vals vs us/\Q vs H'
def SP (X:Cx) (pins:List (Addr×Obj)) (D:bE) (f:Flow) (s':z4):Prop :=
 match f with
 | .next => ∃ σ' H',Inv X pins σ' H' s'/\D.nx σ' H'
 | .brk => ∃ σ' H',Inv X pins σ' H' s'/\D.bk σ' H'
 | .cont => ∃ σ' H',Inv X pins σ' H' s'/\D.ct σ' H'
 | .ret u => ∃ v σ' H',Inv X pins σ' H' s'/\RelV v u/\D.rt v H'
def PE (X:Cx) (e:Expr) (t:TE):Prop :=
 ∀ (pins:List (Addr×Obj)) (s:z4) (σ:St) (H:Hp) (Q:VK),Inv X pins σ H s->t σ H Q->Hm (model X.prog X.w) X.A (eval e X.env) (EP X pins σ Q) X.xe s
def PT (X:Cx) (e:Expr) (t:TT):Prop :=
 ∀ (pins:List (Addr×Obj)) (s:z4) (σ:St) (H:Hp) (Q:Bool->Hp->Prop),Inv X pins σ H s->t σ H Q->Hm (model X.prog X.w) X.A (isTrue e X.env (eval e X.env)) (TP X pins σ Q) X.xe s
def PW (X:Cx) (e:Expr) (t:TT):Prop :=
 ∀ (whole:Sem h6) (pins:List (Addr×Obj)) (s:z4) (σ:St) (H:Hp) (Q:Bool->Hp->Prop),Inv X pins σ H s->t σ H Q->Hm (model X.prog X.w) X.A (isTrue e X.env whole) (TP X pins σ Q) X.xe s
theorem PW.pt {X:Cx} {e:Expr} {t:TT} (h:PW X e t):PT X e t:=h _
def PA (X:Cx) (es:List Expr) (t:TA):Prop :=
 ∀ (pos:Pos) (pins:List (Addr×Obj)) (s:z4) (σ:St) (H:Hp) (Q:List V->Hp->Prop),Inv X pins σ H s->t σ H Q->Hm (model X.prog X.w) X.A (spliced (Li pos (HG es X.env))) (AP X pins σ Q) X.xe s
def PS (X:Cx) (st:Stmt) (t:TS):Prop :=
 ∀ (pins:List (Addr×Obj)) (s:z4) (σ:St) (H:Hp) (D:bE),Inv X pins σ H s->t D σ H->Hm (model X.prog X.w) X.A (exec st X.env) (SP X pins D) X.xe s
def PSs (X:Cx) (st:List Stmt) (t:TS):Prop :=
 ∀ (pins:List (Addr×Obj)) (s:z4) (σ:St) (H:Hp) (D:bE),Inv X pins σ H s->t D σ H->Hm (model X.prog X.w) X.A (execs st X.env) (SP X pins D) X.xe s
theorem thn {α:Type} {t:Sem α} {Q Q' : α -> z4->Prop} {M:MK} {A:Ik} {E:h6->z4->Prop} {s:z4} (h:Hm M A t Q E s) (j:∀ a s,Q a s->Q' a s):Hm M A t Q' E s:=Jr h j fun _ _ x=>x
end
section
section
variable {X:Cx}
noncomputable def Ev (i:Nat):TE:=fun σ H Q => ∃ v, σ[i]? = some (some v)/\Q v H
noncomputable def tC (v:V):TE:=fun _ H Q=>Q v H
theorem BK {i:Nat} {x:Str} {pos:Pos} (F:X.N[i]? = some x) (G:Vis X.env.scope x) (hd:(x==("__debug__":Str))=false:=by decide) (z:(x==("__classdict__":Str))=false:=by decide):PE X (.Name x pos) (Ev i):=by
 intro pins s σ H Q I h;obtain ⟨v,e,h⟩:=h;obtain ⟨m,hn,J⟩:=I.loc;obtain ⟨u,r,l⟩:=J i x v F e G;have fin:EP X pins σ Q u s:=⟨v,H,I,r,h⟩
 rcases l with ⟨q,hm⟩ | ⟨q,c,B,j⟩
 ·exact R5 (wpAny_loadName_local I.ok.kind q hn hm fin) hd
 ·rcases q with q | q
  ·exact R5 (wpAny_loadName_cell I.ok.kind q B j fin) hd
  ·exact R5 (wpAny_loadName_free I.ok.kind q B j fin z) hd
theorem BL {i j pos}:PE X (.Constant (.int i) j pos) (tC (.int i)):=fun _ _ _ H _ I h=>wpAny_Constant_int ⟨.int i,H,I.tok _,⟨_,rfl⟩,h⟩
theorem DA {b j pos}:PE X (.Constant (.bool b) j pos) (tC (.bl b)):=fun _ _ _ H _ I h=>Constant_bool ⟨.bl b,H,I,rfl,h⟩
theorem BM {j pos}:PE X (.Constant .none j pos) (tC .non):=fun _ _ _ H _ I h=>Constant_none ⟨.non,H,I,rfl,h⟩
def Gl (X:Cx) (x:Str):Prop:=X.env.kindOf x=some .globalImplicit
theorem ql {E:h6->z4->Prop} {pins:List (Addr×Obj)} {s:z4} {σ:St} {H:Hp} {x:Str} {u:h6} {pos:Pos} {Q:h6->z4->Prop} (I:Inv X pins σ H s) (j:Gl X x) (hm:X.mg x=some u) (h:Q u s)
 (hd:(x==("__debug__":Str))=false:=by decide):Hm (model X.prog X.w) X.A (eval (.Name x pos) X.env) Q E s :=
 Nj I.ok.kind j (Calls.loadGlobal_global (by rw [I.ok.glob];exact I.mod.glob.keeps I.bk) hm h) hd
theorem cG {E:h6->z4->Prop} {pins:List (Addr×Obj)} {s:z4} {σ:St} {H:Hp} {x:Str} {u:h6} {pos:Pos} {Q:h6->z4->Prop} (I:Inv X pins σ H s) (j:Gl X x) (hm:X.mg x=none) (q:JO x=some u) (h:Q u s)
 (hn:x ≠ "__name__" := by decide) (hd:(x==("__debug__":Str))=false:=by decide):Hm (model X.prog X.w) X.A (eval (.Name x pos) X.env) Q E s:=by
 obtain ⟨mb,h1,h2⟩:=I.mod.blt;exact Nj I.ok.kind j (Calls.loadGlobal_builtin (by rw [I.ok.glob];exact I.mod.glob.keeps I.bk) hm (by rw [I.ok.blt];exact h1.keeps I.bk) ((h2 x hn).trans q) h) hd
theorem ke {x:Str} {v:V} {u:h6} {pos:Pos} (j:Gl X x) (hm:X.mg x=none) (q:JO x=some u) (r:RelV v u) (hn:x ≠ "__name__" := by decide) (hd:(x==("__debug__":Str))=false:=by decide):PE X (.Name x pos) (tC v) :=
 fun _ _ _ H _ I h=>cG I j hm q ⟨v,H,I,r,h⟩ hn hd
variable {a b:Expr} {ta tb:TE} {pos:Pos}
variable {tA tB':TT} {rest:List Expr}
noncomputable def Ew (t u:TT):TT:=fun σ H Q=>t σ H fun c H1=>if c=true then u σ H1 Q else Q false H1
noncomputable def tOr (t u:TT):TT:=fun σ H Q=>t σ H fun c H1=>if c=true then Q true H1 else u σ H1 Q
noncomputable def Ex (t:TT):TT:=fun σ H Q=>t σ H fun c H1=>Q (!c) H1
theorem zQ (j:PT X a tA):PW X (.BoolOp .And [a] pos) tA:=by
 intro wh pins s σ H Q I h;refine isTrue_and (thn (j pins s σ H Q I h) fun c s1 e => ?_)
 cases c with
 | true=>exact isTrue_and_nil e
 | false=>exact e
theorem BN (j:PT X a tA):PW X (.BoolOp .Or [a] pos) tA:=by
 intro wh pins s σ H Q I h;refine isTrue_or (thn (j pins s σ H Q I h) fun c s1 e => ?_)
 cases c with
 | false=>exact isTrue_or_nil e
 | true=>exact e
theorem BO (z:PT X a tA) (hb:PW X (.BoolOp .And (b::rest) pos) tB'):PW X (.BoolOp .And (a::b::rest) pos) (Ew tA tB'):=by
 intro wh pins s σ H Q I h;refine isTrue_and (thn (z pins s σ H _ I h) fun c s1 ⟨H1,j,q⟩ => ?_)
 cases c with
 | true=>exact hb wh pins s1 σ H1 Q j q
 | false=>exact ⟨H1,j,q⟩
theorem DB (z:PT X a tA) (hb:PW X (.BoolOp .Or (b::rest) pos) tB'):PW X (.BoolOp .Or (a::b::rest) pos) (tOr tA tB'):=by
 intro wh pins s σ H Q I h;refine isTrue_or (thn (z pins s σ H _ I h) fun c s1 ⟨H1,j,q⟩ => ?_)
 cases c with
 | true=>exact ⟨H1,j,q⟩
 | false=>exact hb wh pins s1 σ H1 Q j q
theorem BP (j:PT X a tA):PT X (.UnaryOp .Not a pos) (Ex tA):=by
 intro pins s σ H Q I h;exact isTrue_not (j pins s σ H (fun c H1=>Q (!c) H1) I h)
noncomputable def DC (ta tb:TE):TE:=fun σ H Q=>ta σ H fun x H1 => ∃ c,x = .bl c/\if c=true then tb σ H1 Q else Q (.bl false) H1
noncomputable def Ey (ta tb:TE):TE:=fun σ H Q=>ta σ H fun x H1 => ∃ c,x = .bl c/\if c=true then Q (.bl true) H1 else tb σ H1 Q
noncomputable def DD (ta:TE):TE:=fun σ H Q=>ta σ H fun x H1 => ∃ c,x = .bl c/\Q (.bl (!c)) H1
theorem BQ {op} {t:TE} (h:PE X a t):PE X (.BoolOp op [a] pos) t:=fun pins s σ H Q I hw=>BoolOp_one (h pins s σ H Q I hw)
theorem BR (z:PE X a ta) (hb:PE X (.BoolOp .And (b::rest) pos) tb):PE X (.BoolOp .And (a::b::rest) pos) (DC ta tb):=by
 intro pins s σ H Q I h;refine BoolOp_and (thn (z pins s σ H _ I h) fun v s1 ⟨x,H1,q,B,j⟩ => ?_);obtain ⟨c,rfl,j⟩:=j
 cases B
 refine K7 ?_
 cases c with
 | true=>exact hb pins s1 σ H1 Q q j
 | false=>exact ⟨.bl false,H1,q,rfl,j⟩
theorem DE (z:PE X a ta) (hb:PE X (.BoolOp .Or (b::rest) pos) tb):PE X (.BoolOp .Or (a::b::rest) pos) (Ey ta tb):=by
 intro pins s σ H Q I h;refine BoolOp_or (thn (z pins s σ H _ I h) fun v s1 ⟨x,H1,q,B,j⟩ => ?_);obtain ⟨c,rfl,j⟩:=j
 cases B
 refine K7 ?_
 cases c with
 | false=>exact hb pins s1 σ H1 Q q j
 | true=>exact ⟨.bl true,H1,q,rfl,j⟩
theorem BS (q:PE X a ta):PE X (.UnaryOp .Not a pos) (DD ta):=by
 intro pins s σ H Q I h;refine UnaryOp_ (thn (q pins s σ H _ I h) fun v s1 ⟨x,H1,z,B,j⟩ => ?_);obtain ⟨c,rfl,j⟩:=j
 cases B
 exact not_of (K7 ⟨.bl (!c),H1,z,rfl,j⟩)
noncomputable def tIf (t:TT) (ta tb:TE):TE:=fun σ H Q=>t σ H fun c H1=>if c=true then ta σ H1 Q else tb σ H1 Q
theorem wy {c:Expr} (z:PT X c tA) (B:PE X a ta) (hb:PE X b tb):PE X (.IfExp c a b pos) (tIf tA ta tb):=by
 intro pins s σ H Q I h;refine wpAny_IfExp (thn (z pins s σ H _ I h) fun d s1 ⟨H1,j,q⟩ => ?_)
 cases d with
 | true=>exact B pins s1 σ H1 Q j q
 | false=>exact hb pins s1 σ H1 Q j q
end
end
section
def SqL (K:Frag) (H:Hp) (a:Addr) (xs:List V):Prop :=
 Rd H a (.lst xs) ∨
  ∃ (o:Obj) (its:Array h6) (n:Nat),K.lookup a=some o/\o.cls = .type "list" /\ o.dict=none/\o.data = .seq its n/\its.size<=Hh/\Vals xs its.toList
def SqT (K:Frag) (H:Hp) (a:Addr) (xs:List V):Prop :=
 Rd H a (.tup xs) ∨
  ∃ (o:Obj) (its:Array h6) (n:Nat),K.lookup a=some o/\o.cls = .type "tuple" /\ o.data = .seq its n/\its.size<=Hh/\Vals xs its.toList
noncomputable def Ez:h6->Option V
 | .none=>some .non
 | .bool b=>some (.bl b)
 | .int i _=>some (.int i)
 | .str x _=>some (.str x)
 | .bytes b _=>some (.byt b)
 | .float b _=>some (.flt b)
 | .ref a=>some (.ref a)
 | .type n=>some (.ty n)
 | _=>none
theorem RelV.abs {x:V} {u:h6} (r:RelV x u):Ez u=some x:=by
 cases x with
 | non=>cases r;rfl
 | bl _=>cases r;rfl
 | int _=>obtain ⟨t,rfl⟩:=r;rfl
 | str _=>obtain ⟨t,rfl⟩:=r;rfl
 | byt _=>obtain ⟨t,rfl⟩:=r;rfl
 | flt _=>obtain ⟨t,rfl⟩:=r;rfl
 | ref _=>cases r;rfl
 | ty _=>cases r;rfl
theorem RelV.inj {x y:V} {u:h6} (r:RelV x u) (q:RelV y u):x=y:=Jj.inj (r.abs.symm.trans q.abs)
theorem Vals.inj:∀ {xs ys:List V} {us:List h6},Vals xs us->Vals ys us->xs=ys
 | _,_,_, .nil, .nil=>rfl
 | _,_,_, .cons r t, .cons r' t'=>by rw [r.inj r',Vals.inj t t']
section
variable {X:Cx} {pins:List (Addr×Obj)} {σ:St} {H:Hp} {s:z4} {a:Addr} {xs ys:List V}
theorem SqL.of {K:Frag} (h:H a=some (.lst xs)):SqL K H a xs := .inl (.inl h)
theorem SqT.of {K:Frag} (h:H a=some (.tup xs)):SqT K H a xs := .inl (.inl h)
theorem Inv.list (I:Inv X pins σ H s) (h:SqL X.K H a xs):∃ its:List h6,Vals xs its/\PlainL s.heap a its.toArray/\xs.length<=Hh:=by
 rcases h with h | ⟨o,its,n,j,q,hd,hs,B,r⟩
 ·obtain ⟨z,its,n,r,e⟩:=h.ok I.hok;exact ⟨its,r,⟨_,n,e,rfl,rfl,rfl⟩,z⟩
 ·refine ⟨its.toList,r,⟨o,n,I.kIn a o j,q,hd,by simpa using hs⟩, ?_⟩
  have e:=r.length;simp only [HJ] at e;omega
theorem Inv.tuple (I:Inv X pins σ H s) (h:SqT X.K H a xs):∃ its:List h6,Vals xs its/\IsTup s.heap a its.toArray/\xs.length<=Hh:=by
 rcases h with h | ⟨o,its,n,j,q,hs,B,r⟩
 ·obtain ⟨z,its,r,p⟩:=h.ok I.hok;exact ⟨its,r,p,z⟩
 ·refine ⟨its.toList,r,⟨o,I.kIn a o j,q,n,by simpa using hs⟩, ?_⟩
  have e:=r.length;simp only [HJ] at e;omega
theorem Inv.list_inj (I:Inv X pins σ H s) (h:SqL X.K H a xs) (h':SqL X.K H a ys):xs=ys:=by
 obtain ⟨its,r,⟨o,n,e,_,_,d⟩,_⟩:=I.list h;obtain ⟨its',r',⟨o',n',e',_,_,d'⟩,_⟩:=I.list h';rw [e] at e';cases e';rw [d] at d'
 injection d' with d1 _
 have:its=its':=by simpa using congrArg Oj d1
 subst this;exact r.inj r'
theorem Inv.tuple_inj (I:Inv X pins σ H s) (h:SqT X.K H a xs) (h':SqT X.K H a ys):xs=ys:=by
 obtain ⟨its,r,⟨o,e,_,n,d⟩,_⟩:=I.tuple h;obtain ⟨its',r',⟨o',e',_,n',d'⟩,_⟩:=I.tuple h';rw [e] at e';cases e';rw [d] at d'
 injection d' with d1 _
 have:its=its':=by simpa using congrArg Oj d1
 subst this;exact r.inj r'
end
noncomputable abbrev Cx.wish (X:Cx) (E:h6->z4->Prop):Cx := { X with xe:=E }
noncomputable abbrev Cx.nox (X:Cx):Cx:=X.wish fun _ _=>False
theorem Cx.Ok.wish {X:Cx} (ok:X.Ok) (E:h6->z4->Prop):(X.wish E).Ok :=
 ⟨ok.mod,ok.kind,ok.glob,ok.blt,ok.above,ok.inj,ok.has,ok.cab,ok.hd,ok.frames,ok.stk,ok.exf,ok.bs,ok.bsz,ok.noex,ok.exfs,ok.funs,ok.frf⟩
theorem Cx.Ok.unwish {X:Cx} {E:h6->z4->Prop} (ok:(X.wish E).Ok):X.Ok :=
 ⟨ok.mod,ok.kind,ok.glob,ok.blt,ok.above,ok.inj,ok.has,ok.cab,ok.hd,ok.frames,ok.stk,ok.exf,ok.bs,ok.bsz,ok.noex,ok.exfs,ok.funs,ok.frf⟩
section
variable {X:Cx} {pins:List (Addr×Obj)} {σ:St} {H:Hp} {s:z4} {E:h6->z4->Prop}
theorem Inv.wish (I:Inv X pins σ H s) (E:h6->z4->Prop):Inv (X.wish E) pins σ H s:=⟨I.ok.wish E,I.os,I.bare,I.base,I.loc,I.cell,I.free,I.freeC,I.pin,I.hok,I.len⟩
theorem Inv.unwish (I:Inv (X.wish E) pins σ H s):Inv X pins σ H s:=⟨I.ok.unwish,I.os,I.bare,I.base,I.loc,I.cell,I.free,I.freeC,I.pin,I.hok,I.len⟩
theorem SP.unwish {D:bE} {f:Flow} {s':z4} (h:SP (X.wish E) pins D f s'):SP X pins D f s':=by
 cases f with
 | next=>obtain ⟨σ',H',I,q⟩:=h;exact ⟨σ',H',I.unwish,q⟩
 | brk=>obtain ⟨σ',H',I,q⟩:=h;exact ⟨σ',H',I.unwish,q⟩
 | cont=>obtain ⟨σ',H',I,q⟩:=h;exact ⟨σ',H',I.unwish,q⟩
 | ret u=>obtain ⟨v, σ',H',I,r,q⟩:=h;exact ⟨v, σ',H',I.unwish,r,q⟩
theorem PSs.nox {st:List Stmt} {t:TS} (h:PSs X.nox st t):PSs X st t:=fun pins s σ H D I hw =>
 Jr (h pins s σ H D (I.wish _) hw) (fun _ _ q=>q.unwish) fun _ _ z=>False.elim z
end
section
variable {X:Cx} {st:Stmt} {rest:List Stmt} {t u:TS} {e:Expr} {te:TE} {pos:Pos}
noncomputable def rP:TS:=fun D σ H=>D.nx σ H
noncomputable def BU (t u:TS):TS:=fun D σ H=>t { D with nx:=u D } σ H
theorem zR:PSs X [] rP:=fun _ _ σ H _ I h=>OB ⟨σ,H,I,h⟩
theorem wz (h1:PS X st t) (h2:PSs X rest u):PSs X (st::rest) (BU t u):=by
 intro pins s σ H D I h;refine wpAny_execs_cons (thn (h1 pins s σ H { D with nx:=u D } I h) fun f s1 q => ?_)
 cases f with
 | next =>
   obtain ⟨σ',H',I',q⟩:=q;exact h2 pins s1 σ' H' D I' q
 | ret v=>exact q
 | brk=>exact q
 | cont=>exact q
noncomputable def tS:TS:=fun D σ H=>D.bk σ H
noncomputable def yR:TS:=fun D σ H=>D.ct σ H
theorem zS:PS X (.Pass pos) rP:=fun _ _ σ H _ I h=>wpAny_Pass ⟨σ,H,I,h⟩
theorem wB:PS X (.Break pos) tS:=fun _ _ σ H _ I h=>wpAny_Break ⟨σ,H,I,h⟩
theorem q8:PS X (.Continue pos) yR:=fun _ _ σ H _ I h=>wpAny_Continue ⟨σ,H,I,h⟩
theorem Inv.quiet {pins:List (Addr×Obj)} {σ:St} {H:Hp} {s:z4} (I:Inv X pins σ H s):interactive X.env=false:=by simp [interactive,I.ok.kind]
noncomputable def yS (te:TE):TS:=fun D σ H=>te σ H fun _ H1=>D.nx σ H1
theorem zT (he:PE X e te) (hs:LB e none pos.line X.env=pure false:=by rfl):PS X (.Expr e pos) (yS te):=by
 intro pins s σ H D I h;exact wpAny_Expr_any (thn (he pins s σ H _ I h) fun v s1 ⟨x,H1,j,z,q⟩=>⟨σ,H1,j,q⟩) I.quiet hs
noncomputable def BV (te:TE):TS:=fun D σ H=>te σ H D.rt
theorem BW (he:PE X e te):PS X (.Return (some e) pos) (BV te):=by
 intro pins s σ H D I h;exact wpAny_Return_some (thn (he pins s σ H _ I h) fun v s1 ⟨x,H1,j,q,z⟩=>⟨x, σ,H1,j,q,z⟩)
noncomputable def BX (c:TT) (t u:TS):TS:=fun D σ H=>c σ H fun b H1=>if b=true then t D σ H1 else u D σ H1
theorem DF {c:Expr} {a b:List Stmt} {tc:TT} (z:PT X c tc) (B:PSs X a t) (hb:PSs X b u):PS X (.If c a b pos) (BX tc t u):=by
 intro pins s σ H D I h;refine wpAny_If (thn (z pins s σ H _ I h) fun d s1 ⟨H1,j,q⟩ => ?_)
 cases d with
 | true=>exact B pins s1 σ H1 D j q
 | false=>exact hb pins s1 σ H1 D j q
end
noncomputable abbrev TG:=V->St->Hp->(St->Hp->Prop)->Prop
noncomputable abbrev TGs:=List V->St->Hp->(St->Hp->Prop)->Prop
def PG (X:Cx) (target:Expr) (t:TG):Prop :=
 ∀ (pins:List (Addr×Obj)) (s:z4) (σ:St) (H:Hp) (v:V) (u:h6) (Q:St->Hp->Prop),Inv X pins σ H s->RelV v u->t v σ H Q ->
  Hm (model X.prog X.w) X.A (assign target X.env u) (fun _ s' => ∃ σ' H',Inv X pins σ' H' s'/\Q σ' H') X.xe s
def PGs (X:Cx) (ts:List Expr) (t:TGs):Prop :=
 ∀ (pins:List (Addr×Obj)) (s:z4) (σ:St) (H:Hp) (vs:List V) (us:List h6) (Q:St->Hp->Prop),Inv X pins σ H s->Vals vs us->t vs σ H Q ->
  Hm (model X.prog X.w) X.A (My ((Js ts X.env).map (·.2)) us) (fun _ s' => ∃ σ' H',Inv X pins σ' H' s'/\Q σ' H') X.xe s
noncomputable abbrev kf:=V->V->V->Hp->(Hp->Prop)->Prop
def PSet (X:Cx) (t:kf):Prop :=
 ∀ (pins:List (Addr×Obj)) (s:z4) (σ:St) (H:Hp) (o i v:V) (ov iv u:h6) (Q:Hp->Prop),Inv X pins σ H s->RelV o ov->RelV i iv->RelV v u->t o i v H Q ->
  Hm (model X.prog X.w) X.A (Ph ov iv u) (fun _ s' => ∃ H',Inv X pins σ H' s'/\Q H') X.xe s
noncomputable abbrev TIp:=V->V->Hp->VK->Prop
def PIp (X:Cx) (op:LJ) (t:TIp):Prop :=
 ∀ (pins:List (Addr×Obj)) (s:z4) (σ:St) (H:Hp) (x y:V) (v u:h6) (Q:VK),Inv X pins σ H s->RelV x v->RelV y u->t x y H Q ->
  Hm (model X.prog X.w) X.A (Mo op v u) (EP X pins σ Q) X.xe s
section
variable {X:Cx} {pos:Pos}
noncomputable def j5 (i:Nat):TG:=fun v σ H Q=>Q (σ.set i (some v)) H
theorem qm {i:Nat} {x:Str} (j:X.N.Nodup) (hi:X.N[i]? = some x) (hx:Loc X.env.scope x) (hf:X.fn x=true∨X.env.scope.names.lookup x=some .local:=by first | exact .inl rfl | exact .inr rfl | assumption):PG X (.Name x pos) (j5 i):=by
 intro pins s σ H v u Q I r h;exact wpAny_assign_Name (cS I j hi hx r (fun s' I'=>⟨_,H,I',h⟩) hf)
noncomputable def EA:TGs:=fun vs σ H Q=>vs=[]/\Q σ H
noncomputable def DG (t:TG) (u:TGs):TGs:=fun vs σ H Q => ∃ v r,vs=v::r/\t v σ H fun σ' H'=>u r σ' H' Q
theorem zU:PGs X [] EA:=by
 intro pins s σ H vs us Q I r h;obtain ⟨e,h⟩:=h;subst e
 cases r
 exact NL ⟨σ,H,I,h⟩
theorem wD {e:Expr} {es:List Expr} {t:TG} {u:TGs} (h1:PG X e t) (h2:PGs X es u)
 (hs:(Js (e::es) X.env).map (·.2)=assign e X.env::(Js es X.env).map (·.2):=by rfl):PGs X (e::es) (DG t u):=by
 intro pins s σ H vs us Q I r h;obtain ⟨v,vr,e1,h⟩:=h;subst e1
 cases r with
 | cons r rr =>
   rw [hs];refine JX (thn (h1 pins s σ H _ _ _ I r h) fun _ s1 ⟨σ1,H1,j,q⟩ => ?_);exact h2 pins s1 σ1 H1 _ _ Q j rr q
noncomputable def EB (K:Frag) (n:Nat) (t:TGs):TG:=fun v σ H Q => ∃ a xs,v = .ref a/\SqT K H a xs/\xs.length=n/\t xs σ H Q
theorem BY {es:List Expr} {k:Nat} {t:TGs} {n:Nat} (q:X.calm=true) (h:PGs X es t)
 (hn:(Js es X.env).length=n:=by rfl) (j:(Js es X.env).findIdx? (·.1)=none:=by rfl):PG X (.Tuple es k pos) (EB X.K n t):=by
 intro pins s σ H v u Q I r hw;obtain ⟨a,xs,e1,z,B,hw⟩:=hw;subst e1
 cases r
 obtain ⟨its,rv,F,J⟩:=I.tuple z;refine assign_Tuple_tuple (I.ok.hd q) F (by simp [hn, <- B,rv.length]) j fun h' hx => ?_
 have G:Inv X pins σ H { s with heap:=h' }:=I.kept (t':=s.toks) fun b o e=>hx b o (I0 (Hi e)) e
 exact h pins _ σ H xs _ Q G (by simpa using rv) hw
noncomputable def EC (to ti:TE) (t:kf):TG:=fun v σ H Q=>to σ H fun o H1=>ti σ H1 fun i H2=>t o i v H2 fun H3=>Q σ H3
theorem BZ {o i:Expr} {to ti:TE} {t:kf} (ho:PE X o to) (hi:PE X i ti) (hs:PSet X t)
 (j:∀ v,assign (.Subscript o i pos) X.env v=(do
   let ov <- holding [v] (eval o X.env)
   let iv <- holding [v,ov] (eval i X.env)
   NM pos
   holding [v,ov,iv] (Ph ov iv v)
   release [v,ov,iv] []):=by intro _;rfl):PG X (.Subscript o i pos) (EC to ti t):=by
 intro pins s σ H v u Q I r h;rw [j];refine gV (ID (thn (ho pins s σ H _ I h) fun ov s1 ⟨x,H1,q,z,B⟩ => ?_));refine gV (ID (thn (hi pins s1 σ H1 _ q B) fun iv s2 ⟨y,H2,F,G,J⟩ => ?_));refine gV (Ki (gV (ID (thn (hs pins s2 σ H2 x y v ov iv u _ F z G r J) fun _ s3 ⟨L,O,U⟩ => ?_))));exact wpAny_release ⟨σ,L,O,U⟩
noncomputable def rQ (te:TE) (g:TG):TS:=fun D σ H=>te σ H fun x H1=>g x σ H1 D.nx
theorem tT {tg e:Expr} {te:TE} {g:TG} (he:PE X e te) (j:PG X tg g) (hs:KP [tg] e pos.line X.env=pure false:=by rfl) (hw:JR [tg] e X.env=pure none:=by rfl)
 (h1:(Js [tg] X.env).map (·.2)=[assign tg X.env]:=by rfl):PS X (.Assign [tg] e pos) (rQ te g):=by
 intro pins s σ H D I h;refine wpAny_Assign_stores (thn (he pins s σ H _ I h) fun v s1 ⟨x,H1,z,B,F⟩ => ?_) hs hw;rw [h1];exact thn (j pins s1 σ H1 x v _ z B F) fun _ s2 q=>q
noncomputable def C0 (i j:Nat) (ta:TA):TS:=fun D σ H=>ta σ H fun vs H1 => ∃ v w,vs=[v,w]/\D.nx ((σ.set i (some v)).set j (some w)) H1
theorem C1 {i j:Nat} {x y:Str} {a b:Expr} {ta:TA} {px py pt:Pos} {kt G z} (hc:X.calm=true) (U:X.N.Nodup) (hi:X.N[i]? = some x) (hj:X.N[j]? = some y) (J:i≠j)
 (hx:X.env.scope.names.lookup x=some .local) (Y:X.env.scope.names.lookup y=some .local) (ha:PA X [a,b] ta)
 (hw:JR [.Tuple [.Name x px, .Name y py] kt pt] (.Tuple [a,b] G z) X.env=pure (some [x,y]))
 (hs:KP [.Tuple [.Name x px, .Name y py] kt pt] (.Tuple [a,b] G z) pos.line X.env=pure false:=by rfl) :
 PS X (.Assign [.Tuple [.Name x px, .Name y py] kt pt] (.Tuple [a,b] G z) pos) (C0 i j ta):=by
 intro pins s σ H D I h;rw [exec_Assign_arm];refine gV (Ki ?_);rw [hs];refine gV (q7 ?_);rw [if_neg (by decide)]
 refine gV (Tuple_ (thn (ha _ pins s σ H _ I h) fun us s1 ⟨vs,H1,I1,r1,L⟩ => ?_));obtain ⟨v,w,e1,L⟩:=L;subst e1;obtain ⟨B,F,rfl,rv,rw'⟩:∃ B F,us=[B,F]/\RelV v B/\RelV w F:=by
  cases r1 with
  | cons p q =>
    cases q with
    | cons p' q' =>
      cases q'
      exact ⟨_,_,rfl,p,p'⟩
 refine IQ ?_ (by show 2<=Hh;decide)
 have I2:Inv X pins σ H1 { s1 with heap:=s1.heap.push { cls := .type "tuple",data := .seq [B,F].toArray } }:=I1.kept (t':=s1.toks) fun b o e=>hH _ e
 rw [hw];refine gV (q7 ?_);show Hm (model X.prog X.w) X.A (do rule "assign.swapped-stores";let items <- unpackItems (.ref s1.heap.objs.size) 2 none;My [fun v=>LK X.env y v,fun v=>LK X.env x v] items.reverse;pure Qm) _ _ _
 refine gV (IT (gV (Q2 (items := #[B,F]) (I.ok.hd hc) (LC s1.heap _) fun h' O => ?_)));have I3:=I2.kept (h':=h') (t':=s1.toks) fun b o e=>O b o (I0 (Hi e)) e;show Hm _ _ (My [fun v=>LK X.env y v,fun v=>LK X.env x v] [F,B] >>= fun _=>pure Qm) _ _ _;refine gV (JX (LL (cS I3 U hj (.inl Y) rw' (fun s2 I4 => ?_) (.inr Y))));refine JX (LL (cS I4 U hi (.inl hx) rv (fun s3 Z=>NL (q7 ?_)) (.inr hx)));rw [NS _ _ (Ne.symm J)] at Z;exact ⟨_,H1,Z,L⟩
noncomputable def DH (to ti te:TE) (tget:V->V->Hp->VK->Prop) (tip:TIp) (tset:kf):TS:=fun D σ H=>to σ H fun o H1=>ti σ H1 fun i H2=>tget o i H2 fun x H3=>te σ H3 fun y H4=>tip x y H4 fun z H5=>tset o i z H5 fun H6=>D.nx σ H6
def C2 (X:Cx) (t:V->V->Hp->VK->Prop):Prop :=
 ∀ (pins:List (Addr×Obj)) (s:z4) (σ:St) (H:Hp) (o i:V) (ov iv:h6) (Q:VK),Inv X pins σ H s->RelV o ov->RelV i iv->t o i H Q ->
  Hm (model X.prog X.w) X.A (NN ov iv) (EP X pins σ Q) X.xe s
theorem zV {o i e:Expr} {to ti te:TE} {tget:V->V->Hp->VK->Prop} {tip:TIp} {tset:kf} {op:LJ} {tpos:Pos} (ho:PE X o to) (hi:PE X i ti) (F:C2 X tget) (he:PE X e te) (G:PIp X op tip) (hs:PSet X tset)
 (J:∀ ov iv new,augStore i ov iv new=(do holding [new,ov,iv] (Ph ov iv new);release [new,ov,iv] [];pure .next):=by intros;rfl):PS X (.AugAssign (.Subscript o i tpos) op e pos) (DH to ti te tget tip tset):=by
 intro pins s σ H D I h;refine wpAny_AugAssign_SubscriptAny (thn (ho pins s σ H _ I h) fun ov s1 ⟨j,H1,L,q,O⟩ => ?_) J;refine thn (hi pins s1 σ H1 _ L O) fun iv s2 ⟨z,H2,U,B,Y⟩ => ?_;refine thn (F pins s2 σ H2 j z ov iv _ U q B Y) fun old s3 ⟨Z,H3,I3,r3,q3⟩ => ?_;refine thn (he pins s3 σ H3 _ I3 q3) fun v s4 ⟨x4,H4,I4,r4,q4⟩ => ?_;refine thn (G pins s4 σ H4 Z x4 old v _ I4 r3 r4 q4) fun new s5 ⟨x5,H5,I5,r5,q5⟩ => ?_;exact thn (hs pins s5 σ H5 j z x5 ov iv new _ I5 q B r5 q5) fun _ s6 ⟨H6,I6,q6⟩=>⟨σ,H6,I6,q6⟩
end
section
variable {X:Cx} {pos:Pos}
noncomputable def tU (c:TT) (tb:TS):TS:=fun D σ H => ∃ W:Nat->St->Hp->Prop,(∃ m,W m σ H) /\ ∀ m σ H,W m σ H ->
 c σ H fun b H1=>if b=true then ∃ N:St->Hp->Prop,(∀ σ' H',N σ' H' -> ∃ m',m' < m/\W m' σ' H')/\tb { D with nx:=N,ct:=N,bk:=D.nx } σ H1 else D.nx σ H1
theorem wF {c:Expr} {body:List Stmt} {tc:TT} {tb:TS} (J:PassesOwn (model X.prog X.w) X.A X.env X.xe) (U:PT X c tc) (hb:PSs X body tb):PS X (.While c body [] pos) (tU tc tb):=by
 intro pins s σ H D I h;obtain ⟨W,⟨m0,Y⟩,turn⟩:=h;refine wpAny_While (codeAny_whileLoop (fun n s' => ∃ σ' H',Inv X pins σ' H' s'/\W n σ' H') ?_ m0 ⟨σ,H,I,Y⟩);rintro n s1 ⟨σ1,H1,Z,w1⟩;refine K2 J (thn (U pins s1 σ1 H1 _ Z (turn n σ1 H1 w1)) fun b s2 ⟨H2,L,q⟩ => ?_)
 cases b with
 | true =>
   obtain ⟨N,O,q⟩:=q;rw [if_pos rfl];refine K2 J (thn (hb pins s2 σ1 H2 _ L q) fun f s3 z => ?_)
   cases f with
   | next =>
     obtain ⟨σ3,j,B,F⟩:=z;obtain ⟨m',hm,G⟩:=O σ3 j F;exact ⟨m',hm, σ3,j,B,G⟩
   | cont =>
     obtain ⟨σ3,j,B,F⟩:=z;obtain ⟨m',hm,G⟩:=O σ3 j F;exact ⟨m',hm, σ3,j,B,G⟩
   | brk=>exact z
   | ret v=>exact z
 | false =>
   rw [if_neg He];exact OB ⟨σ1,H2,L,q⟩
end
structure It where
 go:Nat->Hp->Prop
 yld:Nat->Hp->V->Hp->Prop
 stop:Nat->Hp->Prop
def cj (X:Cx) (pins:List (Addr×Obj)) (H:Hp) (b:Addr):Prop :=
 H b=none/\b≠X.env.locals/\b∉X.fs/\(b∈X.ex∨X.s₀.heap.objs.size<=b)/\(∀ x c,X.env.cells.lookup x=some c->c≠b) /\ ∀ p∈X.pn++pins,p.1≠b
theorem Inv.fpOk {X:Cx} {pins:List (Addr×Obj)} {σ:St} {H H':Hp} {s:z4} {b:Addr} (I:Inv X pins σ H s) (hb:s.heap.objs.size<=b) (hn:H' b=none):cj X pins H' b:=by
 refine ⟨hn,J1 (HW I.lt hb),I.nofs hb, .inr (IH I.sz hb),fun x c e z => ?_,fun p j z => ?_⟩
 ·obtain ⟨v,q⟩:=I.cell x c e;exact absurd (HW q.lt (by rw [z];exact hb)) (IZ _)
 ·exact absurd (HW (Hi (I.pin p j).1) (by rw [z];exact hb)) (IZ _)
structure fD (P:HI) (w:Ic) (K:Frag) (tg:Expr) (J:It) (fp:List Addr) (it:Addr) (tn:Nat->Heap->Prop):Prop where
 mem:it∈fp
 obj:∀ i h,tn i h -> ∀ b∈fp, ∃ o,h.get? b=some o /\ ∀ v,o.data ≠ .cell v
 keep:∀ i h h',tn i h->(∀ b∈fp, ∀ o,h.get? b=some o->h'.get? b=some o)->tn i h'
 item:∀ (X:Cx),X.prog=P->X.w=w->X.K=K->X.calm=true -> ∀ (i:Nat) (pins:List (Addr×Obj)) (s:z4) (σ:St) (H:Hp) (E:h6->z4->Prop),Inv X pins σ H s->(∀ b∈fp,cj X pins H b)->tn i s.heap->J.go i H ->
  Hm (model P w) X.A (KR (.ref it)) (fun r s1 => ∃ u,r=some u /\
   Hm (model P w) X.A (MU tg (.ref it) u) (fun _ s2 => ∃ x H',Inv X pins σ H' s2/\RelV x u/\J.yld i H x H'/\tn (i+1) s2.heap /\ ∀ b∈fp,H' b=none) E s1) E s
 done:∀ (X:Cx),X.prog=P->X.w=w->X.K=K->X.calm=true -> ∀ (i:Nat) (pins:List (Addr×Obj)) (s:z4) (σ:St) (H:Hp) (E:h6->z4->Prop),Inv X pins σ H s->(∀ b∈fp,cj X pins H b)->tn i s.heap->J.stop i H ->
  Hm (model P w) X.A (KR (.ref it)) (fun r s1=>r=none/\Inv X pins σ H s1) E s
 self:∀ (A:Ik) (i:Nat) (s:z4) (Q:h6->z4->Prop) (E:h6->z4->Prop),tn i s.heap->Q (.ref it) s->Hm (model P w) A (PH (.ref it)) Q E s
noncomputable abbrev TI:=St->Hp->(It->Hp->Prop)->Prop
def PIE (X:Cx) (pins:List (Addr×Obj)) (σ:St) (tg:Expr) (R:It->Hp->Prop) (itv:h6) (s2:z4):Prop :=
 ∃ (it:Addr) (fp:List Addr) (tn:Nat->Heap->Prop) (J:It) (H':Hp),itv = .ref it/\Inv X pins σ H' s2/\fD X.prog X.w X.K tg J fp it tn/\tn 0 s2.heap/\(∀ b∈fp,cj X pins H' b)/\R J H'
def PI (X:Cx) (tg iter:Expr) (wi:TI):Prop :=
 ∀ (pins:List (Addr×Obj)) (s:z4) (σ:St) (H:Hp) (R:It->Hp->Prop),Inv X pins σ H s->wi σ H R ->
  Hm (model X.prog X.w) X.A (eval iter X.env) (fun v s1=>Hm (model X.prog X.w) X.A (PH v) (PIE X pins σ tg R) X.xe s1) X.xe s
theorem mN {M:MK} {A:Ik} {E:h6->z4->Prop} {s:z4} {tg:Expr} {it:Addr} {u:h6} {o:Obj} {n:String} {vs:Array h6} {Q:Unit->z4->Prop} (ho:s.heap.get? it=some o) (q:o.cls = .type n) (hd:o.data = .fields vs)
 (hn : ["enumerate", "zip", "dict_itemiterator", "dict_reverseitemiterator", "odict_iterator", "itertools.zip_longest", "itertools.pairwise"].contains n=false) (j:Q () s):Hm M A (MU tg (.ref it) u) Q E s:=by
 unfold MU
 cases tg <;> first
  | exact q7 j
  | (cases u <;> first
      | exact q7 j
      | (refine gV (wpAny_load ho ?_)
         rw [q,hd];show Hm M A (if (["enumerate", "zip", "dict_itemiterator", "dict_reverseitemiterator", "odict_iterator", "itertools.zip_longest", "itertools.pairwise"].contains n&&vs[0]? == some (LM _))=true then _ else _) Q E s
         rw [if_neg (by intro h;rw [hn,Nk] at h;cases h)]
         exact q7 j))
noncomputable def Itl (K:Frag) (a:Addr):It :=
 ⟨fun i H => ∃ xs x,SqL K H a xs/\xs[i]? = some x,fun i H x H'=>H'=H /\ ∀ xs,SqL K H a xs->xs[i]? = some x,fun i H => ∃ xs,SqL K H a xs/\xs.length<=i⟩
noncomputable def Itt (K:Frag) (a:Addr):It :=
 ⟨fun i H => ∃ xs x,SqT K H a xs/\xs[i]? = some x,fun i H x H'=>H'=H /\ ∀ xs,SqT K H a xs->xs[i]? = some x,fun i H => ∃ xs,SqT K H a xs/\xs.length<=i⟩
noncomputable def Itr (lo:Int) (n:Nat):It:=⟨fun i _=>i < n,fun i H x H'=>H'=H/\x = .int (lo+i),fun i _=>n<=i⟩
theorem tV {P:HI} {w:Ic} {K:Frag} {tg:Expr} (a it:Addr):fD P w K tg (Itl K a) [it] it (fun i h=>h.IsListIter it a i) where
 mem:=by simp
 obj:=fun i h st b hb=>by
  have e:b=it:=by simpa using hb
  subst e;obtain ⟨o,e,c,d⟩:=st;exact ⟨o,e,fun v z=>by rw [d] at z;cases z⟩
 keep:=fun i h h' st k=>st.at fun o e=>k it (by simp) o e
 item:=by
  intro X q hw B J i pins s σ H E I hf st hg;subst q hw B;obtain ⟨xs,x,j,hx⟩:=hg;obtain ⟨its,rv,p,L⟩:=I.list j;obtain ⟨u,O,ru⟩:=rv.get hx;obtain ⟨f0,f1,f2,F,f4,G⟩:=hf it (by simp)
  refine Ol st p.isList (x:=u) (by simpa using O) fun h' st' sb => ?_
  have U:Inv X pins σ H { s with heap:=h' }:=I.turned (t':=s.toks) (fun b o hb e=>(sb.2 b hb).trans e) f0 f1 F f4 G
  obtain ⟨o,e,c,d⟩:=id st';exact ⟨u,rfl,mN (s := { s with heap:=h' }) e c d (by decide) ⟨x,H,U,ru,⟨rfl,fun ys Y=>by rw [I.list_inj Y j];exact hx⟩,st',fun b hb=>(hf b hb).1⟩⟩
 done:=by
  intro X q hw B J i pins s σ H E I hf st hg;subst q hw B;obtain ⟨xs,j,hx⟩:=hg;obtain ⟨its,rv,p,L⟩:=I.list j;obtain ⟨f0,f1,f2,F,f4,G⟩:=hf it (by simp)
  have Z:=rv.length;exact OK (I.ok.hd J) st p.isList (by simp;omega) fun h' eb=>⟨rfl,I.turned (t':=s.toks) (fun b o hb e=>eb b o hb e) f0 f1 F f4 G⟩
 self:=fun _ _ _ _ _ st h=>wpAny_pyIter_listiter st h
theorem rR {P:HI} {w:Ic} {K:Frag} {tg:Expr} (a it:Addr):fD P w K tg (Itt K a) [it] it (fun i h=>h.IsTupleIter it a i) where
 mem:=by simp
 obj:=fun i h st b hb=>by
  have e:b=it:=by simpa using hb
  subst e;obtain ⟨o,e,c,d⟩:=st;exact ⟨o,e,fun v z=>by rw [d] at z;cases z⟩
 keep:=fun i h h' st k=>st.at fun o e=>k it (by simp) o e
 item:=by
  intro X q hw B J i pins s σ H E I hf st hg;subst q hw B;obtain ⟨xs,x,j,hx⟩:=hg;obtain ⟨its,rv,p,L⟩:=I.tuple j;obtain ⟨u,O,ru⟩:=rv.get hx;obtain ⟨f0,f1,f2,F,f4,G⟩:=hf it (by simp)
  refine wpAny_pyNext_tuple_item st (show s.heap.IsTuple a its.toArray from p) (x:=u) (by simpa using O) fun h' st' sb => ?_
  have U:Inv X pins σ H { s with heap:=h' }:=I.turned (t':=s.toks) (fun b o hb e=>(sb.2 b hb).trans e) f0 f1 F f4 G
  obtain ⟨o,e,c,d⟩:=id st';exact ⟨u,rfl,mN (s := { s with heap:=h' }) e c d (by decide) ⟨x,H,U,ru,⟨rfl,fun ys Y=>by rw [I.tuple_inj Y j];exact hx⟩,st',fun b hb=>(hf b hb).1⟩⟩
 done:=by
  intro X q hw B J i pins s σ H E I hf st hg;subst q hw B;obtain ⟨xs,j,hx⟩:=hg;obtain ⟨its,rv,p,L⟩:=I.tuple j;obtain ⟨f0,f1,f2,F,f4,G⟩:=hf it (by simp)
  have Z:=rv.length;exact wpAny_pyNext_tuple_end (I.ok.hd J) st (show s.heap.IsTuple a its.toArray from p) (by simp;omega) fun h' eb=>⟨rfl,I.turned (t':=s.toks) (fun b o hb e=>eb b o hb e) f0 f1 F f4 G⟩
 self:=fun _ _ _ _ _ st h=>wpAny_pyIter_tupleiter st h
theorem rS {P:HI} {w:Ic} {K:Frag} {tg:Expr} (it:Addr) (lo:Int) (n:Nat):fD P w K tg (Itr lo n) [it] it (fun i h=>IsRangeIter h it (lo+(i:Nat)*1) ((n:Int) - (i:Nat)) 1) where
 mem:=by simp
 obj:=fun i h st b hb=>by
  have e:b=it:=by simpa using hb
  subst e;exact ⟨_,st,fun v z=>by
   have z':Data.fields _=Data.cell v:=z
   cases z'⟩
 keep:=fun i h h' st k=>k it (by simp) _ st
 item:=by
  intro X j hw q B i pins s σ H E I hf st hg;subst j hw q;obtain ⟨f0,f1,f2,F,f4,G⟩:=hf it (by simp)
  have W:=Walks.range (prog:=X.prog) (w:=X.w) (I.ok.hd B) it lo 1 n;refine W.item i s _ _ hg st fun v h' tk J st' kk => ?_;obtain ⟨t,rfl⟩:=J;have L:Inv X pins σ H { s with heap:=h',toks:=tk }:=I.turned (fun b o hb e=>kk b o (by simpa using hb) e) f0 f1 F f4 G
  refine ⟨_,rfl,mN (s := { s with heap:=h',toks:=tk }) (n := "range_iterator") st' rfl rfl (by decide) ⟨.int (lo+i),H,L,⟨t, ?_⟩,⟨rfl,rfl⟩,st',fun b hb=>(hf b hb).1⟩⟩
  rw [Int.mul_one]
 done:=by
  intro X j hw q B i pins s σ H E I hf st hg;subst j hw q;obtain ⟨f0,f1,f2,F,f4,G⟩:=hf it (by simp)
  exact wpAny_pyNext_range_end (I.ok.hd B) st (by have:n<=i:=hg;omega) fun h' eb=>⟨rfl,I.turned (t':=s.toks) (fun b o hb e=>eb b o hb e) f0 f1 F f4 G⟩
 self:=fun _ _ _ _ _ st h=>wpAny_pyIter_rangeiter st h
end
section
section
variable {X:Cx} {tg:Expr}
theorem wG {pins:List (Addr×Obj)} {σ:St} {H:Hp} {s:z4} {R:It->Hp->Prop} {E:h6->z4->Prop} {lo hi:Int} {t u v:Tok} {tk:Nat} (I:Inv X pins σ H s) (h1 : -(2 ^ 62)<=lo) (h2:lo < 2 ^ 62) (z : -(2 ^ 62)<=hi) (B:hi < 2 ^ 62)
 (q:R (Itr lo (hi - lo).toNat) H):Hm (model X.prog X.w) X.A (PH (.ref s.heap.objs.size)) (PIE X pins σ tg R) E { s with heap:=s.heap.push { cls := .type "range",data := .fields #[.int lo t, .int hi u, .int 1 v] },toks:=tk }:=by
 refine wpAny_pyIter_range (IsRange.new ..) (small_one h1 h2 z B) ?_;have j:Inv X pins σ H { s with heap:=s.heap.push { cls := .type "range",data := .fields #[.int lo t, .int hi u, .int 1 v] },toks:=tk }:=I.kept fun b o e=>hH _ e
 refine ⟨(s.heap.push { cls := .type "range",data := .fields #[.int lo t, .int hi u, .int 1 v] }).objs.size,[(s.heap.push { cls := .type "range",data := .fields #[.int lo t, .int hi u, .int 1 v] }).objs.size],_,_,H,rfl,
  j.kept (t':=tk) fun b o e=>hH _ e,rS _ lo (hi - lo).toNat, ?_,fun b hb => ?_,q⟩
 ·have e1:lo+((0:Nat):Int)*1=lo:=by simp
  have e2:(((hi - lo).toNat:Nat):Int) - ((0:Nat):Int)=LD lo hi 1:=by rw [rangeSize_one];split <;> omega
  show IsRangeIter _ _ (lo+((0:Nat):Int)*1) ((((hi - lo).toNat:Nat):Int) - ((0:Nat):Int)) 1;rw [e1,e2];exact D1 _ rfl
 ·have e:b=(s.heap.push { cls := .type "range",data := .fields #[.int lo t, .int hi u, .int 1 v] }).objs.size:=by simpa using hb
  subst e;exact j.fpOk (Hk _) (j.hok.fresh (Hk _))
noncomputable def DI (ta:TA):TI:=fun σ H R=>ta σ H fun vs H1 => ∃ j:Int,vs=[.int j] /\ -(2 ^ 62)<=j/\j < 2 ^ 62/\R (Itr 0 j.toNat) H1
theorem tW {a:Expr} {ta:TA} {p pos:Pos} (B:Gl X "range") (hm:X.mg "range" = none) (F:PA X [a] ta) (hs:HG [a] X.env=[(false,eval a X.env)]:=by rfl):PI X tg (.Call (.Name "range" p) [a] [] pos) (DI ta):=by
 intro pins s σ H R I h;refine Call_ (cG I B hm boot_range (IE (thn (F pos pins s σ H _ I h) fun us s1 ⟨vs,H1,G,J,z⟩ => ?_) hs rfl));obtain ⟨j,e,z,L,q⟩:=z;subst e
 cases J with
 | cons r rr =>
   cases rr
   obtain ⟨t,rfl⟩:=r;exact call_range_1 (wG G (by omega) (by omega) z L (by simpa using q))
noncomputable def C3 (wi:TI) (g:TG) (tb:TS):TS:=fun D σ H=>wi σ H fun J H1 => ∃ W:Nat->Nat->St->Hp->Prop,(∃ m,W 0 m σ H1) /\ ∀ i m σ H,W i m σ H ->
 (J.stop i H/\D.nx σ H)∨(J.go i H /\ ∃ N:St->Hp->Prop,(∀ σ' H',N σ' H' -> ∃ m',m' < m/\W (i+1) m' σ' H') /\ ∀ x H',J.yld i H x H'->g x σ H' fun σ2 H2=>tb { D with nx:=N,ct:=N,bk:=D.nx } σ2 H2)
noncomputable def j6 (fp:List Addr) (h:Heap):List (Addr×Obj):=fp.filterMap fun b=>(h.get? b).map fun o=>(b,o)
theorem dC {fp:List Addr} {h:Heap} {b:Addr} {o:Obj} (hb:b∈fp) (e:h.get? b=some o):(b,o)∈j6 fp h:=PJ.mpr ⟨b,hb,by rw [e];rfl⟩
theorem tX {fp:List Addr} {h:Heap} {p:Addr×Obj} (j:p∈j6 fp h):p.1∈fp/\h.get? p.1=some p.2:=by
 obtain ⟨b,hb,e⟩:=PJ.mp j
 cases q:h.get? b with
 | none=>rw [q] at e;cases e
 | some o =>
   rw [q] at e;have e':(b,o)=p:=Jj.inj e;subst e';exact ⟨hb,q⟩
theorem Inv.pinned {pins:List (Addr×Obj)} {σ:St} {H:Hp} {s:z4} {fp:List Addr} (I:Inv X pins σ H s) (hf:∀ b∈fp,cj X pins H b) (ho:∀ b∈fp, ∃ o,s.heap.get? b=some o /\ ∀ v,o.data ≠ .cell v):Inv X (pins++j6 fp s.heap) σ H s :=
 I.pins_of fun p j=>(Hy.mp j).elim (fun z=>I.pin p (Hw _ z)) fun z=>by
  obtain ⟨hb,e⟩:=tX z;obtain ⟨f0,f1,f2,_⟩:=hf p.1 hb;obtain ⟨o,e',d⟩:=ho p.1 hb;rw [e] at e';cases e';exact ⟨e,f0,f1,f2,d⟩
theorem Inv.unpinned {pins pl:List (Addr×Obj)} {σ:St} {H:Hp} {s:z4} (I:Inv X (pins++pl) σ H s):Inv X pins σ H s:=I.pins_of fun p j=>I.pin p (Hw _ (IA _ j))
theorem C4 {iter:Expr} {body:List Stmt} {wi:TI} {g:TG} {tb:TS} {pos:Pos} (F:PassesOwn (model X.prog X.w) X.A X.env X.xe) (hc:X.calm=true) (hi:PI X tg iter wi) (hg:PG X tg g) (hb:PSs X body tb)
 (hs:∀ x,JE iter X.env x=pure x:=by intro _;rfl):PS X (.For tg iter body [] pos) (C3 wi g tb):=by
 intro pins s σ H D I h;refine wpAny_For (thn (hi pins s σ H _ I h) fun v s1 h1=>thn h1 fun itv s2 h2 => ?_) hs;obtain ⟨it,fp,tn,J,H2,e,I2,T,Y,f2,W,⟨m0,w0⟩,turn⟩:=h2;subst e;have stat:∀ {H':Hp},(∀ b∈fp,H' b=none) -> ∀ b∈fp,cj X pins H' b:=fun hn b hb=>⟨hn b hb,(f2 b hb).2⟩;refine codeAny_forLoop_any (fun n s' => ∃ i σ' H',Inv X pins σ' H' s'/\tn i s'.heap/\(∀ b∈fp,H' b=none)/\W i n σ' H') ?_ m0 ⟨0, σ,H2,I2,Y,fun b hb=>(f2 b hb).1,w0⟩;rintro n s3 ⟨i, σ3,U,I3,G,L,w3⟩
 rcases turn i n σ3 U w3 with ⟨stop,qn⟩ | ⟨go,N,hN,step⟩
 ·refine K2 F (thn (T.done X rfl rfl rfl hc i pins s3 σ3 U X.xe I3 (stat L) G stop) fun r s4 ⟨Z,I4⟩ => ?_);subst Z;exact OB ⟨σ3,U,I4,qn⟩
 ·refine K2 F (thn (T.item X rfl rfl rfl hc i pins s3 σ3 U X.xe I3 (stat L) G go) fun r s4 ⟨u,Z,h4⟩ => ?_);subst Z;refine K2 F (thn h4 fun _ s5 ⟨x,H5,I5,r5,y5,B,EX⟩ => ?_);have EY:=I5.pinned (stat EX) (T.obj _ _ B);refine K2 F (thn (hg _ s5 σ3 H5 x u _ EY r5 (step x H5 y5)) fun _ s6 ⟨σ6,H6,I6,q6⟩ => ?_);refine K2 F (thn (hb _ s6 σ6 H6 _ I6 q6) fun f s7 z => ?_);have again:∀ {σ7:St} {j:Hp},Inv X (pins++j6 fp s5.heap) σ7 j s7->N σ7 j -> ∃ m,m < n /\ ∃ i σ' H',Inv X pins σ' H' s7/\tn i s7.heap/\(∀ b∈fp,H' b=none)/\W i m σ' H':=fun {σ7 j} q O=>by
   obtain ⟨m',hm,w7⟩:=hN σ7 j O;refine ⟨m',hm,i+1, σ7,j,q.unpinned,T.keep _ _ _ B fun b hb o e=>(q.pin (b,o) (Hw _ (Hw _ (dC hb e)))).1,fun b hb => ?_,w7⟩;obtain ⟨o,e,d⟩:=T.obj _ _ B b hb;exact (q.pin (b,o) (Hw _ (Hw _ (dC hb e)))).2.1
  cases f with
  | next=>obtain ⟨σ7,j,q,O⟩:=z;exact again q O
  | cont=>obtain ⟨σ7,j,q,O⟩:=z;exact again q O
  | brk=>obtain ⟨σ7,j,q,z⟩:=z;exact ⟨σ7,j,q.unpinned,z⟩
  | ret v=>obtain ⟨x7, σ7,j,q,r7,z⟩:=z;exact ⟨x7, σ7,j,q.unpinned,r7,z⟩
end
end
section
noncomputable abbrev R2:=V->V->Hp->VK->Prop
def OpR (X:Cx) (f:h6->h6->Sem h6) (r:R2):Prop :=
 ∀ (pins:List (Addr×Obj)) (s:z4) (σ:St) (H:Hp) (x y:V) (v u:h6) (Q:VK),Inv X pins σ H s->RelV x v->RelV y u->r x y H Q ->
  Hm (model X.prog X.w) X.A (f v u) (EP X pins σ Q) X.xe s
def UnR (X:Cx) (f:h6->Sem h6) (r:V->Hp->VK->Prop):Prop :=
 ∀ (pins:List (Addr×Obj)) (s:z4) (σ:St) (H:Hp) (x:V) (v:h6) (Q:VK),Inv X pins σ H s->RelV x v->r x H Q ->
  Hm (model X.prog X.w) X.A (f v) (EP X pins σ Q) X.xe s
def CallR (X:Cx) (f:h6) (r:List V->Hp->VK->Prop):Prop :=
 ∀ (pins:List (Addr×Obj)) (s:z4) (σ:St) (H:Hp) (xs:List V) (us:List h6) (Q:VK),Inv X pins σ H s->Vals xs us->r xs H Q ->
  Hm (model X.prog X.w) X.A (call f us) (EP X pins σ Q) X.xe s
def ED (X:Cx) (r:V->Hp->(Bool->Hp->Prop)->Prop):Prop :=
 ∀ (pins:List (Addr×Obj)) (s:z4) (σ:St) (H:Hp) (x:V) (v:h6) (Q:Bool->Hp->Prop),Inv X pins σ H s->RelV x v->r x H Q ->
  Hm (model X.prog X.w) X.A (truthy v) (TP X pins σ Q) X.xe s
noncomputable def tOp (r:R2) (ta tb:TE):TE:=fun σ H Q=>ta σ H fun x H1=>tb σ H1 fun y H2=>r x y H2 Q
noncomputable def tUn (r:V->Hp->VK->Prop) (ta:TE):TE:=fun σ H Q=>ta σ H fun x H1=>r x H1 Q
noncomputable def rI (C:Int->Int->Prop) (g:Int->Int->V):R2:=fun x y H Q => ∃ i j,x = .int i/\y = .int j/\C i j/\Q (g i j) H
noncomputable def rI0 (g:Int->Int->V):R2:=fun x y H Q => ∃ i j,x = .int i/\y = .int j/\Q (g i j) H
noncomputable def rU (g:Int->V):V->Hp->VK->Prop:=fun x H Q => ∃ i,x = .int i/\Q (g i) H
section
variable {X:Cx} {a b c:Expr} {ta tb tc:TE} {pos:Pos}
theorem wH (j:PE X a ta) (hb:PE X b tb) {pins:List (Addr×Obj)} {s:z4} {σ:St} {H:Hp} {R:V->V->Hp->Prop} (I:Inv X pins σ H s)
 (h:ta σ H fun x H1=>tb σ H1 fun y H2=>R x y H2) {Q:h6->z4->Prop} {f:h6->h6->Sem h6}
 (hf:∀ v u s2 x y H2,Inv X pins σ H2 s2->RelV x v->RelV y u->R x y H2->Hm (model X.prog X.w) X.A (f v u) Q X.xe s2) :
 Hm (model X.prog X.w) X.A (eval a X.env) (fun v s₁ => Hm (model X.prog X.w) X.A (eval b X.env) (fun u s₂ => Hm (model X.prog X.w) X.A (f v u) Q X.xe s₂) X.xe s₁) X.xe s:=by
 refine thn (j pins s σ H _ I h) fun v s1 ⟨x,H1,q,z,B⟩ => ?_;refine thn (hb pins s1 σ H1 _ q B) fun u s2 ⟨y,H2,F,G,J⟩ => ?_;exact hf v u s2 x y H2 F z G J
theorem DJ {op:LJ} {r:R2} (ho:OpR X (J0 op) r) (j:PE X a ta) (hb:PE X b tb):PE X (.BinOp a op b pos) (tOp r ta tb):=by
 intro pins s σ H Q I h;exact wpAny_BinOp (wH j hb I h fun v u s2 x y H2 z rx ry q=>ho pins s2 σ H2 x y v u Q z rx ry q)
theorem DK {op:UnaryOp} {r:V->Hp->VK->Prop} (ho:UnR X (unaryOp op) r) (j:PE X a ta):PE X (.UnaryOp op a pos) (tUn r ta):=by
 intro pins s σ H Q I h;exact UnaryOp_ (thn (j pins s σ H _ I h) fun v s1 ⟨x,H1,q,z,B⟩=>ho pins s1 σ H1 x v Q q z B)
theorem opI {f:h6->h6->Sem h6} {C:Int->Int->Prop} {g:Int->Int->Int}
 (rule:∀ (i j:Int) (t u:Tok) (s:z4) (Q:h6->z4->Prop) (E:h6->z4->Prop),C i j->Q (.int (g i j) s.toks) { s with toks:=s.toks+1 }->Hm (model X.prog X.w) X.A (f (.int i t) (.int j u)) Q E s) :
 OpR X f (rI C fun i j => .int (g i j)):=by
 intro pins s σ H x y v u Q I rx ry h;obtain ⟨i,j,rfl,rfl,z,q⟩:=h;obtain ⟨t,rfl⟩:=rx;obtain ⟨t',rfl⟩:=ry;exact rule i j t t' s _ _ z ⟨.int (g i j),H,I.tok _,⟨_,rfl⟩,q⟩
theorem rT {f:h6->h6->Sem h6} {g:Int->Int->Int}
 (rule:∀ (i j:Int) (t u:Tok) (s:z4) (Q:h6->z4->Prop) (E:h6->z4->Prop),Q (.int (g i j) s.toks) { s with toks:=s.toks+1 }->Hm (model X.prog X.w) X.A (f (.int i t) (.int j u)) Q E s) :
 OpR X f (rI0 fun i j => .int (g i j)):=by
 intro pins s σ H x y v u Q I rx ry h;obtain ⟨i,j,rfl,rfl,q⟩:=h;obtain ⟨t,rfl⟩:=rx;obtain ⟨t',rfl⟩:=ry;exact rule i j t t' s _ _ ⟨.int (g i j),H,I.tok _,⟨_,rfl⟩,q⟩
theorem wJ {f:h6->h6->Sem h6} {g:Int->Int->Bool}
 (rule:∀ (i j:Int) (t u:Tok) (s:z4) (Q:h6->z4->Prop) (E:h6->z4->Prop),Q (.bool (g i j)) s->Hm (model X.prog X.w) X.A (f (.int i t) (.int j u)) Q E s) :
 OpR X f (rI0 fun i j => .bl (g i j)):=by
 intro pins s σ H x y v u Q I rx ry h;obtain ⟨i,j,rfl,rfl,q⟩:=h;obtain ⟨t,rfl⟩:=rx;obtain ⟨t',rfl⟩:=ry;exact rule i j t t' s _ _ ⟨.bl (g i j),H,I,rfl,q⟩
def EE (i j:Int):Prop := 0<=j/\j<=1000000/\i.natAbs < 2 ^ 64
theorem op_add:OpR X (J0 .Add) (rI0 fun i j => .int (i+j)):=rT fun _ _ _ _ _ _ _ q=>add_int q
theorem C5:OpR X (J0 .Sub) (rI0 fun i j => .int (i - j)):=rT fun _ _ _ _ _ _ _ q=>sub_int q
theorem C6:OpR X (J0 .Mod) (rI (fun _ j => 0 < j) fun i j => .int (i % j)):=opI fun i j _ _ _ _ _ z q=>by
 have h1:(0:Int) < j:=z;exact mod_int' (by omega) (by rw [Int.fmod_eq_emod_of_nonneg i (by omega)];exact q)
theorem C7:OpR X (J0 .Pow) (rI EE fun i j => .int (i ^ j.toNat)):=opI fun _ _ _ _ _ _ _ z q=>pow_int_small z.1 z.2.1 z.2.2 q
theorem zW:OpR X (Mo .Add) (rI0 fun i j => .int (i+j)):=rT fun _ _ _ _ _ _ _ q=>iadd_int q
theorem zX:OpR X (Mo .Sub) (rI0 fun i j => .int (i - j)):=rT fun _ _ _ _ _ _ _ q=>isub_int q
theorem unI {f:h6->Sem h6} {g:Int->Int}
 (rule:∀ (i:Int) (t:Tok) (s:z4) (Q:h6->z4->Prop) (E:h6->z4->Prop),Q (.int (g i) s.toks) { s with toks:=s.toks+1 }->Hm (model X.prog X.w) X.A (f (.int i t)) Q E s) :
 UnR X f (rU fun i => .int (g i)):=by
 intro pins s σ H x v Q I rx h;obtain ⟨i,rfl,q⟩:=h;obtain ⟨t,rfl⟩:=rx;exact rule i t s _ _ ⟨.int (g i),H,I.tok _,⟨_,rfl⟩,q⟩
theorem C8:UnR X (unaryOp .USub) (rU fun i => .int (-i)):=unI fun _ _ _ _ _ q=>neg_int q
end
section
variable {X:Cx} {a b c:Expr} {ta tb tc:TE} {pos:Pos}
theorem DL:OpR X (J6 .Lt) (rI0 fun i j => .bl (decide (i < j))):=wJ fun _ _ _ _ _ _ _ q=>lt_int q
theorem DM:OpR X (J6 .Gt) (rI0 fun i j => .bl (decide (j < i))):=wJ fun _ _ _ _ _ _ _ q=>gt_int q
theorem DN:OpR X (J6 .GtE) (rI0 fun i j => .bl (decide (j<=i))):=wJ fun _ _ _ _ _ _ _ q=>ge_int q
theorem OpR.or {f:h6->h6->Sem h6} {r r':R2} (h:OpR X f r) (h':OpR X f r'):OpR X f (fun x y H Q=>r x y H Q∨r' x y H Q):=by
 intro pins s σ H x y v u Q I rx ry q
 rcases q with q | q
 ·exact h pins s σ H x y v u Q I rx ry q
 ·exact h' pins s σ H x y v u Q I rx ry q
theorem zY {op:CmpOp} {r:R2} (ho:OpR X (J6 op) r) (j:PE X a ta) (hb:PE X b tb) (hm:Lj op b=false):PE X (.Compare a [op] [b] pos) (tOp r ta tb):=by
 intro pins s σ H Q I h;exact wpAny_Compare1 (wH j hb I h fun v u s2 x y H2 z rx ry q=>ho pins s2 σ H2 x y v u Q z rx ry q) hm
noncomputable def yT (t:TE):TT:=fun σ H Q=>t σ H fun x H' => ∃ k,x = .bl k/\Q k H'
theorem zZ {op:CmpOp} {r:R2} (ho:OpR X (J6 op) r) (j:PE X a ta) (hb:PE X b tb) (hm:Lj op b=false):PT X (.Compare a [op] [b] pos) (yT (tOp r ta tb)):=by
 intro pins s σ H Q I h;refine wpAny_isTrue_Compare1 (thn (j pins s σ H _ I h) fun v s1 ⟨x,H1,q,B,F⟩=>thn (hb pins s1 σ H1 _ q F) fun u s2 ⟨y,H2,G,J,L⟩ =>
  thn (ho pins s2 σ H2 x y v u _ G B J L) fun c s3 ⟨z,O,U,Y,k,e,Z⟩ => ?_) hm
 subst e
 cases Y
 exact K7 ⟨O,U,Z⟩
def wK (K:Frag) (x:V) (H:Hp) (k:Bool):Prop :=
 match x with
 | .non=>k=false
 | .bl b=>k=b
 | .int i=>k=(i != 0)
 | .str y=>y.length<=Hh/\k=((y.length:Int) != 0)
 | .byt y=>y.size<=Hh/\k=((y.size:Int) != 0)
 | .ref p=>(∃ xs,SqL K H p xs/\k = !xs.isEmpty)∨(∃ xs,SqT K H p xs/\k = !xs.isEmpty) ∨ ∃ kvs,H p=some (.dK kvs)/\k = !kvs.isEmpty
 | _=>False
theorem rV {κ:Type} {kvs:List (κ × V)} {vs:List (κ × h6)} (r:KV kvs vs):(!vs.isEmpty) = !kvs.isEmpty:=by
 cases r <;> rfl
theorem j7 {xs:List V} {its:List h6} (r:Vals xs its):(!its.toArray.isEmpty) = !xs.isEmpty:=by
 cases r <;> simp
theorem eU:(Hh:Nat) < 2 ^ 63:=by rw [B2];decide
theorem C9:ED X (fun x H Q => ∃ k,wK X.K x H k/\Q k H):=by
 intro pins s σ H x v Q I rx h;obtain ⟨k,e,q⟩:=h;have F:=eU;have hs:Hh=16777216:=B2
 cases x with
 | non =>
   cases rx
   have e':k=false:=e;subst e';exact truthy_none ⟨H,I,q⟩
 | bl b =>
   cases rx
   have e':k=b:=e;subst e';exact K7 ⟨H,I,q⟩
 | int i =>
   obtain ⟨t,rfl⟩:=rx;have e':k=(i != 0):=e;subst e';exact PySem.P.truthy_int ⟨H,I,q⟩
 | str y =>
   obtain ⟨t,rfl⟩:=rx;obtain ⟨z,e'⟩:y.length<=Hh/\k=((y.length:Int) != 0):=e;subst e';exact PySem.P.truthy_str (by omega) ⟨H,I.tok _,q⟩
 | byt y =>
   obtain ⟨t,rfl⟩:=rx;obtain ⟨z,e'⟩:y.size<=Hh/\k=((y.size:Int) != 0):=e;subst e';exact PySem.W.truthy_bytes (by omega) ⟨H,I.tok _,q⟩
 | ref p =>
   cases rx
   have e':(∃ xs,SqL X.K H p xs/\k = !xs.isEmpty)∨(∃ xs,SqT X.K H p xs/\k = !xs.isEmpty) ∨ ∃ kvs,H p=some (.dK kvs)/\k = !kvs.isEmpty:=e
   rcases e' with ⟨xs,hx,e'⟩ | ⟨xs,hx,e'⟩ | ⟨kvs,hx,e'⟩
   ·subst e';obtain ⟨its,r,pl,j⟩:=I.list hx;have hlen:=r.length;exact wpAny_truthy_list pl.isList (by simp only [Hj];omega) ⟨H,I.tok _,by rw [j7 r];exact q⟩
   ·subst e';obtain ⟨its,r,pl,j⟩:=I.tuple hx;have hlen:=r.length;exact truthy_tuple pl (by simp only [Hj];omega) ⟨H,I.tok _,by rw [j7 r];exact q⟩
   ·subst e';obtain ⟨j,B,vs,r,m⟩:kvs.length<=Hh/\(p==IF)=false /\ ∃ vs,KV kvs vs/\s.heap.DictOf (aK X.prog X.w) p vs:=I.hok p _ hx;have hlen:kvs.length=vs.length:=Kh r;exact wpAny_truthy_dict B m (by omega) ⟨H,I.tok _,by rw [rV r];exact q⟩
 | _=>exact (show False from e).elim
theorem wL (j:PE X a ta) (he:∀ whole,isTrue a X.env whole=(do let v <- whole;NM a.pos;holding [v] (truthy v))) :
 PT X a (fun σ H Q=>ta σ H fun x H' => ∃ k,wK X.K x H' k/\Q k H'):=by
 intro pins s σ H Q I h;exact isTrue_plain (thn (j pins s σ H _ I h) fun v s1 ⟨x,H1,q,z,B⟩=>C9 pins s1 σ H1 x v Q q z B) (he _)
theorem rW:OpR X (J0 .Add) (fun x y H Q => ∃ i j,x = .str i/\y = .str j/\i.length+j.length<=Hh/\Q (.str (i++j)) H):=by
 intro pins s σ H x y v u Q I rx ry h;obtain ⟨i,j,rfl,rfl,z,q⟩:=h;obtain ⟨t,rfl⟩:=rx;obtain ⟨t',rfl⟩:=ry;exact add_str (fun t' tk=>⟨.str (i++j),H,I.tok _,⟨_,rfl⟩,q⟩) z
theorem eJ {x:V} {us:List h6} (r:Vals [x] us):∃ u,us=[u]/\RelV x u:=by
 cases r with
 | cons j q=>cases q;exact ⟨_,rfl,j⟩
theorem mP {x y:V} {us:List h6} (r:Vals [x,y] us):∃ u w',us=[u,w']/\RelV x u/\RelV y w':=by
 cases r with
 | cons j q =>
   cases q with
   | cons z B=>cases B;exact ⟨_,_,rfl,j,z⟩
theorem wM:CallR X (.builtin "abs") (fun xs H Q => ∃ i,xs=[.int i]/\Q (.int (if i < 0 then -i else i)) H):=by
 intro pins s σ H xs us Q I r h;obtain ⟨i,rfl,q⟩:=h;obtain ⟨u,rfl,t,rfl⟩:=eJ r;exact call_abs_int fun u tk=>⟨.int (if i < 0 then -i else i),H,I.tok _,⟨_,rfl⟩,q⟩
theorem tY (B:X.calm=true):CallR X (.builtin "min") (fun xs H Q => ∃ i j,xs=[.int i, .int j]/\Q (.int (if j < i then j else i)) H):=by
 intro pins s σ H xs us Q I r h;obtain ⟨i,j,rfl,q⟩:=h;obtain ⟨u,w',rfl,⟨t,rfl⟩,⟨t',rfl⟩⟩:=mP r;refine min_two_ints (I.ok.hd B) fun h' tk k=>⟨_,H,I.kept k, ?_,q⟩
 by_cases z:j < i
 ·rw [if_pos z,if_pos z];exact ⟨_,rfl⟩
 ·rw [if_neg z,if_neg z];exact ⟨_,rfl⟩
theorem tZ:CallR X (.type "int") (fun xs H Q=>(∃ i,xs=[.int i]/\Q (.int i) H) ∨ ∃ k,xs=[.bl k]/\Q (.int (if k then 1 else 0)) H):=by
 intro pins s σ H xs us Q I r h
 rcases h with ⟨i,rfl,q⟩ | ⟨k,rfl,q⟩
 ·obtain ⟨u,rfl,t,rfl⟩:=eJ r;exact call_int_int ⟨.int i,H,I,⟨_,rfl⟩,q⟩
 ·obtain ⟨u,rfl,j⟩:=eJ r
  cases j
  exact call_int_bool ⟨.int (if k then 1 else 0),H,I.tok _,⟨_,rfl⟩,q⟩
def EF (K:Frag) (x:V) (H:Hp) (n:Nat):Prop :=
 match x with
 | .str y=>y.length<=Hh/\n=y.length
 | .byt y=>y.size<=Hh/\n=y.size
 | .ref p=>(∃ xs,SqL K H p xs/\n=xs.length) ∨ ∃ xs,SqT K H p xs/\n=xs.length
 | _=>False
theorem wN:CallR X (.builtin "len") (fun xs H Q => ∃ x n,xs=[x]/\EF X.K x H n/\Q (.int n) H):=by
 intro pins s σ H xs us Q I r h;obtain ⟨x,n,rfl,e,q⟩:=h;obtain ⟨u,rfl,rx⟩:=eJ r;have B:=eU;have hs:Hh=16777216:=B2
 cases x with
 | str y =>
   obtain ⟨t,rfl⟩:=rx;obtain ⟨j,e'⟩:y.length<=Hh/\n=y.length:=e;subst e';exact len_str (by omega) ⟨.int _,H,I.tok _,⟨_,rfl⟩,q⟩
 | byt y =>
   obtain ⟨t,rfl⟩:=rx;obtain ⟨j,e'⟩:y.size<=Hh/\n=y.size:=e;subst e';exact PySem.W.len_bytes (by omega) ⟨.int _,H,I.tok _,⟨_,rfl⟩,q⟩
 | ref p =>
   cases rx
   have e':(∃ xs,SqL X.K H p xs/\n=xs.length) ∨ ∃ xs,SqT X.K H p xs/\n=xs.length:=e
   rcases e' with ⟨xs,hx,e'⟩ | ⟨xs,hx,e'⟩
   ·subst e';obtain ⟨its,r',pl,z⟩:=I.list hx;have hlen:=r'.length;exact Calls.call_len_list pl.isList (by simp only [Hj];omega) ⟨.int xs.length,H,I.tok _,⟨_,by simp only [Hj];rw [hlen]⟩,q⟩
   ·subst e';obtain ⟨its,r',pl,z⟩:=I.tuple hx;have hlen:=r'.length;exact len_tuple pl (by simp only [Hj];omega) ⟨.int xs.length,H,I.tok _,⟨_,by simp only [Hj];rw [hlen]⟩,q⟩
 | _=>exact (show False from e).elim
end
end
section
structure ObjM (h:Heap) (x dx C:Addr) (mA:Str->Option h6):Prop where
 obj:h.get? x=some (OA C dx)
 ns:h.Ns1 dx mA
 ne:dx≠x
theorem u5 {h:Heap} {dx:Addr} {mA:Str->Option h6} (n:h.Ns1 dx mA):∃ od,h.get? dx=some od /\ ∀ name,ON name od=some (mA name):=by
 obtain ⟨o,es,ep,ho,hd,B,_,hm⟩:=n;refine ⟨o,ho,fun name => ?_⟩;have e:=hm name;unfold nsFind findBy at e;rw [<- Array.find?_toList] at e;unfold ON;rw [hd];dsimp only
 split
 ·rename_i y q;rw [q] at e;exact congrArg some e
 ·rename_i q;rw [q] at e;have a:es.toList.any (·.refKey)=false:=by
   rw [List.any_eq_false];intro y F;obtain ⟨z,t,j⟩:=B y (Array.mem_toList_iff.mp F);simp [DictEntry.refKey,j]
  have a' : ¬ es.toList.any (·.refKey)=true:=by rw [a];exact He
  rw [if_neg a'];exact congrArg some e
theorem ObjM.look {h:Heap} {x dx C:Addr} {mA:Str->Option h6} (I:ObjM h x dx C mA):∃ od,PySem.W.InstAt h x (OA C dx) C (some od) /\ ∀ name,ON name od=some (mA name) :=
 let ⟨od,ho,j⟩:=u5 I.ns
 ⟨od,⟨I.obj,rfl,rfl,ho⟩,j⟩
theorem RJ {v:V} {o:Option h6} (r:RelO (some v) o):∃ u,o=some u/\RelV v u:=by
 cases o with
 | none=>exact (show False from r).elim
 | some u=>exact ⟨u,rfl,r⟩
section
variable {P:HI} {w:Ic} {H H':Hp} {h h':Heap} {a C dx:Addr} {fs fs':List (Str×V)}
theorem A3 (hok:HOk P w H h) (e:H a=some (.ins C dx fs)):∃ mA,ObjM h a dx C mA/\(∀ f,RelO (fs.lookup f) (mA f))/\PySem.Within mA (fs.map (·.1))/\fs.length<=1000/\H dx=some (.own a):=by
 obtain ⟨d,z,ne,ob,mA,n,r,q⟩:=(show ObjOk P w H h a (.ins C dx fs) from hok a _ e);exact ⟨mA,⟨ob,n,ne⟩,r,q,z,d⟩
end
structure Cls (K:Frag) (C:Addr):Prop where
 pg:Qn K C Str.empty=true
 hd:PySem.W.hasDictIn K C=true
 po:PySem.W.plainOver K C=true
 sa:PySem.W.findIn K (.ref C) "__setattr__" = some (some (.builtin "object.__setattr__"))
theorem Cls.get {K:Frag} {C:Addr} (c:Cls K C) (f:Str):Qn K C f=true:=c.pg
section
variable {X:Cx} {pins:List (Addr×Obj)} {σ:St} {H:Hp} {s:z4} {A:Ik} {E:h6->z4->Prop} {Q:h6->z4->Prop} {c:h6} {b:Bool}
inductive ck (K:Frag) (H:Hp):V->h6->Prop where
 | non:ck K H .non (.type "NoneType")
 | bl (x:Bool):ck K H (.bl x) (.type "bool")
 | int (i:Int):ck K H (.int i) (.type "int")
 | str (x:Str):ck K H (.str x) (.type "str")
 | flt (x:UInt64):ck K H (.flt x) (.type "float")
 | lst {a:Addr} {xs:List V} (e:H a=some (.lst xs)):ck K H (.ref a) (.type "list")
 | frz {a:Addr} {o:Obj} {xs:List V} (e:H a=some (.frz o (.lst xs))):ck K H (.ref a) (.type "list")
 | tup {a:Addr} {xs:List V} (e:SqT K H a xs):ck K H (.ref a) (.type "tuple")
 | dK {a:Addr} {kvs:List (Key×V)} (e:H a=some (.dK kvs)):ck K H (.ref a) (.type "dict")
 | dT {a:Addr} {kvs:List (List Key×V)} (e:H a=some (.dT kvs)):ck K H (.ref a) (.type "dict")
 | ins {a C dx:Addr} {fs:List (Str×V)} (e:H a=some (.ins C dx fs)) (cl:Cls K C) (ha:PySem.W.findIn K (.ref C) "__class__" = some (some (.builtin "object.__class__")))
    (hn:PySem.W.specialIn K (.builtin "object.__class__") "__get__" = some (some (.builtin "getset_descriptor.__get__"))) (htk:PySem.W.takesIn K (.builtin "object.__class__")=some true)
    (hm:PySem.W.mroIn K C (.type "object")=some true):ck K H (.ref a) (.ref C)
theorem u6 {x:V} {u t:h6} (I:Inv X pins σ H s) (rx:RelV x u) (ty:ck X.K H x t) (e:PySem.W.kitOne X.K t c=some b) (h:∀ tk,Q (.bool b) { s with toks:=tk }) :
 Hm (model X.prog X.w) A (call (.builtin "isinstance") [u,c]) Q E s:=by
 cases ty with
 | non=>cases (show u=Kg from rx);exact IU Q3 I.kIn J3 e (fun z=>nomatch z) h
 | bl y=>cases (show u=Oi y from rx);exact IU Q4 I.kIn J3 e (fun z=>nomatch z) h
 | int i=>obtain ⟨t,q⟩:=(show ∃ t,u=Pf i t from rx);cases q;exact IU Qo I.kIn J3 e (fun z=>nomatch z) h
 | str y=>obtain ⟨t,q⟩:=(show ∃ t,u=Pg y t from rx);cases q;exact IU Qp I.kIn J3 e (fun z=>nomatch z) h
 | flt y=>obtain ⟨t,q⟩:=(show ∃ t,u=QK y t from rx);cases q;exact IU PM I.kIn J3 e (fun z=>nomatch z) h
 | @lst a xs ea =>
  cases (show u=Ii a from rx)
  obtain ⟨_,_,n,_,h1⟩:=(show ObjOk X.prog X.w H s.heap a (.lst xs) from I.hok a _ ea);exact IU LN I.kIn ⟨_,h1,rfl⟩ e (fun z=>nomatch z) h
 | @frz a ob xs ea =>
  cases (show u=Ii a from rx)
  obtain ⟨_,_,_,n,_,h1⟩:=(show ObjOk X.prog X.w H s.heap a (.frz ob (.lst xs)) from I.hok a _ ea);exact IU LN I.kIn ⟨_,h1,rfl⟩ e (fun z=>nomatch z) h
 | @tup a xs ea =>
  cases (show u=Ii a from rx)
  obtain ⟨_,_,p,_⟩:=I.tuple ea;obtain ⟨o,h1,h2,_⟩:=p;exact IU PN I.kIn ⟨o,h1,h2⟩ e (fun z=>nomatch z) h
 | @dK a kvs ea =>
  cases (show u=Ii a from rx)
  obtain ⟨_,_,vs,_,p⟩:=(show ObjOk X.prog X.w H s.heap a (.dK kvs) from I.hok a _ ea);obtain ⟨o,es,ep,h1,h2,_⟩:=p;exact IU LO I.kIn ⟨o,h1,h2.1⟩ e (fun z=>nomatch z) h
 | @dT a kvs ea =>
  cases (show u=Ii a from rx)
  obtain ⟨_,_,xs,_,o,es,ep,h1,h2,_⟩:=(show ObjOk X.prog X.w H s.heap a (.dT kvs) from I.hok a _ ea);exact IU LO I.kIn ⟨o,h1,h2.1⟩ e (fun z=>nomatch z) h
 | @ins a C dx fs ea cl ha hn htk hm =>
  cases (show u=Ii a from rx)
  obtain ⟨mA,O,_⟩:=A3 I.hok ea;obtain ⟨od,J,_⟩:=O.look;exact IU (PySem.W.kitx_own (cl.get _) cl.hd ha hn htk hm) I.kIn J e (fun z=>nomatch z) h
end
end
section
structure Room (k:Nat) (A:Ik):Prop where
 hd:A.handled=none
 dp:A.depth+3*k+5 < recursionLimit
 un:A.units+16*k+200 < JS
theorem Room.deeper {k:Nat} {A:Ik} (r:Room (k+1) A) (env:Env):Room k (A.deeper env) :=
 ⟨r.hd,by have:=r.dp;show A.depth+1+3*k+5 < _;omega,by have:=r.un;show A.units+3+16*k+200 < _;omega⟩
theorem Room.depth {k:Nat} {A:Ik} (r:Room k A):A.depth < recursionLimit:=by have:=r.dp;omega
theorem Room.units {k:Nat} {A:Ik} (r:Room k A):A.units+64 < JS:=by have:=r.un;omega
noncomputable def Ca:TA:=fun _ H Q=>Q [] H
noncomputable def yU (ta:TE) (tr:TA):TA:=fun σ H Q=>ta σ H fun x H1=>tr σ H1 fun xs H2=>Q (x::xs) H2
section
variable {X:Cx} {e:Expr} {es:List Expr} {te:TE} {t:TA} {pos:Pos}
theorem j8:PA X [] Ca:=fun _ _ _ _ H Q I h=>LP ⟨[],H,I, .nil,h⟩
theorem cT (j:PE X e te) (q:PA X es t) (hs:HG (e::es) X.env=(false,eval e X.env)::HG es X.env:=by rfl):PA X (e::es) (yU te t):=by
 intro pos pins s σ H Q I h;rw [hs];show Hm _ _ (spliced ((false,eval e X.env)::Li pos (HG es X.env))) _ _ s;refine Kx (thn (j pins s σ H _ I h) fun u s1 ⟨x,H1,z,B,F⟩ => ?_);exact thn (q pos pins s1 σ H1 _ z F) fun us s2 ⟨xs,H2,G,J,L⟩=>⟨x::xs,H2,G, .cons B J,L⟩
noncomputable def EG (t:TA):TE:=fun σ H Q=>t σ H fun xs H1=>xs.length<=Hh /\ ∀ p,H1 p=none->Q (.ref p) (upd H1 p (.tup xs))
noncomputable def EH (t:TA):TE:=fun σ H Q=>t σ H fun xs H1=>xs.length<=Hh /\ ∀ p,H1 p=none->Q (.ref p) (upd H1 p (.lst xs))
theorem u7 {B} (h:PA X es t):PE X (.Tuple es B pos) (EG t):=by
 intro pins s σ H Q I hq;refine wpAny_Tuple_spliced (thn (h pos pins s σ H _ I hq) fun us s1 ⟨xs,H1,j,r,z,q⟩=>⟨by rw [<- r.length];exact z, ?_⟩)
 have hf:H1 s1.heap.objs.size=none:=j.hok.fresh (Hk _);refine ⟨.ref s1.heap.objs.size,upd H1 s1.heap.objs.size (.tup xs),j.laid (t':=s1.toks) (fun b u e=>hH _ e) (Hk _) ?_,rfl,q _ hf⟩;exact ⟨z,us,r,⟨_,D1 _ rfl,rfl,_,rfl⟩⟩
theorem Cb (h:PA X es t):PE X (.List es pos) (EH t):=by
 intro pins s σ H Q I hq;refine wpAny_List_spliced (thn (h pos pins s σ H _ I hq) fun us s1 ⟨xs,H1,j,r,z,q⟩=>⟨by rw [<- r.length];exact z, ?_⟩)
 have hf:H1 s1.heap.objs.size=none:=j.hok.fresh (Hk _);refine ⟨.ref s1.heap.objs.size,upd H1 s1.heap.objs.size (.lst xs),j.laid (t':=s1.toks) (fun b u e=>hH _ e) (Hk _) ?_,rfl,q _ hf⟩;exact ⟨z,us,0,r,D1 _ rfl⟩
end
noncomputable abbrev Sp:=List V->Hp->VK->XK->Prop
noncomputable abbrev CXT:=List Env->Hp->z4->XK->h6->z4->Prop
structure rX (P:HI) (w:Ic) (K:Frag) (mg:Str->Option h6) (base:Heap) (A:Ik) (outer:List Env) (s:z4) (H:Hp):Prop where
 frames:A.frames=some outer
 mod:Mod K mg base
 bs:∀ b o,base.get? b=some o->s.heap.get? b=some o/\H b=none
 bsz:base.objs.size<=s.heap.objs.size
 funs:s.heap.FunFrames base outer
 frf:∀ b∈frs outer,H b=none
 hok:HOk P w H s.heap
 bare:NK s.gens
def CE (outer:List Env) (P:HI) (w:Ic) (H:Hp) (s:z4) (Q:VK) (u:h6) (s':z4):Prop :=
 ∃ v H',s'.os=s.os/\NK s'.gens/\Un (frs outer) [] H H' s.heap s'.heap/\HOk P w H' s'.heap/\RelV v u/\Q v H'
def CR (CX:CXT) (outer:List Env) (P:HI) (w:Ic) (H:Hp) (s:z4) (Q:VK) (E:XK) (r:Result) (s':z4):Prop :=
 match r with
 | .ok (.ret u)=>CE outer P w H s Q u s'
 | .ok _=>False
 | .error e=>CX outer H s E e s'
structure dY (P:HI) (w:Ic) (K:Frag) (mg:Str->Option h6) (base:Heap) (CX:CXT) (k:Nat) (f:Addr) (fd:L3) (ps:List Str) (sp:Sp):Prop where
 len:∀ vs H Q E,sp vs H Q E->vs.length=ps.length
 run:∀ (A:Ik) (outer:List Env) (s:z4) (H:Hp) (args:Args) (us:List h6) (vs:List V) (Q:VK) (E:XK),Room k A->rX P w K mg base A outer s H->Q5 s fd args (ps.zip us)->Vals vs us->sp vs H Q E ->
  MA (model P w) A (.call (.ref f) args) (CR CX outer P w H s Q E) s
section
variable {X:Cx} {pins:List (Addr×Obj)} {σ:St} {H:Hp} {s s':z4}
theorem Inv.env0 (I:Inv X pins σ H s):rX X.prog X.w X.K X.mg X.base X.A X.stack s H :=
 ⟨I.ok.frames,I.ok.mod,I.bs,IH I.ok.bsz I.sz,I.stack,I.stkFree,I.hok,I.bare⟩
theorem Inv.after {Q:VK} {u:h6} (I:Inv X pins σ H s) (h:CE X.stack X.prog X.w H s Q u s'):EP X pins σ Q u s':=by
 obtain ⟨v,H',os,bare,un,hok,r,q⟩:=h;obtain ⟨j,g,d,t,os'⟩:=s';obtain rfl:os'=s.os:=os;exact ⟨v,H',I.call (h':=j) (g':=g) (d':=d) (t':=t) (ch := []) un hok bare (fun b z=>absurd z (by simp)),r,q⟩
end
noncomputable def yV (sp:Sp) (dvs:List V) (E:XK) (t:TA):TE:=fun σ H Q=>t σ H fun vs H1=>sp (vs++dvs) H1 Q E
def Binds (K:Frag) (fd:L3) (ps:List Str) (ds:List h6):Prop :=
 ∀ (s:z4) (us:List h6),K.In s.heap->(us++ds).length=ps.length->Q5 s fd ⟨us,[]⟩ (ps.zip (us++ds))
theorem Binds.all {K:Frag} {fd:L3} {ps:List Str} (h:∀ us:List h6,us.length=ps.length->bindArgs fd ⟨us,[]⟩=pure (ps.zip us)):Binds K fd ps []:=fun s us _ j=>by
 rw [Jl] at j ⊢;exact .of_eq (h us j)
def j9 (CX:CXT) (X:Cx) (E:XK):Prop := ∀ (pins:List (Addr×Obj)) (σ:St) (H:Hp) (s:z4) (e:h6) (s':z4),Inv X pins σ H s->CX X.stack H s E e s'->X.xe e s'
section
variable {X:Cx} {CX:CXT} {k:Nat} {f C:Addr} {fd:L3} {ps:List Str} {sp:Sp} {dvs:List V} {ds:List h6} {E:XK} {x m:Str} {p pos apos:Pos} {e o:Expr} {es:List Expr} {ta:TE} {t:TA}
theorem u8 {pins:List (Addr×Obj)} {σ:St} {H:Hp} {s:z4} {Q:VK} {us:List h6} {vs:List V} (F:dY X.prog X.w X.K X.mg X.base CX k f fd ps sp) (z:Room k X.A) (hb:Binds X.K fd ps ds) (hd:Vals dvs ds) (hx:j9 CX X E)
 (I:Inv X pins σ H s) (r:Vals vs us) (h:sp (vs++dvs) H Q E):Hm (model X.prog X.w) X.A (call (.ref f) us) (EP X pins σ Q) X.xe s:=by
 have q:Vals (vs++dvs) (us++ds):=r.append hd;have B:(us++ds).length=ps.length:=by rw [<- q.length];exact F.len _ _ _ _ h
 refine wpAny_call (LQ (F.run X.A X.stack s H ⟨us,[]⟩ (us++ds) (vs++dvs) Q E z I.env0 (hb s us I.kIn B) q h) fun r s' j => ?_)
 cases r with
 | error e=>exact hx pins σ H s e s' I j
 | ok fl =>
   cases fl with
   | ret u=>exact I.after j
   | next=>exact False.elim j
   | brk=>exact False.elim j
   | cont=>exact False.elim j
theorem A4 (F:dY X.prog X.w X.K X.mg X.base CX k f fd ps sp) (G:Room k X.A) (J:Gl X x) (hm:X.mg x=some (.ref f)) (L:L4 X.K (.ref f)=true) (hb:Binds X.K fd ps ds) (hd:Vals dvs ds) (hx:j9 CX X E)
 (O:PA X (e::es) t) (j:(x==("__debug__":Str))=false:=by decide) (he:HG (e::es) X.env=(false,eval e X.env)::HG es X.env:=by rfl) (z:(Li pos (HG es X.env)).any (·.1)=false:=by rfl) :
 PE X (.Call (.Name x p) (e::es) [] pos) (yV sp dvs E t):=by
 intro pins s σ H Q I h;refine JY (ql I J hm ?_ j);refine PySem.W.callWith_K (h₀ := X.base) I.ok.mod.kin L (thn (O pos pins s σ H _ I h) fun us s1 ⟨vs,H1,B,r,q⟩=>⟨B.kIn, ?_⟩) he z;exact u8 F G hb hd hx B r q
theorem wP (F:dY X.prog X.w X.K X.mg X.base CX k f fd ps sp) (q:Room k X.A) (z:Gl X x) (hm:X.mg x=some (.ref f)) (B:L4 X.K (.ref f)=true) (hb:Binds X.K fd ps ds) (hd:Vals dvs ds) (hx:j9 CX X E)
 (j:(x==("__debug__":Str))=false:=by decide):PE X (.Call (.Name x p) [] [] pos) (yV sp dvs E Ca):=by
 intro pins s σ H Q I h;refine JY (ql I z hm ?_ j);exact PySem.W.callWith_K0 I.kIn B (u8 (us := []) F q hb hd hx I .nil h)
end
structure gM (N P:List Str) (sc:Scope):Prop where
 kind:sc.kind = .function
 co:sc.isCoroutine=false
 gen:sc.isGenerator=false
 nd:N.Nodup
 pre:N.take P.length=P
 par:∀ x∈P,sc.names.lookup x=some .local∨sc.names.lookup x=some .cell
 nofree:∀ y∈sc.names,y.2 ≠ .free
theorem lf {IW:Str->Option Kq} {x:Str}:∀ {binds:List (Str×h6)} {m:Str->Option h6},(∀ v,(x,v)∉binds)->R6 IW binds m x=m x
 | [],_,_=>rfl
 | (n,v)::r,m,h=>by
  unfold R6;rw [lf fun w hw=>h w (HF _ hw)]
  split
  ·have:x≠n:=by rintro rfl;exact h v Ie
   simp [this]
  ·rfl
theorem lg {IW:Str->Option Kq} {x:Str}:∀ {binds:List (Str×h6)} {m:Str->Option h6},(∀ v,(x,v)∉binds)->R7 IW binds m x=m x
 | [],_,_=>rfl
 | (n,v)::r,m,h=>by
  unfold R7;rw [lg fun w hw=>h w (HF _ hw)]
  split
  ·rfl
  ·have:x≠n:=by rintro rfl;exact h v Ie
   simp [this]
theorem lh {IW:Str->Option Kq} {x:Str} {v:h6}:∀ {P:List Str} {vs:List h6} {i:Nat} {m:Str->Option h6},P.Nodup->P[i]? = some x->vs[i]? = some v->IW x=some .local ->
 R6 IW (P.zip vs) m x=some v
 | [],_,_,_,_,h,_,_=>by simp at h
 | _::_,[],_,_,_,_,h,_=>by simp at h
 | p::P,w::vs,0,m,nd,h1,h2,j=>by
   simp at h1 h2;subst h1;subst h2;show R6 IW ((p,w)::P.zip vs) m p=_;unfold R6;rw [lf fun v q=>(Jm.mp nd).1 (Lp q).1,if_pos j];simp
 | p::P,w::vs,i+1,m,nd,h1,h2,j=>by
   show R6 IW ((p,w)::P.zip vs) m x=_;unfold R6;exact lh (i:=i) (Jm.mp nd).2 (by simpa using h1) (by simpa using h2) j
theorem lj {IW:Str->Option Kq} {x:Str} {v:h6}:∀ {P:List Str} {vs:List h6} {i:Nat} {m:Str->Option h6},P.Nodup->P[i]? = some x->vs[i]? = some v->IW x≠some .local ->
 R7 IW (P.zip vs) m x=some v
 | [],_,_,_,_,h,_,_=>by simp at h
 | _::_,[],_,_,_,_,h,_=>by simp at h
 | p::P,w::vs,0,m,nd,h1,h2,j=>by
   simp at h1 h2;subst h1;subst h2;show R7 IW ((p,w)::P.zip vs) m p=_;unfold R7;rw [lg fun v q=>(Jm.mp nd).1 (Lp q).1,if_neg j];simp
 | p::P,w::vs,i+1,m,nd,h1,h2,j=>by
   show R7 IW ((p,w)::P.zip vs) m x=_;unfold R7;exact lj (i:=i) (Jm.mp nd).2 (by simpa using h1) (by simpa using h2) j
noncomputable def di (N:List Str) (vs:List V):St:=vs.map some++Ho (N.length - vs.length) none
noncomputable def iz (CX:CXT) (P:HI) (w:Ic) (K:Frag) (mg:Str->Option h6) (base:Heap) (N:List Str) (qual:Str) (scope:Scope) (f:Addr) (cd:h6) (A:Ik) (outer:List Env) (s:z4) (H:Hp) (E:XK):Cx where
 prog:=P
 w:=w
 K:=K
 mg:=mg
 base:=base
 A:=A.deeper (OO qual scope s.heap.objs.size f cd)
 N:=N
 s₀ := s
 H₀ := H
 env:=OO qual scope s.heap.objs.size f cd
 outer:=outer
 stack:=OO qual scope s.heap.objs.size f cd::outer
 ex := []
 calm:=true
 fn:=fun _=>true
 pn := []
 xe:=fun e s'=>Hm (model P w) (A.deeper (OO qual scope s.heap.objs.size f cd)) (leaving (OO qual scope s.heap.objs.size f cd) e) (fun _ s''=>CX outer H s E e s'') (fun e' s''=>CX outer H s E e' s'') s'
theorem nc {sc:Scope} {n:Nat} {x:Str} (h:sc.names.lookup x=some .cell):∃ c,(JF n sc.names []).lookup x=some c:=by
 have q:=LR sc.names n [] (.inl h);exact Kj.mp q
theorem u9 {CX:CXT} {P:HI} {w:Ic} {K:Frag} {mg:Str->Option h6} {base:Heap} {N ps:List Str} {qual:Str} {scope:Scope} {f:Addr} {cd:h6} {A:Ik} {outer:List Env} {s s1:z4} {H:Hp} {E:XK} {us:List h6} {vs:List V}
 (S:gM N ps scope) (hd:A.handled=none) (e0:rX P w K mg base A outer s H) (O:vs.length=ps.length) (r:Vals vs us)
 (x:InCallC s s.heap.objs.size (R6 (OO qual scope s.heap.objs.size f cd).kindOf (ps.zip us) fun _=>none) (JF (s.heap.objs.size+1) scope.names []) (R7 (OO qual scope s.heap.objs.size f cd).kindOf (ps.zip us) fun _=>none) s1) :
 Inv (iz CX P w K mg base N qual scope f cd A outer s H E) [] (di N vs) H s1:=by
 have J:ps.length<=N.length:=by have:=congrArg LF S.pre;rw [Hz] at this;omega
 obtain ⟨h1,tk,rfl,F⟩:=x.done;have noA:∀ b:Addr,b∉(iz CX P w K mg base N qual scope f cd A outer s H E).ex:=fun b z=>absurd (show b∈([]:List Addr) from z) (by simp)
 refine ⟨⟨e0.mod,S.kind,rfl,rfl,Hk _,fun y z c h1 h2 => ?_,fun y j => ?_,fun y c _ h => ?_,fun _=>hd,Around.frames_deeper e0.frames, .inr ⟨rfl,rfl⟩,fun b z=>absurd z (noA b),e0.bs,e0.bsz,fun b _ _=>noA b,fun b z=>absurd z (noA b),e0.funs,e0.frf⟩,
  rfl,e0.bare,Un.kept F,⟨_,x.toInCall.ns,fun i y v h1 h2 U => ?_⟩,fun y c h=>⟨_,x.cell y c h⟩,e0.hok.fresh (Hk _),fun y c h => ?_,fun p B=>absurd (show p∈([]:List (Addr×Obj)) from B) (by simp),e0.hok.kept F, ?_⟩
 ·exact name_of_addr x.apart (IX h1) (IX h2)
 ·have j:scope.names.lookup y=some .cell∨scope.names.lookup y=some .free:=j
  rcases j with j | j
  ·exact nc j
  ·exact absurd rfl (S.nofree _ (IX j))
 ·exact L9 (x.above y c (IX h))
 ·have hi:i < vs.length:=by
   unfold di at h2
   by_cases hi:i < vs.length
   ·exact hi
   ·rw [B1 (by simpa using hi)] at h2
    rw [NZ] at h2
    split at h2 <;> cases h2
  have L:vs[i]? = some v:=by
   unfold di at h2;rw [Hq (by simpa using hi),HC] at h2
   cases e:vs[i]? with
   | none=>rw [e] at h2;cases h2
   | some a=>rw [e] at h2;cases h2;rfl
  obtain ⟨u,G,rv⟩:=r.get L;have B:ps[i]? = some y:=by
   rw [<- S.pre,Lk (by omega)];exact h1
  have ndP:ps.Nodup:=by rw [<- S.pre];exact S.nd.sublist (List.take_sublist _ _)
  refine ⟨u,rv, ?_⟩
  rcases S.par y (HN B) with k | k
  ·exact .inl ⟨k,lh ndP B G k⟩
  ·obtain ⟨c,e⟩:=nc (n:=s.heap.objs.size+1) k;refine .inr ⟨.inl k,c,e, ?_⟩;have q:=x.cell y c e;rw [lj ndP B G (by show scope.names.lookup y≠_;rw [k];decide)] at q
   exact q
 ·exact e0.hok.fresh (L9 (x.above y c (IX h)))
 ·unfold di;show _=N.length;rw [A1,A0,List.length_replicate];omega
theorem DO {CX:CXT} {P:HI} {w:Ic} {K:Frag} {mg:Str->Option h6} {base:Heap} {k:Nat} {f:Addr} {name qual:Str} {params:Arguments} {body:List Stmt} {scope:Scope} {dV kV doc pm cdv ct oc:h6} {an od:Option Addr}
 {osl:Array (Option h6)} {N ps:List Str} {sp:Sp} (lk:K.lookup f=some ⟨oc,od, .func (Kz name qual params body scope dV kV doc pm an cdv ct),osl⟩) (F:Nl K cdv qual=true) (S:gM N ps scope)
 (len:∀ vs H Q E,sp vs H Q E->vs.length=ps.length)
 (j:∀ (A:Ik) (outer:List Env) (s:z4) (H:Hp) (vs:List V) (Q:VK) (E:XK),Room k (A.deeper (OO qual scope s.heap.objs.size f cdv))->sp vs H Q E ->
   ∃ t,PSs (iz CX P w K mg base N qual scope f cdv A outer s H E) body t/\t { nx:=fun _ H'=>Q .non H',rt:=Q } (di N vs) H) :
 dY P w K mg base CX (k+1) f (Kz name qual params body scope dV kV doc pm an cdv ct) ps sp:=by
 refine ⟨len,fun A outer s H args us vs Q E G e0 hb r B => ?_⟩;have L:=len _ _ _ _ B;have KX:K.In s.heap:=e0.mod.kin.keeps fun b o e=>(e0.bs b o e).1;have lim:s.heap.NoLimit:=e0.mod.nolimit.keeps fun b o e=>(e0.bs b o e).1;have z:∀ y∈ps.zip us,scope.names.lookup y.1=some .local∨(scope.names.lookup y.1=some .cell/\((JF (s.heap.objs.size+1) scope.names []).lookup y.1).isSome=true):=fun ⟨n,v⟩ hy=>by
  rcases S.par n (Lp hy).1 with q | q
  ·exact .inl q
  ·exact .inr ⟨q,LR _ _ _ (.inl q)⟩
 refine codeAny_call_function G.depth (KX _ _ lk) rfl S.co S.gen rfl (PySem.W.codeRec_of KX F) (hb _ _ _ _ ?_);refine wpAny_newFunctionEnv_cells S.kind z fun env he s1 x => ?_;subst he;refine ⟨lim.keeps x.toInCall.keep,codeAny_func ?_⟩;obtain ⟨t,O,U⟩:=j A outer s H vs Q E (G.deeper _) B;have I:Inv (iz CX P w K mg base N qual scope f cdv A outer s H E) [] (di N vs) H s1:=u9 S G.hd e0 L r x;refine Jr (O [] s1 (di N vs) H _ I U) (fun fl s' hs => ?_) fun e s' hs=>hs;have fin:∀ {σ':St} {H':Hp} {v:V} {u:h6},Inv (iz CX P w K mg base N qual scope f cdv A outer s H E) [] σ' H' s'->RelV v u->Q v H'->CE outer P w H s Q u s' :=
  fun {σ' H' v u} J rv q=>⟨v,H',J.os,J.bare,J.base,J.hok,rv,q⟩
 cases fl with
 | ret u =>
   obtain ⟨v, σ',H',J,rv,q⟩:=hs;exact fin J rv q
 | next =>
   obtain ⟨σ',H',J,q⟩:=hs;exact fin (v:=V.non) (u:=Kg) J rfl q
 | brk =>
   obtain ⟨_,_,_,q⟩:=hs;exact False.elim q
 | cont =>
   obtain ⟨_,_,_,q⟩:=hs;exact False.elim q
end
section
section
variable {X:Cx} {x:Str} {p pos:Pos} {e:Expr} {es:List Expr} {t:TA} {id T:String} {r:List V->Hp->VK->Prop}
noncomputable def tCB (r:List V->Hp->VK->Prop) (t:TA):TE:=fun σ H Q=>t σ H fun vs H1=>r vs H1 Q
theorem cy (z:CallR X (.builtin id) r) (B:Gl X x) (hm:X.mg x=none) (F:JO x=some (.builtin id)) (G:PA X (e::es) t) (hn:x ≠ "__name__" := by decide) (j:(x==("__debug__":Str))=false:=by decide)
 (he:HG (e::es) X.env=(false,eval e X.env)::HG es X.env:=by rfl) (q:(Li pos (HG es X.env)).any (·.1)=false:=by rfl):PE X (.Call (.Name x p) (e::es) [] pos) (tCB r t):=by
 intro pins s σ H Q I h;refine JY (cG I B hm F ?_ hn j);exact PyProof.Rows.callWith_builtin1 (thn (G pos pins s σ H _ I h) fun us s1 ⟨vs,H1,J,L,O⟩=>z pins s1 σ H1 vs us Q J L O) he q
theorem eK (z:CallR X (.type T) r) (B:Gl X x) (hm:X.mg x=none) (F:JO x=some (.type T)) (G:PA X (e::es) t) (hn:x ≠ "__name__" := by decide) (j:(x==("__debug__":Str))=false:=by decide)
 (he:HG (e::es) X.env=(false,eval e X.env)::HG es X.env:=by rfl) (q:(Li pos (HG es X.env)).any (·.1)=false:=by rfl):PE X (.Call (.Name x p) (e::es) [] pos) (tCB r t):=by
 intro pins s σ H Q I h;refine JY (cG I B hm F ?_ hn j);exact IE (thn (G pos pins s σ H _ I h) fun us s1 ⟨vs,H1,J,L,O⟩=>z pins s1 σ H1 vs us Q J L O) he q
end
end
end L2
namespace HT
open PySem PyProof.Rows
section
variable {prog:HI} {w:Ic} {A:Ik} {E:h6->z4->Prop} {s:z4}
theorem cat_tup {t b:Addr} {vs ws:List h6} {Q:h6->z4->Prop} (U:IsTup s.heap t vs.toArray) (hb:IsTup s.heap b ws.toArray) (G:vs≠[])
 (h1:ws=[]->Q (.ref t) s) (h2:ws≠[]->Q (.ref s.heap.objs.size) { s with heap:=s.heap.push { cls := .type "tuple",data := .seq (vs++ws).toArray } })
 (hsz:vs.length+ws.length<=Hh):Hm (model prog w) A (J0 .Add (.ref t) (.ref b)) Q E s:=by
 obtain ⟨⟨cls,dd,data,sl⟩,ho,J,n,hd⟩:=id U;obtain ⟨⟨L,q,data2,z⟩,j,B,O,hd2⟩:=id hb;simp only at J hd B hd2;subst J hd B hd2;have e:vs.toArray++ws.toArray=(vs++ws).toArray:=by simp
 by_cases hw:ws=[]
 ·exact Q6 ⟨_,ho,rfl⟩ ⟨_,j,rfl⟩ O0 Pp LS LG (Ll _ _)
   (tuple_addW1 t b vs.toArray ws.toArray n O dd q sl z (by simpa using G) (by simp [hw])) ⟨ho,j,h1 hw⟩
 ·refine Q6 ⟨_,ho,rfl⟩ ⟨_,j,rfl⟩ O0 Pp LS LG (Ll _ _)
   (tuple_addW2 t b vs.toArray ws.toArray n O dd q sl z (by simpa using G) (by simpa using hw) (by rw [Hj,Hj];exact hsz)) ⟨ho,j, ?_⟩
  rw [e];exact h2 hw
noncomputable def sIx (n d:Nat):Option Int->Nat
 | none=>d
 | some v=>if v < 0 then (v+(n:Int)).toNat else min v.toNat n
theorem Cc (n d:Nat) (hd:d<=n) (o:Option Int):sIx n d o<=n:=by
 cases o with
 | none=>exact hd
 | some v =>
   show (if v < 0 then (v+(n:Int)).toNat else min v.toNat n)<=n
   by_cases hv:v < 0
   ·rw [if_pos hv];omega
   ·rw [if_neg hv];exact Nat.min_le_right _ _
theorem qo (v:Int) (n d:Nat):(if v < 0 then max (v+(n:Int)) 0 else min v (n:Int))=((sIx n d (some v):Nat):Int):=by
 show (if v < 0 then max (v+(n:Int)) 0 else min v (n:Int))=(((if v < 0 then (v+(n:Int)).toNat else min v.toNat n):Nat):Int)
 by_cases hv:v < 0
 ·simp only [if_pos hv];omega
 ·simp only [if_neg hv];omega
theorem rY (lo hi:Option Int) (n:Nat):Lh lo hi 1 (n:Int)=(((sIx n 0 lo:Nat):Int),((sIx n n hi:Nat):Int)):=by
 have h1 : ¬ ((1:Int) < 0):=by omega
 unfold Lh;simp only [h1,if_false];refine Prod.ext ?_ ?_
 ·cases lo with
  | none=>rfl
  | some v=>exact qo v n 0
 ·cases hi with
  | none=>rfl
  | some v=>exact qo v n n
theorem rZ (i j:Nat):K1 (i:Int) (j:Int) 1=j - i:=by
 unfold K1;have h1:(1:Int) > 0:=by omega
 simp only [h1,if_true,Int.ediv_one]
 split <;> omega
theorem ja {v:h6} {o:Option Int} {Q:Option Int->z4->Prop} (p:Om v o) (h:Q o s):Hm (model prog w) A (Builtin.Slice.slicePartIndex v) Q E s:=by
 cases p with
 | none=>exact slicePart_none h
 | int i t=>exact slicePart_int h
theorem dZ {sl:Addr} {vl vu:h6} {lo hi:Option Int} {n:Nat} {Q:Int×Int×Nat->z4->Prop} (hs:s.heap.IsSliceOf sl vl vu .none) (pl:Om vl lo) (pu:Om vu hi)
 (h:Q (((sIx n 0 lo:Nat):Int),1,sIx n n hi - sIx n 0 lo) s):Hm (model prog w) A (Nm (.ref sl) (pure (n:Int))) Q E s:=by
 obtain ⟨os,j,z,q⟩:=id hs;unfold Nm Builtin.Slice.sliceFields;refine gV (gV (HU j q (x:=vl) rfl (gV (HU j q (x:=vu) rfl (gV (HU j q (x := .none) rfl (q7 ?_)))))));refine gV (slicePart_none ?_);show Hm _ _ (if ((1:Int)==0)=true then _ else _) _ _ s
 rw [if_neg (by decide)]
 refine gV (ja pl (gV (ja pu (gV (q7 ?_)))));show Hm _ _ (match Lh lo hi 1 (n:Int) with | (lo,hi)=>pure (lo,(1:Int),K1 lo hi 1)) _ _ s
 rw [rY lo hi n];show Hm _ _ (pure (((sIx n 0 lo:Nat):Int),(1:Int),K1 ((sIx n 0 lo:Nat):Int) ((sIx n n hi:Nat):Int) 1)) _ _ s;rw [rZ];exact q7 h
theorem wQ (xs:Array h6) (i k:Nat):((B0 k).filterMap fun (m:Nat)=>xs[((i:Int)+(m:Int)*1).toNat]?).toArray=((xs.toList.drop i).take k).toArray:=by
 have e:(fun (m:Nat)=>xs[((i:Int)+(m:Int)*1).toNat]?)=fun m=>xs[i+m]? := by
  funext m
  have:((i:Int)+(m:Int)*1).toNat=i+m:=by omega
  rw [this]
 rw [e];have:=pick_run xs i k;rw [List.filterMap_map] at this;have e2:((fun x=>xs[x]?) ∘ fun x=>i+x)=fun m=>xs[i+m]? := rfl;rw [e2] at this;rw [this]
theorem getItem_tuple_cut {t sl:Addr} {items:Array h6} {vl vu:h6} {lo hi:Option Int} {Q:h6->z4->Prop} (z:IsTup s.heap t items) (hs:s.heap.IsSliceOf sl vl vu .none) (pl:Om vl lo) (pu:Om vu hi)
 (hw : ¬ (sIx items.size 0 lo=0/\sIx items.size items.size hi=items.size))
 (h:Q (.ref s.heap.objs.size) { s with heap:=s.heap.push { cls := .type "tuple",data := .seq ((items.toList.drop (sIx items.size 0 lo)).take (sIx items.size items.size hi - sIx items.size 0 lo)).toArray } })
 (hsz:items.size<=Hh):Hm (model prog w) A (NN (.ref t) (.ref sl)) Q E s:=by
 have j:sizeOk (.seq ((items.toList.drop (sIx items.size 0 lo)).take (sIx items.size items.size hi - sIx items.size 0 lo)).toArray):=by
  show ((items.toList.drop (sIx items.size 0 lo)).take (sIx items.size items.size hi - sIx items.size 0 lo)).toArray.size<=Hh;rw [Hj,Hz,J8,HJ];omega
 have O:sIx items.size items.size hi<=items.size:=Cc _ _ (Hk _) hi;obtain ⟨os,B,F,L⟩:=id hs;have G:s.TypeIs (.ref sl) "slice" := ⟨os,B,F⟩;unfold NN
 try with_reducible refine ID ?_
 first | refine gV (q7 ?_) | skip
 refine gV (Q7 z.typeIs (by decide) ?_)
 refine gV (HZ (name:=Iq "__getitem__") z.typeIs Jp
  (Ig Jp z.typeIs Pm ?_ (PQ _ _)))
 show Hm _ _ (Np (.ref t) >>= _) _ _ s;refine gV (tupleItemsOf_ z ?_);refine gV (K8 G ?_);rw [if_pos (by decide)]
 refine gV (dZ hs pl pu ?_);have J : ¬ ((((sIx items.size 0 lo:Nat):Int)==0&&(1:Int)==1&&(sIx items.size items.size hi - sIx items.size 0 lo)==items.size)=true):=by
  intro q;rw [tv,tv] at q;have U:((sIx items.size 0 lo:Nat):Int)=0:=Kr q.1.1;have Y:sIx items.size items.size hi - sIx items.size 0 lo=items.size:=Kr q.2;exact hw ⟨by omega,by omega⟩
 show Hm _ _ (if (((sIx items.size 0 lo:Nat):Int)==0&&(1:Int)==1&&(sIx items.size items.size hi - sIx items.size 0 lo)==items.size)=true then _ else _) _ _ s
 rw [if_neg J,wQ]
 first
  | exact gV (m:=Kk _) (IQ (q7 ⟨_,rfl,q7 h⟩) j)
  | exact gV (m:=Kk _) (IQ (gV (q7 (q7 ⟨_,rfl,q7 h⟩))) j)
  | exact gV (gV (m:=Kk _) (IQ (q7 (q7 ⟨_,rfl,q7 h⟩)) j))
  | exact gV (gV (m:=Kk _) (IQ (q7 ⟨_,rfl,q7 h⟩) j))
end
end HT
namespace L2
open PySem PySem.Spec PyProof.Rows
section
noncomputable abbrev TO:=St->Hp->(Option Int->Hp->Prop)->Prop
def PO (X:Cx) (e:Option Expr) (t:TO):Prop :=
 ∀ (pins:List (Addr×Obj)) (s:z4) (σ:St) (H:Hp) (Q:Option Int->Hp->Prop),Inv X pins σ H s->t σ H Q ->
  Hm (model X.prog X.w) X.A (evalPart e X.env) (fun u s' => ∃ o H',Inv X pins σ H' s'/\Om u o/\Q o H') X.xe s
noncomputable def A5:TO:=fun _ H Q=>Q none H
noncomputable def DP (t:TE):TO:=fun σ H Q=>t σ H fun x H1 => ∃ i,x = .int i/\Q (some i) H1
section
variable {X:Cx} {e:Expr} {te:TE} {lo hi:Option Expr} {tl th:TO} {pos p2:Pos}
theorem A6:PO X none A5:=by
 intro pins s σ H Q I h;rw [evalPart_none];exact q7 ⟨none,H,I, .none,h⟩
theorem A7 (h:PE X e te):PO X (some e) (DP te):=by
 intro pins s σ H Q I hw;rw [evalPart_some];refine thn (h pins s σ H _ I hw) fun u s1 ⟨x,H1,j,z,B⟩ => ?_;obtain ⟨i,rfl,q⟩:=B;obtain ⟨t,rfl⟩:=z;exact ⟨some i,H1,j, .int i t,q⟩
def SlR (X:Cx) (r:V->Option Int->Option Int->Hp->VK->Prop):Prop :=
 ∀ (pins:List (Addr×Obj)) (s:z4) (σ:St) (H:Hp) (x:V) (v vl vu:h6) (lo hi:Option Int) (sl:Addr) (Q:VK),Inv X pins σ H s->RelV x v->s.heap.IsSliceOf sl vl vu .none->Om vl lo->Om vu hi->r x lo hi H Q ->
  ∃ T id,typeLookup (.type T) "__getitem__" = pure (some (.builtin id))/\s.TypeIs v T/\Hm (model X.prog X.w) X.A (NN v (.ref sl)) (EP X pins σ Q) X.xe s
theorem SlR.or {r r':V->Option Int->Option Int->Hp->VK->Prop} (h:SlR X r) (h':SlR X r'):SlR X (fun x lo hi H Q=>r x lo hi H Q∨r' x lo hi H Q):=by
 intro pins s σ H x v vl vu lo hi sl Q I rx hs pl pu q
 rcases q with q | q
 ·exact h pins s σ H x v vl vu lo hi sl Q I rx hs pl pu q
 ·exact h' pins s σ H x v vl vu lo hi sl Q I rx hs pl pu q
noncomputable def tSl (r:V->Option Int->Option Int->Hp->VK->Prop) (te:TE) (tl th:TO):TE:=fun σ H Q=>te σ H fun x H1=>tl σ H1 fun l H2=>th σ H2 fun u H3=>r x l u H3 Q
theorem wR {r:V->Option Int->Option Int->Hp->VK->Prop} (z:SlR X r) (he:PE X e te) (B:PO X lo tl) (F:PO X hi th):PE X (.Subscript e (.Slice lo hi none p2) pos) (tSl r te tl th):=by
 intro pins s σ H Q I h;refine Subscript_ (thn (he pins s σ H _ I h) fun v s1 ⟨x,H1,G,J,L⟩ => ?_);refine wpAny_Slice (thn (B pins s1 σ H1 _ G L) fun vl s2 ⟨l,H2,O,pl,U⟩=>thn (F pins s2 σ H2 _ O U) fun vu s3 ⟨u,j,Y,pu,Z⟩ => ?_);rw [evalPart_none];refine q7 ?_;have I4:Inv X pins σ j { s3 with heap:=s3.heap.push { cls := .type "slice",data := .fields #[vl,vu, .none] } }:=Y.kept (t':=s3.toks) fun b ob q=>hH _ q
 obtain ⟨T,id,hT,ht,hg⟩:=z pins { s3 with heap:=s3.heap.push { cls := .type "slice",data := .fields #[vl,vu, .none] } } σ j x v vl vu l u s3.heap.objs.size Q I4 J (Heap.IsSliceOf.new ..) pl pu Z
 show Hm (model X.prog X.w) X.A (subscriptTail e (.Slice lo hi none p2) v (.ref s3.heap.objs.size)) (EP X pins σ Q) X.xe { s3 with heap:=s3.heap.push { cls := .type "slice",data := .fields #[vl,vu, .none] } }
 exact tail_any (ops := [.ref s3.heap.objs.size,v]) ht hT hg (by with_unfolding_all rfl)
noncomputable def ga (xs:List V) (lo hi:Option Int):List V:=(xs.drop (HT.sIx xs.length 0 lo)).take (HT.sIx xs.length xs.length hi - HT.sIx xs.length 0 lo)
theorem ig (xs:List V) (lo hi:Option Int):(ga xs lo hi).length<=xs.length:=by
 unfold ga;rw [Hz,J8];omega
noncomputable def EI (K:Frag):V->Option Int->Option Int->Hp->VK->Prop:=fun x lo hi H Q => ∃ a xs,x = .ref a/\SqT K H a xs /\
 ¬ (HT.sIx xs.length 0 lo=0/\HT.sIx xs.length xs.length hi=xs.length) /\ ∀ p,H p=none->Q (.ref p) (upd H p (.tup (ga xs lo hi)))
theorem sl_tup:SlR X (EI X.K):=by
 intro pins s σ H x v vl vu lo hi sl Q I rx hs pl pu h;obtain ⟨a,xs,rfl,hx,hw,q⟩:=h
 cases rx
 obtain ⟨its,r,j,z⟩:=I.tuple hx;have hlen:its.toArray.size=xs.length:=by rw [Hj];exact r.length.symm
 refine ⟨"tuple",_,PyProof.Rows.slot_tuple_getitem.lookup,j.typeIs, ?_⟩;refine HT.getItem_tuple_cut j hs pl pu (by rw [hlen];exact hw) ?_ (by rw [hlen];exact z)
 rw [hlen];refine ⟨.ref s.heap.objs.size,_,I.laid (t':=s.toks) (o := .tup (ga xs lo hi)) (fun b ob q=>hH _ q) (Hk _) ?_,rfl,q _ (I.hok.fresh (Hk _))⟩;exact ⟨IH (ig xs lo hi) z,_,(r.drop (HT.sIx xs.length 0 lo)).take (HT.sIx xs.length xs.length hi - HT.sIx xs.length 0 lo),LC _ _⟩
noncomputable def yW (K:Frag):R2:=fun x y H Q => ∃ a b xs ys,x = .ref a/\y = .ref b/\SqT K H a xs/\SqT K H b ys/\xs≠[]/\xs.length+ys.length<=Hh /\
 (ys=[]->Q (.ref a) H)/\(ys≠[] -> ∀ p,H p=none->Q (.ref p) (upd H p (.tup (xs++ys))))
theorem Vals.nil_iff {xs:List V} {us:List h6} (r:Vals xs us):us=[]↔xs=[]:=by
 cases r with
 | nil=>simp
 | cons _ _=>simp
theorem op_catT:OpR X (J0 .Add) (yW X.K):=by
 intro pins s σ H x y v u Q I rx ry h;obtain ⟨a,b,xs,ys,rfl,rfl,J,hb,hx,F,L,O⟩:=h
 cases rx
 cases ry
 obtain ⟨its,B,U,_⟩:=I.tuple J;obtain ⟨G,j,p2,_⟩:=I.tuple hb;refine HT.cat_tup U p2 (fun z=>hx (B.nil_iff.mp z)) (fun z=>⟨.ref a,H,I,rfl,L (j.nil_iff.mp z)⟩) (fun z => ?_) (by rw [<- B.length, <- j.length];exact F)
 refine ⟨.ref s.heap.objs.size,_,I.laid (t':=s.toks) (o := .tup (xs++ys)) (fun b ob q=>hH _ q) (Hk _) ?_,rfl,O (fun w=>z (j.nil_iff.mpr w)) _ (I.hok.fresh (Hk _))⟩;exact ⟨by rw [A1];exact F,_,B.append j,LC _ _⟩
end
end
section
noncomputable def ixN (n:Nat) (i:Int):Option Nat:=if 0<=i then (if i < n then some i.toNat else none) else if -(n:Int)<=i then some (i+n).toNat else none
noncomputable def atI {α:Type} (xs:List α) (i:Int):Option α := (ixN xs.length i).bind fun j=>xs[j]?
theorem qp {n:Nat} {i:Int} {j:Nat} (h:ixN n i=some j):seqIndex? i n=some j/\j < n /\ -(n:Int)<=i/\i < n:=by
 unfold ixN at h
 by_cases h0 : 0<=i
 ·rw [if_pos h0] at h
  by_cases h1:i < n
  ·rw [if_pos h1] at h;have e:i.toNat=j:=Jj.inj h;exact ⟨by rw [OP h0 h1,e],by omega,by omega,h1⟩
  ·rw [if_neg h1] at h;cases h
 ·rw [if_neg h0] at h
  by_cases h1 : -(n:Int)<=i
  ·rw [if_pos h1] at h;have e:(i+n).toNat=j:=Jj.inj h;exact ⟨by rw [Oo (by omega) h1,e],by omega,h1,by omega⟩
  ·rw [if_neg h1] at h;cases h
theorem kg {α:Type} {xs:List α} {i:Int} {v : α} (h:atI xs i=some v):∃ j,seqIndex? i xs.length=some j/\xs[j]? = some v/\j < xs.length /\ -(xs.length:Int)<=i/\i < xs.length:=by
 unfold atI at h
 cases e:ixN xs.length i with
 | none=>rw [e] at h;cases h
 | some j =>
   rw [e] at h;obtain ⟨h1,h2,q,z⟩:=qp e;exact ⟨j,h1,h,h2,q,z⟩
def kh (b:Expr):Prop := ∀ o i,subscripted b false o i=operate [o,i] (NN o i)
def IxR (X:Cx) (r:R2):Prop :=
 ∀ (value slice:Expr) (pins:List (Addr×Obj)) (s:z4) (σ:St) (H:Hp) (x y:V) (v u:h6) (Q:VK),Inv X pins σ H s->RelV x v->RelV y u->r x y H Q ->
  subscripted slice false v u=operate [v,u] (NN v u)->Hm (model X.prog X.w) X.A (subscriptTail value slice v u) (EP X pins σ Q) X.xe s
def MtR (X:Cx) (id:String) (r:V->List V->Hp->VK->Prop):Prop :=
 ∀ (pins:List (Addr×Obj)) (s:z4) (σ:St) (H:Hp) (x:V) (xs:List V) (v:h6) (us:List h6) (Q:VK),Inv X pins σ H s->RelV x v->Vals xs us->r x xs H Q ->
  Hm (model X.prog X.w) X.A (call (.builtin id) (v::us)) (EP X pins σ Q) X.xe s
section
variable {X:Cx} {a b:Expr} {ta tb:TE} {pos:Pos}
theorem IxR.or {r r':R2} (h:IxR X r) (h':IxR X r'):IxR X (fun x y H Q=>r x y H Q∨r' x y H Q):=by
 intro value slice pins s σ H x y v u Q I rx ry q hs
 rcases q with q | q
 ·exact h value slice pins s σ H x y v u Q I rx ry q hs
 ·exact h' value slice pins s σ H x y v u Q I rx ry q hs
theorem DQ {r:R2} (j:IxR X r) (z:PE X a ta) (hb:PE X b tb) (hs:kh b):PE X (.Subscript a b pos) (tOp r ta tb):=by
 intro pins s σ H Q I h;exact Subscript_ (wH z hb I h fun v u s2 x y H2 B rx ry q=>j a b pins s2 σ H2 x y v u Q B rx ry q (hs _ _))
noncomputable def EJ (K:Frag):R2:=fun x y H Q => ∃ p xs i v,x = .ref p/\y = .int i/\SqL K H p xs/\atI xs i=some v/\Q v H
noncomputable def EK (K:Frag):R2:=fun x y H Q => ∃ p xs i v,x = .ref p/\y = .int i/\SqT K H p xs/\atI xs i=some v/\Q v H
theorem ix_list:IxR X (EJ X.K):=by
 intro value slice pins s σ H x y v u Q I rx ry h hs;obtain ⟨p,xs,i,z,rfl,rfl,F,he,q⟩:=h
 cases rx
 obtain ⟨t,rfl⟩:=ry;obtain ⟨its,r,pl,O⟩:=I.list F;obtain ⟨j,h1,h2,U,G,J⟩:=kg he;obtain ⟨w,ew,rw'⟩:=r.get h2;have L:=r.length;have hn:=eU;have fin:EP X pins σ Q w s:=⟨z,H,I,rw',q⟩
 by_cases h0 : 0<=i
 ·have B:i.toNat=j:=by
   rw [OP h0 J] at h1;exact Jj.inj h1
  exact item_listR pl.isList h0 (by omega) (by rw [B];simpa using ew) fin hs
 ·have B:(i+(its.toArray.size:Int)).toNat=j:=by
   rw [Oo (by omega) G] at h1
   rw [Hj, <- L];exact Jj.inj h1
  exact Oq (x:=w) pl.isList.typeIs slot_list_getitem.lookup
   (Ot (Q:=fun r s'=>r=w/\EP X pins σ Q r s') pl.isList (by omega) (by rw [Hj] <;> omega) (by omega) (by rw [B];simpa using ew) ⟨rfl,fin⟩) hs
theorem ix_tup:IxR X (EK X.K):=by
 intro value slice pins s σ H x y v u Q I rx ry h hs;obtain ⟨p,xs,i,z,rfl,rfl,B,he,q⟩:=h
 cases rx
 obtain ⟨t,rfl⟩:=ry;obtain ⟨its,r,pl,G⟩:=I.tuple B;obtain ⟨j,h1,h2,J,L,O⟩:=kg he;obtain ⟨w,ew,rw'⟩:=r.get h2;have F:=r.length;have hn:=eU;have fin:EP X pins σ Q w s:=⟨z,H,I,rw',q⟩;exact Oq (x:=w) pl.typeIs slot_tuple_getitem.lookup
  (getItem_tuple (j:=j) (Q:=fun r s'=>r=w/\EP X pins σ Q r s') pl (by omega) (by omega) (by rw [Hj, <- F];exact h1) (by simpa using ew) ⟨rfl,fin⟩) hs
theorem sd (its:List h6) (n j:Nat) (u:h6):Kl (·.setIfInBounds j u) { cls := .type "list",data := .seq its.toArray n } = { cls := .type "list",data := .seq (its.set j u).toArray n }:=by
 simp [Kl]
theorem Inv.lst {pins:List (Addr×Obj)} {σ:St} {H:Hp} {s:z4} {p:Addr} {xs:List V} (I:Inv X pins σ H s) (h:H p=some (.lst xs)) :
 ∃ (its:List h6) (n:Nat),Vals xs its/\s.heap.get? p=some { cls := .type "list",data := .seq its.toArray n }/\xs.length<=Hh:=by
 obtain ⟨z,its,n,r,e⟩:=I.hok p _ h;exact ⟨its,n,r,e,z⟩
theorem Inv.lstUpd {pins:List (Addr×Obj)} {σ:St} {H:Hp} {s:z4} {p:Addr} {xs ys:List V} {its its':List h6} {n n':Nat} {f:Obj->Obj} (I:Inv X pins σ H s) (h:H p=some (.lst xs))
 (ho:s.heap.get? p=some { cls := .type "list",data := .seq its.toArray n }) (hf:f { cls := .type "list",data := .seq its.toArray n } = { cls := .type "list",data := .seq its'.toArray n' }) (r:Vals ys its') (j:ys.length<=Hh) (t:Nat) :
 Inv X pins σ (upd H p (.lst ys)) { s with heap:=s.heap.update p f,toks:=t }:=by
 have e:(s.heap.update p f).get? p=some { cls := .type "list",data := .seq its'.toArray n' }:=by
  rw [Ml f ho (by rw [hf] <;> rfl),hf]
 refine I.write (x:=p) (e:=p) (by rw [h];trivial) (.inl rfl) (fun b u hb q=>(Ou _ _ (Ne.symm hb)).trans q) ⟨_,e⟩ ?_
 exact ⟨j,its',n',r,e⟩
noncomputable def yX:V->V->V->Hp->(Hp->Prop)->Prop:=fun o i v H Q => ∃ p xs k j,o = .ref p/\i = .int k/\H p=some (.lst xs)/\ixN xs.length k=some j/\Q (upd H p (.lst (xs.set j v)))
theorem ng:PSet X yX:=by
 intro pins s σ H o i v ov iv u Q I ro ri rv h;obtain ⟨p,xs,k,j,rfl,rfl,F,L,q⟩:=h
 cases ro
 obtain ⟨t,rfl⟩:=ri;obtain ⟨its,n,r,ho,O⟩:=I.lst F;obtain ⟨h1,h2,G,J⟩:=qp L;have z:=r.length;have hn:=eU;have I':Inv X pins σ (upd H p (.lst (xs.set j v))) { s with heap:=s.heap.update p (Kl (·.setIfInBounds j u)) } :=
  I.lstUpd F ho (sd its n j u) (r.set rv j) (by rw [QW];exact O) s.toks
 by_cases h0 : 0<=k
 ·have B:k.toNat=j:=by
   rw [OP h0 J] at h1;exact Jj.inj h1
  exact PySem.W.ki_setAt ho h0 (by omega) (by rw [Hj, <- z];exact J) (by rw [B];exact ⟨_,I',q⟩)
 ·have B:(k+(its.toArray.size:Int)).toNat=j:=by
   rw [Oo (by omega) G] at h1
   rw [Hj, <- z];exact Jj.inj h1
  exact PySem.W.ki_setBack ho (by omega) (by rw [Hj, <- z];exact G) (by omega) (by rw [B];exact ⟨_,I',q⟩)
theorem nh (lo hi:Option Int) (n:Nat):(LH lo hi none n).1=((HT.sIx n 0 lo:Nat):Int)/\(LH lo hi none n).2.1=((HT.sIx n n hi:Nat):Int)/\(LH lo hi none n).2.2=1:=by
 refine ⟨?_, ?_,rfl⟩
 ·cases lo with
  | none=>simp [LH,HT.sIx]
  | some i =>
    simp only [LH,HT.sIx,Qq,show (1:Int) > 0 by decide,if_true]
    by_cases h:i < 0
    ·simp only [h,if_true] <;> omega
    ·simp only [h,if_false] <;> omega
 ·cases hi with
  | none=>simp [LH,HT.sIx]
  | some i =>
    simp only [LH,HT.sIx,Qq,show (1:Int) > 0 by decide,if_true]
    by_cases h:i < 0
    ·simp only [h,if_true] <;> omega
    ·simp only [h,if_false] <;> omega
theorem mJ (its:List h6) (lo hi:Option Int):slicePick its.toArray lo hi none=((its.drop (HT.sIx its.length 0 lo)).take (HT.sIx its.length its.length hi - HT.sIx its.length 0 lo)).toArray:=by
 obtain ⟨h1,h2,j⟩:=nh lo hi its.toArray.size;unfold slicePick;rw [h1,h2,j];simp only [sliceRange_one,pick_run,Hj] <;> rfl
noncomputable def EL (K:Frag):V->Option Int->Option Int->Hp->VK->Prop:=fun x lo hi H Q => ∃ a xs,x = .ref a/\SqL K H a xs /\ ∀ p,H p=none->Q (.ref p) (upd H p (.lst (ga xs lo hi)))
theorem sl_list:SlR X (EL X.K):=by
 intro pins s σ H x v vl vu lo hi sl Q I rx hs pl pu h;obtain ⟨a,xs,rfl,hx,q⟩:=h
 cases rx
 obtain ⟨its,r,j,z⟩:=I.list hx;have hlen:=r.length;refine ⟨"list",_,slot_list_getitem.lookup,j.isList.typeIs, ?_⟩;refine wpAny_getItem_list_slice j.isList hs pl pu .none (by simp) ?_ (by rw [Hj] <;> omega)
 rw [mJ, <- hlen];refine ⟨.ref s.heap.objs.size,_,I.laid (t':=s.toks) (o := .lst (ga xs lo hi)) (fun b ob q=>hH _ q) (Hk _) ?_,rfl,q _ (I.hok.fresh (Hk _))⟩;exact ⟨IH (ig xs lo hi) z,_,0,(r.drop (HT.sIx xs.length 0 lo)).take (HT.sIx xs.length xs.length hi - HT.sIx xs.length 0 lo),D1 _ rfl⟩
noncomputable def dD:V->Bool
 | .non=>true
 | .bl _=>true
 | .int _=>true
 | .str _=>true
 | _=>false
noncomputable def eqV:V->V->Bool
 | .non, .non=>true
 | .bl a, .bl b=>a==b
 | .bl a, .int b=>(if a then 1 else 0)==b
 | .int a, .bl b=>a==(if b then 1 else 0)
 | .int a, .int b=>a==b
 | .str a, .str b=>a==b
 | _,_=>false
theorem Cd {A:Ik} {s:z4} {y x:V} {u v:h6} (ry:RelV y u) (rx:RelV x v) (fy:dD y=true) (fx:dD x=true):PR A s u v (eqV y x):=by
 cases y with
 | non =>
   cases ry
   cases x with
   | non=>cases rx;exact SeqAt.EqAt.same _
   | bl b=>cases rx;exact SeqAt.EqAt.none_bool b
   | int b=>obtain ⟨t,rfl⟩:=rx;exact SeqAt.EqAt.none_int b t
   | str b=>obtain ⟨t,rfl⟩:=rx;exact SeqAt.EqAt.none_str b t
   | _=>exact absurd (show false=true from fx) He
 | bl a =>
   cases ry
   cases x with
   | non=>cases rx;exact SeqAt.EqAt.bool_none a
   | bl b=>cases rx;exact SeqAt.EqAt.bool_bool a b
   | int b=>obtain ⟨t,rfl⟩:=rx;exact SeqAt.EqAt.bool_int a b t
   | str b=>obtain ⟨t,rfl⟩:=rx;exact SeqAt.EqAt.bool_str a b t
   | _=>exact absurd (show false=true from fx) He
 | int a =>
   obtain ⟨t',rfl⟩:=ry
   cases x with
   | non=>cases rx;exact SeqAt.EqAt.int_none a t'
   | bl b=>cases rx;exact SeqAt.EqAt.int_bool a t' b
   | int b=>obtain ⟨t,rfl⟩:=rx;exact PU a t' b t
   | str b=>obtain ⟨t,rfl⟩:=rx;exact PD a t' b t
   | _=>exact absurd (show false=true from fx) He
 | str a =>
   obtain ⟨t',rfl⟩:=ry
   cases x with
   | non=>cases rx;exact SeqAt.EqAt.str_none a t'
   | bl b=>cases rx;exact SeqAt.EqAt.str_bool a t' b
   | int b=>obtain ⟨t,rfl⟩:=rx;exact PF a t' b t
   | str b=>obtain ⟨t,rfl⟩:=rx;exact SeqAt.EqAt.str_str a t' b t
   | _=>exact absurd (show false=true from fx) He
 | _=>exact absurd (show false=true from fy) He
noncomputable def eqU (x:V) (u:h6):Bool:=match u with
 | .none=>eqV .non x
 | .bool b=>eqV (.bl b) x
 | .int i _=>eqV (.int i) x
 | .str z _=>eqV (.str z) x
 | _=>false
theorem ua {x y:V} {u:h6} (r:RelV y u) (f:dD y=true):eqU x u=eqV y x:=by
 cases y with
 | non=>cases r;rfl
 | bl b=>cases r;rfl
 | int i=>obtain ⟨t,rfl⟩:=r;rfl
 | str z=>obtain ⟨t,rfl⟩:=r;rfl
 | _=>exact absurd (show false=true from f) He
theorem ki {x:V}:∀ {xs:List V} {us:List h6},Vals xs us->xs.all dD=true->us.any (eqU x)=xs.any fun y=>eqV y x
 | _,_, .nil,_=>rfl
 | y::xs,u::us, .cons r t,f=>by
   rw [Jv,tv] at f;rw [Jw,Jw,ua r f.1,ki t f.2]
theorem iA {A:Ik} {s:z4} {x:V} {v:h6} (rx:RelV x v) (fx:dD x=true):∀ {xs:List V} {us:List h6},Vals xs us->xs.all dD=true -> ∀ u∈us,PR A s u v (eqU x u)
 | _,_, .nil,_=>fun u j=>by cases j
 | y::xs,u::us, .cons r t,f=>fun u' j=>by
   rw [Jv,tv] at f
   rcases Hg.mp j with rfl | j
   ·rw [ua r f.1];exact Cd r rx f.1 fx
   ·exact iA rx fx t f.2 u' j
noncomputable def inV (x:V) (xs:List V):Bool:=xs.any fun y=>eqV y x
noncomputable def rIn (K:Frag) (neg:Bool):R2:=fun x y H Q => ∃ p xs,y = .ref p/\(SqL K H p xs∨SqT K H p xs)/\dD x=true/\xs.all dD=true/\Q (.bl (if neg then !inV x xs else inV x xs)) H
theorem ub:OpR X (J6 .In) (rIn X.K false):=by
 intro pins s σ H x y v u Q I rx ry h;obtain ⟨p,xs,rfl,j,fx,fs,q⟩:=h
 cases ry
 rcases j with j | j
 ·obtain ⟨its,r,pl,z⟩:=I.list j;refine SeqAt.in_listAt (eqU x) pl.isList (fun w hw=>iA rx fx r fs w (by simpa using hw)) ⟨.bl _,H,I,rfl, ?_⟩
  rw [show its.toArray.any (eqU x)=its.any (eqU x) by simp,ki r fs]
  exact q
 ·obtain ⟨its,r,pl,z⟩:=I.tuple j;refine SeqAt.in_tupleAt (eqU x) pl (fun w hw=>iA rx fx r fs w (by simpa using hw)) ⟨.bl _,H,I,rfl, ?_⟩
  rw [show its.toArray.any (eqU x)=its.any (eqU x) by simp,ki r fs]
  exact q
theorem ni:CallR X (.type "list") (fun xs H Q => ∃ p ys,xs=[.ref p]/\(SqL X.K H p ys∨SqT X.K H p ys) /\ ∀ l,H l=none->Q (.ref l) (upd H l (.lst ys))):=by
 intro pins s σ H xs us Q I r h;obtain ⟨p,ys,rfl,j,q⟩:=h;obtain ⟨u,rfl,rx⟩:=eJ r
 cases rx
 have fin:∀ (its:List h6),Vals ys its->ys.length<=Hh -> ∀ (h':Heap) (c':Nat),(∀ b o',s.heap.get? b=some o'->h'.get? b=some o') ->
  h'.get? s.heap.objs.size=some { cls := .type "list",dict:=none,data := .seq its.toArray c',slots := #[] }->EP X pins σ Q (.ref s.heap.objs.size) { s with heap:=h' }:=fun its r' z h' c' kp e =>
  ⟨.ref s.heap.objs.size,_,I.laid (t':=s.toks) kp (Hk _) (show ObjOk X.prog X.w _ h' _ (.lst ys) from ⟨z,its,c',r',e⟩),rfl,q _ (I.hok.fresh (Hk _))⟩
 rcases j with j | j
 ·obtain ⟨its,r',pl,z⟩:=I.list j;have hlen:=r'.length;obtain ⟨o,ho,B,n,hd⟩:=pl.isList;exact call_list_seq p (.inl rfl) ho B hd (fun h' c' kp e=>fin its r' z h' c' kp e) (by simp only [Hj] <;> omega)
 ·obtain ⟨its,r',pl,z⟩:=I.tuple j;have hlen:=r'.length;obtain ⟨o,ho,B,n,hd⟩:=pl;exact call_list_seq p (.inr rfl) ho B hd (fun h' c' kp e=>fin its r' z h' c' kp e) (by simp only [Hj] <;> omega)
theorem mK:CallR X (.type "tuple") (fun xs H Q => ∃ p ys,xs=[.ref p]/\((SqL X.K H p ys /\ ∀ l,H l=none->Q (.ref l) (upd H l (.tup ys)))∨(SqT X.K H p ys/\Q (.ref p) H))):=by
 intro pins s σ H xs us Q I r h;obtain ⟨p,ys,rfl,h⟩:=h;obtain ⟨u,rfl,rx⟩:=eJ r
 cases rx
 rcases h with ⟨j,q⟩ | ⟨j,q⟩
 ·obtain ⟨its,r',pl,z⟩:=I.list j;have hlen:=r'.length;refine call_tuple_list pl.isList (fun h' kp => ?_) (by simp only [Hj] <;> omega)
  have B:Inv X pins σ H { s with heap:=h' }:=I.kept (t':=s.toks) kp
  have F:Inv X pins σ (upd H h'.objs.size (.tup ys)) { s with heap:=h'.push { cls := .type "tuple",data := .seq its.toArray } } :=
   B.laid (t':=s.toks) (fun b o e=>hH _ e) (Hk _) (show ObjOk X.prog X.w _ _ _ (.tup ys) from ⟨z,its,r',LC _ _⟩)
  exact ⟨.ref h'.objs.size,_,F,rfl,q _ (B.hok.fresh (Hk _))⟩
 ·obtain ⟨its,r',pl,z⟩:=I.tuple j;exact call_tuple_same pl ⟨.ref p,H,I,rfl,q⟩
def tyV (K:Frag) (T:String) (x:V) (H:Hp):Prop:=match x with
 | .str _=>T = "str"
 | .int _=>T = "int"
 | .ref p=>(T = "list" /\ ∃ xs,SqL K H p xs)∨(T = "tuple" /\ ∃ o,K.lookup p=some o/\o.cls = .type "tuple" /\ o.dict=none) ∨
  (T = "dict" /\ ((∃ kvs,H p=some (.dK kvs)) ∨ ∃ kvs,H p=some (.dT kvs)))∨(T = "set" /\ ∃ S n,H p=some (.set S n))
 | _=>False
theorem uc {pins:List (Addr×Obj)} {σ:St} {H:Hp} {s:z4} {T:String} {x:V} {v:h6} (I:Inv X pins σ H s) (r:RelV x v) (ty:tyV X.K T x H) :
 s.TypeIs v T /\ ∀ a,v = .ref a -> ∃ ob,s.heap.get? a=some ob/\ob.dict=none:=by
 cases x with
 | str z =>
   obtain ⟨t,rfl⟩:=r
   cases (show T = "str" from ty)
   exact ⟨typeIs_str s z t,fun _ e=>nomatch e⟩
 | int i =>
   obtain ⟨t,rfl⟩:=r
   cases (show T = "int" from ty)
   exact ⟨Ov s i t,fun _ e=>nomatch e⟩
 | ref p =>
   cases r
   rcases ty with ⟨rfl,xs,q⟩ | ⟨rfl,o,j,B,hd⟩ | ⟨rfl,j⟩ | ⟨rfl,S,n,j⟩
   ·obtain ⟨its,_,pl,_⟩:=I.list q;refine ⟨pl.isList.typeIs,fun a e => ?_⟩
    cases e
    obtain ⟨o,n,e,c,hd,_⟩:=pl;exact ⟨o,e,hd⟩
   ·refine ⟨⟨o,I.kIn p o j,B⟩,fun a e => ?_⟩
    cases e
    exact ⟨o,I.kIn _ o j,hd⟩
   ·have z:∃ o,s.heap.get? p=some o/\o.ExactDict:=by
     rcases j with ⟨kvs,j⟩ | ⟨kvs,j⟩
     ·obtain ⟨_,_,_,_,o,_,_,e,ex,_⟩:=I.hok p _ j;exact ⟨o,e,ex⟩
     ·obtain ⟨_,_,_,_,o,_,_,e,ex,_⟩:=I.hok p _ j;exact ⟨o,e,ex⟩
    obtain ⟨o,e,ex⟩:=z;refine ⟨⟨o,e,ex.1⟩,fun a e2 => ?_⟩
    cases e2
    exact ⟨o,e,ex.2.1⟩
   ·obtain ⟨o,_,_,_,e,ex,_⟩:=I.hok p _ j;refine ⟨⟨o,e,ex.1⟩,fun a e2 => ?_⟩
    cases e2
    exact ⟨o,e,ex.2.1⟩
 | _=>exact False.elim ty
noncomputable def Ce (K:Frag) (T:String) (r:V->List V->Hp->VK->Prop) (to:TE):TE:=fun σ H Q=>to σ H fun x H1=>tyV K T x H1/\r x [] H1 Q
noncomputable def tBM (K:Frag) (T:String) (r:V->List V->Hp->VK->Prop) (to:TE) (t:TA):TE:=fun σ H Q=>to σ H fun x H1=>tyV K T x H1/\t σ H1 fun xs H2=>r x xs H2 Q
variable {o e:Expr} {es:List Expr} {to:TE} {t:TA} {name:Str} {apos cpos:Pos} {T id:String} {r:V->List V->Hp->VK->Prop}
theorem ud (pa:PlainAttrs T) (slot:Slot T name id) (z:typeOf (.builtin id)=pure (.type "method_descriptor")) (hm:MtR X id r) (ho:PE X o to)
 (j:NT o name X.env (eval o X.env)=eval o X.env:=by rfl) (q:(apos.endLine==cpos.line)=true:=by rfl):PE X (.Call (.Attribute o name apos) [] [] cpos) (Ce X.K T r to):=by
 intro pins s σ H Q I h;refine wpAny_Call_method0_late j q (thn (ho pins s σ H _ I h) fun v s1 ⟨x,H1,B,F,ty,G⟩ => ?_);obtain ⟨h1,h2⟩:=uc B F ty;exact ⟨T,id,pa,slot,z,h1,h2,LU rfl (PySem.evalArgs_none (hm pins s1 σ H1 x [] v [] Q B F .nil G))⟩
theorem yY (pa:PlainAttrs T) (slot:Slot T name id) (F:typeOf (.builtin id)=pure (.type "method_descriptor")) (hm:MtR X id r) (ho:PE X o to) (O:PA X (e::es) t)
 (q:NT o name X.env (eval o X.env)=eval o X.env:=by rfl)
 (B:((Li cpos (HG (e::es) X.env)).all (fun x => !x.1)&&(R8 cpos (OQ [] X.env)).all (fun x=>x.1.isSome)
   && decide ((e::es).length+([]:List N8).length+(if ([]:List N8).isEmpty then 0 else 1) < 30))=true:=by rfl)
 (z:(apos.endLine==cpos.line)=true:=by rfl) (hs:HG (e::es) X.env=(false,eval e X.env)::HG es X.env:=by rfl) (j:(Li cpos (HG es X.env)).any (·.1)=false:=by rfl) :
 PE X (.Call (.Attribute o name apos) (e::es) [] cpos) (tBM X.K T r to t):=by
 intro pins s σ H Q I h;refine wpAny_Call_method_late q B z rfl (thn (ho pins s σ H _ I h) fun v s1 ⟨x,H1,G,J,ty,U⟩ => ?_);obtain ⟨h1,h2⟩:=uc G J ty;refine ⟨T,id,pa,slot,F,h1,h2, ?_⟩;have L:=O cpos pins s1 σ H1 _ G U;rw [hs] at L ⊢;refine LU (by show (false || (Li cpos (HG es X.env)).any (·.1))=false;rw [j] <;> rfl) (OR ?_)
 exact thn L fun us s2 ⟨vs,H2,Y,Z,q2⟩=>hm pins s2 σ H2 x vs v us Q Y J Z q2
end
end
section
def MtM (X:Cx) (id:String) (r:V->List V->Hp->VK->Prop):Prop :=
 ∀ (pins:List (Addr×Obj)) (s:z4) (σ:St) (H:Hp) (x:V) (xs:List V) (v:h6) (us:List h6) (Q:VK),Inv X pins σ H s->RelV x v->Vals xs us->r x xs H Q ->
  Hm (model X.prog X.w) X.A (call (.builtin id) (v::us)) (EP X pins σ Q) X.xe s
theorem Vals.one:∀ {x:V} {us:List h6},Vals [x] us -> ∃ u,us=[u]/\RelV x u
 | _,_, .cons r .nil=>⟨_,rfl,r⟩
theorem Vals.zero:∀ {us:List h6},Vals [] us->us=[]
 | _, .nil=>rfl
theorem Vals.reverse {xs:List V} {us:List h6} (h:Vals xs us):Vals xs.reverse us.reverse:=by
 induction h with
 | nil=>exact .nil
 | cons r t ih=>rw [KY,KY];exact Vals.append ih (.cons r .nil)
theorem Vals.rep {xs:List V} {us:List h6} (h:Vals xs us):∀ k:Nat,Vals (Ho k xs).flatten (Ho k us).flatten
 | 0 => .nil
 | k+1=>by
   rw [IK,IK,IB,IB];exact Vals.append h (Vals.rep h k)
theorem gb (its:List h6):∀ (k:Nat) (acc:List h6),
 Mp (fun j q=>j++q) acc.toArray (Ho k its.toArray)=(acc++(Ho k its).flatten).toArray
 | 0,acc=>by simp
 | k+1,acc=>by
   have e:acc.toArray++its.toArray=(acc++its).toArray:=by simp
   have e2:(acc++its)++(Ho k its).flatten=acc++(Ho (k+1) its).flatten:=by
    rw [IK,IB,Hl]
   rw [<- e2, <- gb its k (acc++its), <- e,IK,Lq]
section
variable {X:Cx} {pins:List (Addr×Obj)} {σ:St} {H:Hp} {s:z4} {l b:Addr} {xs ys zs:List V}
theorem Inv.lset {its its':List h6} {n:Nat} {f:Array h6->Array h6} {t':Nat} (I:Inv X pins σ H s) (j:H l=some (.lst xs))
 (e:s.heap.get? l=some { cls := .type "list",data := .seq its.toArray n }) (hf:f its.toArray=its'.toArray) (z:Vals ys its') (B:ys.length<=Hh) :
 Inv X pins σ (upd H l (.lst ys)) { s with heap:=s.heap.update l (Kl f),toks:=t' }:=by
 have q:=PySem.IsL.update e f;rw [hf] at q;refine I.write (x:=l) (e:=l) (by rw [j];exact trivial) (.inl rfl) (fun b' u hb F=>(Ou s.heap (Kl f) (Ne.symm hb)).trans F) ⟨_,q⟩ ?_
 exact ⟨B,its',_,z,q⟩
theorem Inv.lnew {its:List h6} {t':Nat} (I:Inv X pins σ H s) (j:Vals ys its) (z:ys.length<=Hh) :
 Inv X pins σ (upd H s.heap.objs.size (.lst ys)) { s with heap:=s.heap.push { cls := .type "list",data := .seq its.toArray },toks:=t' } :=
 I.laid (fun _ _ q=>hH _ q) (Hk _) ⟨z,its,0,j,D1 _ rfl⟩
theorem Inv.fresh (I:Inv X pins σ H s):H s.heap.objs.size=none:=I.hok.fresh (Hk _)
theorem Inv.lstM (I:Inv X pins σ H s) (j:H l=some (.lst xs)):xs.length<=Hh /\ ∃ (its:List h6) (n:Nat),Vals xs its/\xs.length=its.length/\s.heap.get? l=some { cls := .type "list",data := .seq its.toArray n }:=by
 obtain ⟨z,its,n,r,e⟩:=I.hok l _ j;exact ⟨z,its,n,r,r.length,e⟩
theorem wU {n:Nat} (h:n<=Hh):Lm n=false:=by
 unfold Lm;exact decide_eq_false (by omega)
end
section
variable {X:Cx}
noncomputable def qq:V->List V->Hp->VK->Prop:=fun x vs H Q => ∃ l xs y,x = .ref l/\vs=[y]/\H l=some (.lst xs)/\xs.length < Hh/\Q .non (upd H l (.lst (xs++[y])))
theorem ll:MtM X "list.append" qq:=by
 intro pins s σ H x vs v us Q I rx rv h;obtain ⟨l,xs,y,rfl,rfl,j,B,q⟩:=h
 cases rx
 obtain ⟨u,rfl,ru⟩:=rv.one;obtain ⟨z,its,n,r,G,e⟩:=I.lstM j;refine Lv F.slot_list_append ⟨_,e,rfl⟩ F.entry_list_append (F.args_list_append_2 _ _) (PySem.list_append l its.toArray n u (by rw [Hj];omega)) ⟨e, ?_⟩
 refine ⟨.non,_,I.lset (its':=its++[u]) j e (by simp) (r.append (.cons ru .nil)) ?_,rfl,q⟩
 rw [A1,HQ];omega
noncomputable def nj:V->List V->Hp->VK->Prop:=fun x vs H Q => ∃ l xs,x = .ref l/\vs=[]/\H l=some (.lst xs)/\Q .non (upd H l (.lst xs.reverse))
theorem se:MtM X "list.reverse" nj:=by
 intro pins s σ H x vs v us Q I rx rv h;obtain ⟨l,xs,rfl,rfl,B,q⟩:=h
 cases rx
 have j:=rv.zero;subst j;obtain ⟨z,its,n,r,G,e⟩:=I.lstM B;refine Lv F.slot_list_reverse ⟨_,e,rfl⟩ F.entry_list_reverse (F.args_list_reverse_1 _) (AutoSeq1.list_reverse_list_0 l its.toArray n (by rw [Hj];omega)) ⟨e, ?_⟩
 refine ⟨.non,_,I.lset (its':=its.reverse) B e (by simp) r.reverse ?_,rfl,q⟩
 rw [N6];omega
noncomputable def ue:V->List V->Hp->VK->Prop:=fun x vs H Q => ∃ l xs,x = .ref l/\vs=[]/\H l=some (.lst xs)/\Q .non (upd H l (.lst []))
theorem wV:MtM X "list.clear" ue:=by
 intro pins s σ H x vs v us Q I rx rv h;obtain ⟨l,xs,rfl,rfl,B,q⟩:=h
 cases rx
 have j:=rv.zero;subst j;obtain ⟨z,its,n,r,G,e⟩:=I.lstM B;refine Lv F.slot_list_clear ⟨_,e,rfl⟩ F.entry_list_clear (F.args_list_clear_1 _) (AutoSeq1.list_clear_list_0 l its.toArray n (by rw [Hj];omega)) ⟨e, ?_⟩
 exact ⟨.non,_,I.lset (its' := []) (ys := []) B e rfl .nil (J9 _),rfl,q⟩
noncomputable def EM:R2:=fun x y H Q => ∃ l b xs zs,x = .ref l/\y = .ref b/\H l=some (.lst xs)/\H b=some (.lst zs)/\xs.length+zs.length<=Hh /\ ∀ p,H p=none->Q (.ref p) (upd H p (.lst (xs++zs)))
theorem op_cat:OpR X (J0 .Add) EM:=by
 intro pins s σ H x y v u Q I rx ry h;obtain ⟨l,b,xs,zs,rfl,rfl,B,F,L,q⟩:=h
 cases rx
 cases ry
 obtain ⟨z,its,n,r,O,e⟩:=I.lstM B;obtain ⟨U,j,Y,G,J,e2⟩:=I.lstM F;refine PySem.P.add_list e e2 ?_ (by rw [Hj,Hj];omega)
 have ea:its.toArray++j.toArray=(its++j).toArray:=by simp
 rw [ea];exact ⟨.ref _,_,I.lnew (t':=s.toks) (r.append G) (by rw [A1];omega),rfl,q _ I.fresh⟩
noncomputable def EN:R2:=fun x y H Q => ∃ l k xs,x = .ref l/\y = .int k/\H l=some (.lst xs) /\ -(2 ^ 63)<=k/\k < 2 ^ 63/\xs.length*k.toNat<=Hh /\
 ∀ p,H p=none->Q (.ref p) (upd H p (.lst (Ho k.toNat xs).flatten))
theorem qr {α:Type} (xs:List α) (k:Nat):(Ho k xs).flatten.length=k*xs.length:=by
 induction k with
 | zero=>simp
 | succ k ih=>rw [IK,IB,A1,ih,J2,Nat.add_comm]
theorem op_rep:OpR X (J0 .Mult) EN:=by
 intro pins s σ H x y v u Q I rx ry h;obtain ⟨l,k,xs,rfl,rfl,Z,h1,h2,Y,q⟩:=h
 cases rx
 obtain ⟨t,rfl⟩:=ry;obtain ⟨z,its,n,r,hl,e⟩:=I.lstM Z;have hlen:its.toArray.size*k.toNat<=Hh:=by rw [Hj, <- hl];exact Y
 have B : ¬ its.toArray.size*k.toNat > (2 ^ 63 - 1) / 8:=by
  have:(Hh:Nat)<=(2 ^ 63 - 1) / 8:=by decide
  omega
 have G : ¬ (!Builtin.List.listFitsIndex k)=true:=by
  rw [fitsIndex_both h1 h2];exact He
 have j : ¬ Lm (its.toArray.size*k.toNat)=true:=by
  rw [wU hlen];exact He
 have J:Mp (fun L O=>L++O) #[] (Ho (if its.toArray.isEmpty=true then 0 else k.toNat) its.toArray)=(Ho k.toNat its).flatten.toArray:=by
  have f0:∀ m:Nat,Mp (fun L O=>L++O) #[] (Ho m its.toArray)=(Ho m its).flatten.toArray:=fun m=>by
   have:=gb its m [];rw [MV] at this;exact this
  rw [f0]
  cases its with
  | nil=>simp
  | cons a r'=>rw [if_neg (by simp)]
 refine NG (T := "list") (U := "int") (by decide) ⟨_,e,rfl⟩ (fun s'=>Ov s' k t) noFill_list_mul QX MW repeat_list F.slot_int_index.lookup
  (Lv MW (Ov s k t) Qr (Q8 _ _) (int___rmul___int_list k t l its.toArray n)
    ⟨e,rfl,⟨_,e,rfl⟩,Lv F.slot_list_mul ⟨_,e,rfl⟩ F.entry_list_mul (F.args_list_mul_2 _ _) (AutoListH.list___mul___list_int_3 l its.toArray n k t G B j) ⟨e, ?_⟩⟩)
 rw [J];exact ⟨.ref _,_,I.lnew (t':=s.toks) (r.rep k.toNat) (by rw [qr,LV];exact Y),rfl,q _ I.fresh⟩
end
end
end L2
namespace Att
open PySem PySem.W PySem.Calls PyProof.Rows
theorem jb {P:Params} {h:Heap}:∀ (ns:List Int) (vs:List h6),WellAll P h vs (ns.map WData.int)->R3 vs ns:=by
 intro ns
 induction ns with
 | nil =>
   intro vs w;rw [JP] at w
   cases w
   exact .nil
 | cons n ns ih =>
   intro vs w;rw [Hs] at w
   cases w with
   | cons a b =>
     cases a
     exact .cons _ _ (ih _ b)
theorem uf {l:OpenLaw} {n:Nat} (hn:l.most=some n) {P:Params} {h:Heap} {args:List WData} {vals:List h6}
 (j:l.row.toRowW.claim.pre args=true) (G:WellAll P h vals args) :
 ∃ a vs ns,vals=[Ii a]/\args=[WData.list (ns.map WData.int)]/\h.get? a=some { cls := .type "list",data := .seq vs.toArray }/\R3 vs ns/\ns.length<=n:=by
 have J:WShape.hasAll [] args [.list .int]=true:=(pre_splitW j).1;have L:l.pre.holds [] { args:=args }=true:=(pre_splitW j).2;obtain ⟨d,r,rfl,h1,h2⟩:=hasAllW_cons J;obtain rfl:=hasAllW_nil h2;obtain ⟨xs,rfl,O⟩:=hasW_list h1;obtain ⟨ns,rfl⟩:=items_int O;have hlen:ns.length<=n:=by
  unfold OpenLaw.pre at L;have B:(WTm.not (.lt (.lit (.int (n:Int))) (.len (.arg 0)))).holds [] { args := [.list (ns.map .int)] }=true:=by
   have B:=(holds_andW L).1;rw [hn] at B;exact B
  have F:=condW_of B (w_not (w_lt w_lit (w_len_list (w_arg rfl))));rw [A0] at F;refine Nat.le_of_not_lt fun q => ?_;have q':(n:Int) < ((ns.length:Nat):Int):=by omega
  first
   | (rw [decide_eq_true q'] at F;exact absurd F (by decide))
   | (simp at F;omega)
 cases G with
 | cons U Y =>
   cases Y
   cases U with
   | list ho z=>exact ⟨_,_,ns,rfl,rfl,ho,jb ns _ z,hlen⟩
theorem ug (l:OpenLaw) (args:List WData):l.row.toRowW.claim.post args (.bool true) args=true :=
 postW_of (r:=l.row.toRowW) (X:=(true==true))
  (show WShape.has [] (.bool true) .bool=true by first | rfl | decide | simp [WShape.has,WShape.arms,WShape.armsAll])
  (show (WTm.eq .res (.lit (.bool true))).value [] { args:=args,res:=some (.bool true),after:=args }=some (.bool (true==true)) from w_eq_bool (w_res rfl) w_lit) rfl
theorem attach_call {l:OpenLaw} {n:Nat} {q:HI} {loose:List Str} {XP:(Str->Option h6)->Heap->Prop} {YP:Ic->Heap->Prop} {d:DefRec}
 (hn:l.most=some n) (B:d.params.defaults=[])
 (call:∀ (w:Ic) (s₀ s₁:z4) (mg mb:Str->Option h6) (fa:Addr) (o:Obj) (pm cd doc:h6) (a:Addr) (vs:List h6) (ns:List Int),
   Ground q loose [] XP w s₀ mg mb s₁.heap->YP w s₁.heap ->
   s₁.heap.get? fa=some o->o.data = .func (docDef d.name d.params d.body d.scope pm cd doc)->s₁.heap.CodeRec cd d.name->mg d.name=some (.ref fa) ->
   s₁.heap.get? a=some { cls := .type "list",data := .seq vs.toArray }->R3 vs ns->ns.length<=n->s₁.gens = #[] ->
   MA (model l.prog w) Pj (.call (.ref fa) ⟨[.ref a],[]⟩) (fun r s'=>r = .ok (.ret (.bool true))/\OldK s₁.heap s'.heap/\s'.os=s₁.os/\NK s'.gens) s₁) :
 WalkO q loose XP YP l.row.toRowW d [] (fun f vs=>R9 f vs):=by
 intro w s₀ s₁ mg mb G Y fa o pm cd doc dV kV ho hd F O J Z args vals as j U EX L EY;obtain rfl:dV = .none:=Dflts.none O B;obtain rfl:kV = .none:=Dflts.noKw O;obtain ⟨a,vs,ns,rfl,rfl,z,hints,hlen⟩:=uf hn j L;refine enter_call (LQ (call w s₀ s₁ mg mb fa o pm cd doc a vs ns G Y ho (fd_plain hd) F J z hints hlen Z) fun r s' hq => ?_);obtain ⟨rfl,h2,h3,h4⟩:=hq;exact ⟨.inl ⟨.bool true, .bool true,[],rfl,fun _=>rfl, .bool true,ug l _,fun _=>⟨NO,fun _ hm=>(nomatch hm)⟩⟩,h2,h3,h4⟩
section
variable {prog:HI} {w:Ic} {A:Ik} {E:h6->z4->Prop} {s:z4} {K:Frag}
noncomputable def EW (h:Heap) (L d:Addr):List (Addr×Obj):=(B0 h.objs.size).filterMap fun a=>if a=L∨a=d then none else (h.get? a).map fun o=>(a,o)
end
end Att
namespace L2
open PySem PySem.Spec PyProof.Rows
section
theorem lm:∀ {vs:List h6} {ns:List Int},R3 vs ns->Vals (ns.map V.int) vs
 | _,_, .nil => .nil
 | _,_, .cons n t h => .cons ⟨t,rfl⟩ (lm h)
def sf (H:Hp):Prop := ∀ b,H b=none ∨ ∃ o xs,H b=some (.frz o (.lst xs))
theorem wW {P:HI} {w:Ic} {K:Frag} {mg mb:Str->Option h6} {CX:CXT} {k:Nat} {fa a:Addr} {fd:L3} {x:Str} {sp:Sp} {s₁:z4} {vs:List h6} {ns:List Int}
 (KX:K.In s₁.heap) (B:s₁.heap.Ns Jk mg) (hb:s₁.heap.Ns R4 mb) (U:∀ x:Str,x ≠ "__name__" -> mb x=JO x) (G:s₁.heap.NoLimit) (hg:s₁.gens = #[])
 (O:s₁.heap.get? a=some { cls := .type "list",data := .seq vs.toArray }) (hi:R3 vs ns) (hl:ns.length<=Hh) (hr:Room k Pj)
 (F:∀ base:Heap,K.In base->base.Ns Jk mg->dY P w K mg base CX k fa fd [x] sp) (j:∀ (s:z4) (u:h6),Q5 s fd ⟨[u],[]⟩ [(x,u)])
 (Y:∀ H:Hp,sf H->SqL K H a (ns.map V.int)->sp [.ref a] H (fun v _=>v = .bl true) fun _ _ _=>False)
 (Z:∀ H e s',CX [] H s₁ (fun _ _ _=>False) e s'->False) :
 MA (model P w) Pj (.call (.ref fa) ⟨[.ref a],[]⟩) (fun r s'=>r = .ok (.ret (.bool true))/\OldK s₁.heap s'.heap/\s'.os=s₁.os/\NK s'.gens) s₁ := by
 have rv:=lm hi;have lenV:=hi.length;have core:∀ H:Hp,sf H->SqL K H a (ns.map V.int)->HOk P w H s₁.heap->(∀ b,H b≠none->b=a)->(H a≠none->K.lookup a=none) ->
  MA (model P w) Pj (.call (.ref fa) ⟨[.ref a],[]⟩) (fun r s'=>r = .ok (.ret (.bool true))/\OldK s₁.heap s'.heap/\s'.os=s₁.os/\NK s'.gens) s₁ := by
  intro H hO hS hok hA hK;have base_of:∀ {b:Addr} {o:Obj},s₁.heap.get? b=some o->H b=none->(fC s₁.heap H).get? b=some o:=fun e n=>wx e n;have noA:∀ {b:Addr} {o:Obj} {es:Array JT} {ep:Nat},s₁.heap.get? b=some o->o.data = .dict es ep->H b=none:=fun {b o es ep} e d=>by
   cases q:H b with
   | none=>rfl
   | some u =>
     have e':b=a:=hA b (by rw [q];simp)
     subst e';rw [O] at e;cases e;have d':MN vs.toArray _=Data.dict es ep:=d
     cases d'
  have nsK:∀ {b:Addr} {m:Str->Option h6},s₁.heap.Ns b m->(fC s₁.heap H).Ns b m:=fun {b m} ⟨o,es,ep,e,d,r⟩=>⟨o,es,ep,base_of e (noA e d),d,r⟩;have J:K.In (fC s₁.heap H):=fun b o e=>base_of (KX b o e) (by
   cases q:H b with
   | none=>rfl
   | some u =>
     have e':b=a:=hA b (by rw [q];simp)
     subst e';rw [hK (by rw [q];simp)] at e;cases e)
  have hM:Mod K mg (fC s₁.heap H):=⟨J,nsK B,⟨mb,nsK hb,U⟩,let ⟨mc,h1,h2⟩:=G; ⟨mc,nsK h1,h2⟩⟩;have e0:rX P w K mg (fC s₁.heap H) Pj [] s₁ H:=⟨rfl,hM,fun b o e=>zO e,Nat.le_of_eq (tQ _ _),trivial,fun b hb=>absurd (show b∈([]:List Addr) from hb) (by simp),hok, .of_eq hg⟩
  refine LQ ((F _ J (nsK B)).run Pj [] s₁ H ⟨[.ref a],[]⟩ [.ref a] [.ref a] _ _ hr e0 (j s₁ (.ref a)) (.cons rfl .nil) (Y H hO hS)) fun r s' h => ?_
  cases r with
  | error e=>exact (Z H e s' h).elim
  | ok fl =>
    cases fl with
    | next=>exact False.elim h
    | brk=>exact False.elim h
    | cont=>exact False.elim h
    | ret u =>
      obtain ⟨v,H',os,bare,un,L,r',q⟩:=h;have q':v = .bl true:=q;subst q';obtain rfl:u=Oi true:=r';refine ⟨rfl,OldK.of_keep fun b o e => ?_,os,bare⟩
      cases q:H b with
      | none=>exact un.keep b o e q (by intro z;exact absurd (show b∈([]:List Addr) from z) (by simp)) (by simp)
      | some u =>
        rcases hO b with z | ⟨ob,xs,z⟩
        ·rw [q] at z;cases z
        ·have z2:=un.frzs b ob _ z;obtain ⟨e1,_⟩:=hok b _ z;obtain ⟨e2,_⟩:=L b _ z2;rw [e] at e1;cases e1;exact e2
 cases hk:K.lookup a with
 | some o =>
   have e:=KX a o hk;rw [O] at e
   cases e
   refine core (fun _=>none) (fun _ => .inl rfl) (.inr ⟨_,vs.toArray,_,hk,rfl,rfl,rfl,by rw [Hj,lenV];exact hl,by simpa using rv⟩) (fun b u z=>by have z':(none:Option HO)=some u:=z;cases z') (fun b z=>absurd rfl z) fun z=>absurd rfl z
 | none =>
   refine core (fun b=>if b=a then some (.frz { cls := .type "list",data := .seq vs.toArray } (.lst (ns.map V.int))) else none) (fun b => ?_) (.inl (.inr ⟨{ cls := .type "list",data := .seq vs.toArray },if_pos rfl⟩)) (fun b u z => ?_) (fun b z => ?_) fun _=>hk
   ·by_cases hb:b=a
    ·exact .inr ⟨_,_,if_pos hb⟩
    ·exact .inl (if_neg hb)
   ·by_cases hb:b=a
    ·have z':=(if_pos hb).symm.trans z
     cases z'
     subst hb;exact ⟨O,by rw [A0];exact hl,vs,_,rv,O⟩
    ·have z':=(if_neg hb).symm.trans z
     cases z'
   ·by_cases hb:b=a
    ·exact hb
    ·exact absurd (if_neg hb) z
end
section
theorem walk_of {l:OC} {n k:Nat} {q:HI} {loose:List Str} {XP:(Str->Option h6)->Heap->Prop} {YP:Ic->Heap->Prop} {d:DefRec} {K:Params->Frag} {CX:Ic->CXT} {sp:Ic->Sp} {x:Str}
 (hn:l.most=some n) (z:n<=Hh) (B:d.params.defaults=[]) (U:Room k Pj)
 (Z:∀ (w:Ic) (h:Heap),YP w h->(K w.params).In h)
 (F:∀ (w:Ic) (mg:Str->Option h6) (fa:Addr) (h:Heap),(K w.params).In h->h.Ns Jk mg->mg d.name=some (.ref fa) ->
   ∃ fd:L3,(∀ (s:z4) (u:h6),Q5 s fd ⟨[u],[]⟩ [(x,u)]) /\
    ∀ base:Heap,(K w.params).In base->base.Ns Jk mg->dY l.prog w (K w.params) mg base (CX w) k fa fd [x] (sp w))
 (J:∀ (w:Ic) (H:Hp) (a:Addr) (ns:List Int),ns.length<=n->sf H->SqL (K w.params) H a (ns.map V.int)->sp w [.ref a] H (fun v _=>v = .bl true) fun _ _ _=>False)
 (L:∀ (w:Ic) (H:Hp) (s:z4) (e:h6) (s':z4),CX w [] H s (fun _ _ _=>False) e s'->False) :
 PySem.W.WalkO q loose XP YP l.row.toRowW d [] (fun f vs=>R9 f vs):=by
 refine Att.attach_call hn B fun w s₀ s₁ mg mb fa o pm cd doc a vs ns G Y ho hd EX O j hints hlen hg => ?_;have KX:=Z w _ Y;obtain ⟨fd,hb,hF⟩:=F w mg fa _ KX G.T.g O;exact wW KX G.T.g G.T.b G.T.builtins G.T.nolimit hg j hints (IH hlen z) U hF hb (fun H hO hS=>J w H a ns hlen hO hS) fun H e s'=>L w H s₁ e s'
end
section
noncomputable def dO (s:Stmt):Arguments:=match s with
 | .FunctionDef _ a _ _ _ _ _ _ _ _=>a
 | _ => { posonlyargs := [],args := [],vararg:=none,kwonlyargs := [],kw_defaults := [],kwarg:=none,defaults := [] }
noncomputable def cb (s:Stmt):List Stmt:=match s with
 | .FunctionDef _ _ b _ _ _ _ _ _ _=>b
 | _ => []
noncomputable def aB (s:Stmt):Scope:=match s with
 | .FunctionDef _ _ _ _ _ _ sc _ _ _=>sc
 | _ => { kind := .function,names := [],isGenerator:=false,isCoroutine:=false }
noncomputable abbrev CX0:CXT:=fun _ _ _ _ _ _=>False
noncomputable abbrev E0:XK:=fun _ _ _=>False
theorem yZ {X:Cx}:j9 CX0 X E0:=fun _ _ _ _ _ _ _ h=>h.elim
structure Fun (K:Frag) (x qual:Str) (st:Stmt) (f:Addr) (fd:L3):Prop where
 ex:∃ (oc:h6) (od:Option Addr) (kV doc pm:h6) (an:Option Addr) (cdv ct:h6) (osl:Array (Option h6)),
  fd=Kz x qual (dO st) (cb st) (aB st) .none kV doc pm an cdv ct/\K.lookup f=some ⟨oc,od, .func fd,osl⟩/\Nl K cdv qual=true
 kp:L4 K (.ref f)=true
section
variable {P:HI} {w:Ic} {K:Frag} {mg:Str->Option h6} {base:Heap}
theorem Fun.ok {x qual:Str} {st:Stmt} {f:Addr} {fd:L3} {N ps:List Str} {k:Nat} {sp:Sp} (F:Fun K x qual st f fd) (S:gM N ps (aB st)) (len:∀ vs H Q E,sp vs H Q E->vs.length=ps.length)
 (j:∀ (cdv:h6) (A:Ik) (outer:List Env) (s:z4) (H:Hp) (vs:List V) (Q:VK) (E:XK),Room k (A.deeper (OO qual (aB st) s.heap.objs.size f cdv))->sp vs H Q E ->
   ∃ t,PSs (iz CX0 P w K mg base N qual (aB st) f cdv A outer s H E).nox (cb st) t/\t { nx:=fun _ H'=>Q .non H',rt:=Q } (di N vs) H):dY P w K mg base CX0 (k+1) f fd ps sp:=by
 obtain ⟨oc,od,kV,doc,pm,an,cdv,ct,osl,rfl,lk,z⟩:=F.ex;refine DO lk z S len fun A outer s H vs Q E G B => ?_;obtain ⟨t,h,q⟩:=j cdv A outer s H vs Q E G B;exact ⟨t,h.nox,q⟩
theorem Fun.binds {x qual:Str} {st:Stmt} {f:Addr} {fd:L3} {ps:List Str} (F:Fun K x qual st f fd)
 (h:∀ (kV doc pm:h6) (an:Option Addr) (cdv ct:h6) (us:List h6),us.length=ps.length->bindArgs (Kz x qual (dO st) (cb st) (aB st) .none kV doc pm an cdv ct) ⟨us,[]⟩=pure (ps.zip us)):Binds K fd ps []:=by
 obtain ⟨oc,od,kV,doc,pm,an,cdv,ct,osl,rfl,lk,j⟩:=F.ex;exact .all (h kV doc pm an cdv ct)
theorem al {x qual:Str} {st:Stmt} {f:Addr} {oc:h6} {od an:Option Addr} {osl:Array (Option h6)} {kV doc pm cdv ct:h6} (l:K.lookup f=some ⟨oc,od, .func (Kz x qual (dO st) (cb st) (aB st) .none kV doc pm an cdv ct),osl⟩)
 (c:Nl K cdv qual=true) (k:L4 K (.ref f)=true):Fun K x qual st f (Kz x qual (dO st) (cb st) (aB st) .none kV doc pm an cdv ct):=⟨⟨oc,od,kV,doc,pm,an,cdv,ct,osl,rfl,l,c⟩,k⟩
end
end
end L2
namespace HT
open PySem PySem.Spec PyProof.Rows
section
variable {prog:HI} {w:Ic} {A:Ik} {E:h6->z4->Prop} {s:z4}
theorem getItem_tuple_whole {t sl:Addr} {items:Array h6} {vl vu:h6} {lo hi:Option Int} {Q:h6->z4->Prop} (j:IsTup s.heap t items) (hs:s.heap.IsSliceOf sl vl vu .none) (pl:Om vl lo) (pu:Om vu hi)
 (hw:sIx items.size 0 lo=0/\sIx items.size items.size hi=items.size) (h:Q (.ref t) s):Hm (model prog w) A (NN (.ref t) (.ref sl)) Q E s:=by
 obtain ⟨os,q,z,G⟩:=id hs;have B:s.TypeIs (.ref sl) "slice" := ⟨os,q,z⟩;unfold NN
 try with_reducible refine ID ?_
 first | refine gV (q7 ?_) | skip
 refine gV (Q7 j.typeIs (by decide) ?_)
 refine gV (HZ (name:=Iq "__getitem__") j.typeIs Jp
  (Ig Jp j.typeIs Pm ?_ (PQ _ _)))
 show Hm _ _ (Np (.ref t) >>= _) _ _ s;refine gV (tupleItemsOf_ j ?_);refine gV (K8 B ?_);rw [if_pos (by decide)]
 refine gV (dZ hs pl pu ?_);have F:(((sIx items.size 0 lo:Nat):Int)==0&&(1:Int)==1&&(sIx items.size items.size hi - sIx items.size 0 lo)==items.size)=true:=by
  rw [hw.1,hw.2];simp
 show Hm _ _ (if (((sIx items.size 0 lo:Nat):Int)==0&&(1:Int)==1&&(sIx items.size items.size hi - sIx items.size 0 lo)==items.size)=true then _ else _) _ _ s
 rw [if_pos F];refine gV (m:=Nq (.ref t)) ?_;unfold Nq;refine gV (K8 j.typeIs (q7 ?_));show Hm _ _ (if true=true then _ else _) _ _ s
 rw [if_pos rfl];exact gV (IT (q7 ⟨_,rfl,q7 h⟩))
end
end HT
namespace L2
open PySem PySem.Spec PyProof.Rows
section
section
variable {X:Cx}
noncomputable def EO (K:Frag):V->Option Int->Option Int->Hp->VK->Prop:=fun x lo hi H Q => ∃ a xs,x = .ref a/\SqT K H a xs/\(HT.sIx xs.length 0 lo=0/\HT.sIx xs.length xs.length hi=xs.length)/\Q x H
theorem wX:SlR X (EO X.K):=by
 intro pins s σ H x v vl vu lo hi sl Q I rx hs pl pu h;obtain ⟨a,xs,rfl,hx,hw,q⟩:=h
 cases rx
 obtain ⟨its,r,j,z⟩:=I.tuple hx;have hlen:=r.length;refine ⟨"tuple",_,slot_tuple_getitem.lookup,j.typeIs, ?_⟩;refine HT.getItem_tuple_whole j hs pl pu (by rw [Hj, <- hlen];exact hw) ⟨.ref a,H,I,rfl,q⟩
end
end
section
section
variable {κ:Type} [DecidableEq κ]
noncomputable def bV (kvs:List (κ × V)) (k : κ):Option V:=(kvs.find? fun kv=>decide (kv.1=k)).map (·.2)
noncomputable def bq (kvs:List (κ × V)) (k : κ) (v:V):List (κ × V) :=
 if (kvs.any fun kv=>decide (kv.1=k))=true then kvs.map (fun kv=>if kv.1=k then (kv.1,v) else kv) else kvs++[(k,v)]
theorem fE {p : κ × V} {r:List (κ × V)} {k : κ} (e:p.1=k):bV (p::r) k=some p.2:=by simp [bV,Jn,e]
theorem fF {p : κ × V} {r:List (κ × V)} {k : κ} (e : ¬ p.1=k):bV (p::r) k=bV r k:=by simp [bV,Jn,e]
theorem nk (k : κ):∀ kvs:List (κ × V),(kvs.any fun kv=>decide (kv.1=k))=(bV kvs k).isSome
 | [] => rfl
 | p::r=>by
   rw [Jw]
   by_cases e:p.1=k
   ·simp only [fE e,decide_eq_true e,Bool.true_or,PV]
   ·rw [fF e,decide_eq_false e,MB];exact nk k r
theorem dj (kvs:List (κ × V)) (k : κ) (v:V):(bq kvs k v).length<=kvs.length+1:=by
 unfold bq
 split
 ·rw [A0];omega
 ·rw [A1,HS,Jo];omega
theorem RelO.isSome_eq {o:Option V} {u:Option h6} (r:RelO o u):o.isSome=u.isSome:=by
 cases o with
 | none=>cases u with
   | none=>rfl
   | some _=>exact (show False from r).elim
 | some _=>cases u with
   | none=>exact (show False from r).elim
   | some _=>rfl
theorem RelO.getD {o:Option V} {u:Option h6} {d:V} {d':h6} (r:RelO o u) (rd:RelV d d'):RelV (o.getD d) (u.getD d'):=by
 cases o with
 | none=>cases u with
   | none=>exact rd
   | some _=>exact (show False from r).elim
 | some _=>cases u with
   | none=>exact (show False from r).elim
   | some _=>exact r
theorem KV.val {kvs:List (κ × V)} {vs:List (κ × h6)} (r:KV kvs vs) (k : κ):RelO (bV kvs k) (Pk vs k):=by
 unfold KV at r
 induction r with
 | nil=>exact J3
 | @cons p q ps qs h t ih =>
  obtain ⟨h1,h2⟩:=h
  by_cases e:p.1=k
  ·have e':q.1=k:=h1.symm.trans e;have b:Pk (q::qs) k=some q.2:=by simp [Pk,Jn,e']
   rw [fE e,b];exact h2
  ·have e' : ¬ q.1=k:=fun z=>e (h1.trans z);have b:Pk (q::qs) k=Pk qs k:=by simp [Pk,Jn,e']
   rw [fF e,b];exact ih
theorem KV.any {kvs:List (κ × V)} {vs:List (κ × h6)} (r:KV kvs vs) (k : κ):(kvs.any fun kv=>decide (kv.1=k))=vs.any fun kv=>decide (kv.1=k):=by
 unfold KV at r
 induction r with
 | nil=>rfl
 | cons h t ih=>rw [Jw,Jw,ih,h.1]
theorem KV.repl {kvs:List (κ × V)} {vs:List (κ × h6)} (r:KV kvs vs) (k : κ) {y:V} {u:h6} (ry:RelV y u) :
 KV (kvs.map fun kv=>if kv.1=k then (kv.1,y) else kv) (vs.map fun kv=>if kv.1=k then (kv.1,u) else kv):=by
 unfold KV at r ⊢
 induction r with
 | nil=>exact .nil
 | @cons p q ps qs h t ih =>
  rw [Hs,Hs];refine .cons ?_ ih;obtain ⟨h1,h2⟩:=h
  by_cases e:p.1=k
  ·rw [if_pos e,if_pos (h1.symm.trans e)];exact ⟨h1,ry⟩
  ·rw [if_neg e,if_neg (fun z=>e (h1.trans z))];exact ⟨h1,h2⟩
theorem KV.put {kvs:List (κ × V)} {vs:List (κ × h6)} (r:KV kvs vs) (k : κ) {y:V} {u:h6} (ry:RelV y u):KV (bq kvs k y) (stored vs k u):=by
 unfold bq stored;rw [r.any k]
 by_cases e:(vs.any fun kv=>decide (kv.1=k))=true
 ·rw [if_pos e,if_pos e];exact r.repl k ry
 ·rw [if_neg e,if_neg e];exact Paired.snoc r ⟨rfl,ry⟩
theorem KV.length {kvs:List (κ × V)} {vs:List (κ × h6)} (r:KV kvs vs):kvs.length=vs.length:=Kh r
end
theorem mQ {P:HI} {w:Ic} {k:Key} {u:h6} (r:RelV (kV k) u):(aK P w).is k u=true:=by
 cases k with
 | inl i=>obtain ⟨t,e⟩:=(show ∃ t,u=Pf i t from r);subst e;exact pZ P w i t
 | inr x=>obtain ⟨t,e⟩:=(show ∃ t,u=Pg x t from r);subst e;exact q0 P w x t
theorem ln {P:HI} {w:Ic}:∀ {ks:List Key} {us:List h6},Vals (ks.map kV) us->ItemsAre (aK P w) ks us
 | [],_,r=>by rw [JP] at r;cases r;exact .nil
 | k::ks,_,r=>by
   rw [Hs] at r
   cases r with
   | cons h t=>exact .cons (mQ h) (ln t)
noncomputable abbrev KT (H:Hp):List (List Key×V)->List (List Key×Addr×h6)->Prop:=Ih fun p q=>p.1=q.1/\H q.2.1=some (.tup (p.1.map kV))/\RelV p.2 q.2.2
theorem KT.val {H:Hp} {kvs:List (List Key×V)} {xs:List (List Key×Addr×h6)} (r:KT H kvs xs) (k:List Key):RelO (bV kvs k) ((OS xs k).map (·.2)):=by
 induction r with
 | nil=>exact J3
 | @cons p q ps qs h t ih =>
  obtain ⟨h1,_,h2⟩:=h
  by_cases e:p.1=k
  ·have e':q.1=k:=h1.symm.trans e;have b:OS (q::qs) k=some q.2:=by simp [OS,Jn,e']
   rw [fE e,b];exact h2
  ·have e' : ¬ q.1=k:=fun z=>e (h1.trans z);have b:OS (q::qs) k=OS qs k:=by simp [OS,Jn,e']
   rw [fF e,b];exact ih
theorem KT.repl {H:Hp} {kvs:List (List Key×V)} {xs:List (List Key×Addr×h6)} (r:KT H kvs xs) (k:List Key) {y:V} {u:h6} (ry:RelV y u) :
 KT H (kvs.map fun kv=>if kv.1=k then (kv.1,y) else kv) (xs.map (putAt k u)):=by
 induction r with
 | nil=>exact .nil
 | @cons p q ps qs h t ih =>
  rw [Hs,Hs];refine .cons ?_ ih;obtain ⟨h1,h2,j⟩:=h;unfold putAt
  by_cases e:p.1=k
  ·rw [if_pos e,if_pos (h1.symm.trans e)];exact ⟨h1,h2,ry⟩
  ·rw [if_neg e,if_neg (fun z=>e (h1.trans z))];exact ⟨h1,h2,j⟩
theorem KT.put {H:Hp} {kvs:List (List Key×V)} {xs:List (List Key×Addr×h6)} (r:KT H kvs xs) (k:List Key) {b:Addr} {y:V} {u:h6} (hb:H b=some (.tup (k.map kV))) (ry:RelV y u) :
 KT H (bq kvs k y) (storedH xs k b u):=by
 have e:(kvs.any fun kv=>decide (kv.1=k))=(OS xs k).isSome:=by
  rw [nk,(r.val k).isSome_eq,Option.isSome_map]
 unfold bq storedH;rw [e]
 by_cases q:(OS xs k).isSome=true
 ·rw [if_pos q,if_pos q];exact r.repl k ry
 ·rw [if_neg q,if_neg q];exact Paired.snoc r ⟨rfl,hb,ry⟩
theorem KT.keeps {H H':Hp} {kvs:List (List Key×V)} {xs:List (List Key×Addr×h6)} (r:KT H kvs xs) (j:∀ b ys,H b=some (.tup ys)->H' b=some (.tup ys)):KT H' kvs xs :=
 Rz r fun _ _ z=>⟨z.1,j _ _ z.2.1,z.2.2⟩
section
variable {P:HI} {w:Ic} {H:Hp} {h:Heap} {a:Addr}
theorem zc {u:HO} (ok:HOk P w H h) (e:Rd H a u):ObjOk P w H h a u:=e.ok ok
theorem mR {kvs:List (Key×V)} (ok:HOk P w H h) (e:Rd H a (.dK kvs)):kvs.length<=Hh/\(a==IF)=false /\ ∃ vs,KV kvs vs/\h.DictOf (aK P w) a vs :=
 show ObjOk P w H h a (.dK kvs) from zc ok e
theorem DR {kvs:List (Key×V)} (ok:HOk P w H h) (e:H a=some (.dK kvs)):kvs.length<=Hh/\(a==IF)=false /\ ∃ vs,KV kvs vs/\h.DictOf (aK P w) a vs:=mR ok (.inl e)
theorem gc {ks:List Key} (ok:HOk P w H h) (e:H a=some (.tup (ks.map kV))):(LA (aK P w)).is h ks a:=by
 obtain ⟨_,its,r,o,h1,h2,n,j⟩:=(show ObjOk P w H h a (.tup (ks.map kV)) from ok a _ e);exact ⟨o,its.toArray,n,h1,h2,j,by simpa using ln r⟩
theorem gO {kvs:List (List Key×V)} (ok:HOk P w H h) (e:Rd H a (.dT kvs)):kvs.length<=Hh/\(a==IF)=false /\
 ∃ xs,KT H kvs xs/\h.DictOfH (LA (aK P w)) a xs:=by
 obtain ⟨z,y,xs,r,o,es,ep,h1,h2,j,B,F⟩:=(show ObjOk P w H h a (.dT kvs) from zc ok e);refine ⟨z,y,xs,r,o,es,ep,h1,h2,j,B,fun x hx => ?_,F⟩;have all:∀ {l:List (List Key×V)} {m:List (List Key×Addr×h6)},KT H l m -> ∀ x∈m,(LA (aK P w)).is h x.1 x.2.1:=by
  intro l m q
  induction q with
  | nil=>intro x hx;exact nomatch hx
  | @cons p q ps qs hq t ih =>
   intro x hx
   rcases Hg.mp hx with e | hx
   ·subst e;exact gc ok (by rw [<- hq.1];exact hq.2.1)
   ·exact ih x hx
 exact all r x hx
theorem zd {kvs:List (List Key×V)} (ok:HOk P w H h) (e:H a=some (.dT kvs)):kvs.length<=Hh/\(a==IF)=false /\
 ∃ xs,KT H kvs xs/\h.DictOfH (LA (aK P w)) a xs:=gO ok (.inl e)
end
def DGet (H:Hp) (a:Addr) (y:V) (r:Option V):Prop :=
 (∃ kvs k,Rd H a (.dK kvs)/\y=kV k/\r=bV kvs k) ∨ ∃ kvs k b,Rd H a (.dT kvs)/\y = .ref b/\H b=some (.tup (k.map kV))/\r=bV kvs k
def DPut (H:Hp) (a:Addr) (y v:V) (H':Hp):Prop :=
 (∃ kvs k,H a=some (.dK kvs)/\y=kV k/\kvs.length < Hh/\H'=upd H a (.dK (bq kvs k v))) ∨
 ∃ kvs k b,H a=some (.dT kvs)/\y = .ref b/\H b=some (.tup (k.map kV))/\kvs.length < Hh/\H'=upd H a (.dT (bq kvs k v))
theorem DGet.k {H:Hp} {a:Addr} {kvs:List (Key×V)} {k:Key} (e:H a=some (.dK kvs)):DGet H a (kV k) (bV kvs k) := .inl ⟨kvs,k, .inl e,rfl,rfl⟩
theorem DPut.k {H:Hp} {a:Addr} {kvs:List (Key×V)} {k:Key} {v:V} (e:H a=some (.dK kvs)) (j:kvs.length < Hh):DPut H a (kV k) v (upd H a (.dK (bq kvs k v))) := .inl ⟨kvs,k,e,rfl,j,rfl⟩
theorem DPut.t {H:Hp} {a b:Addr} {kvs:List (List Key×V)} {k:List Key} {v:V} (e:H a=some (.dT kvs)) (eb:H b=some (.tup (k.map kV))) (j:kvs.length < Hh) :
 DPut H a (.ref b) v (upd H a (.dT (bq kvs k v))) := .inr ⟨kvs,k,b,e,rfl,eb,j,rfl⟩
section
variable {X:Cx} {pins:List (Addr×Obj)} {σ:St} {H:Hp} {s:z4} {a:Addr} {y v:V} {u r:h6} {o:Option V} {A:Ik} {E:h6->z4->Prop}
theorem Inv.big (I:Inv X pins σ H s):IF < s.heap.objs.size:=by
 have h:Jk < s.heap.objs.size:=(I.mod.glob.keeps I.bk).lt;exact Nat.lt_trans (by decide) h
theorem uh {Q:h6->z4->Prop} (q:A.units+1 < JS) (I:Inv X pins σ H s) (g:DGet H a y (some v)) (ry:RelV y u) (h:∀ w' s',Inv X pins σ H s'->RelV v w'->Q w' s') :
 Hm (model X.prog X.w) A (NN (.ref a) u) Q E s:=by
 rcases g with ⟨kvs,k,e,ey,l⟩ | ⟨kvs,k,b,e,ey,eb,l⟩
 ·subst ey;obtain ⟨z,hd,vs,rel,dd⟩:=mR I.hok e;obtain ⟨w',hw,rw'⟩:=RJ (v:=v) (o:=Pk vs k) (by rw [l];exact rel.val k)
  exact wpAny_getItem_of (mQ ry) dd.mapOf hw (h w' _ (I.tok _) rw')
 ·subst ey
  cases (show u=Ii b from ry)
  obtain ⟨z,hd,xs,rel,dd⟩:=gO I.hok e;obtain ⟨w',hw,rw'⟩:=RJ (v:=v) (o:=(OS xs k).map (·.2)) (by rw [l];exact rel.val k)
  obtain ⟨p,B,j⟩:=KA.mp hw;refine wpAny_getItem_heap (KD q) (gc I.hok eb) dd B ?_;rw [j];exact h w' _ (I.tok _) rw'
theorem kj {h':Heap} {t':Nat} {ob:HO} (I:Inv X pins σ H s) (mu:Mut (H a)) (hs:IV a s.heap h') (he:∃ q,h'.get? a=some q) (new:ObjOk X.prog X.w (upd H a ob) h' a ob) :
 Inv X pins σ (upd H a ob) { s with heap:=h',toks:=t' } :=
 I.write (x:=a) (e:=a) mu (.inl rfl) (fun b q hb z=>(hs.2 b hb).trans z) he new
theorem Cf {P:HI} {w:Ic} {H':Hp} {h':Heap} {kvs:List (Key×V)} {vs:List (Key×h6)} (z:kvs.length<=Hh) (hd:(a==IF)=false) (rel:KV kvs vs) (dd:h'.DictOf (aK P w) a vs) :
 ObjOk P w H' h' a (.dK kvs):=⟨z,hd,vs,rel,dd⟩
theorem ui {H':Hp} {Q:Unit->z4->Prop} (G:A.units+1 < JS) (I:Inv X pins σ H s) (g:DPut H a y v H') (ry:RelV y u) (rv:RelV v r) (h:∀ s',Inv X pins σ H' s'->Q () s') :
 Hm (model X.prog X.w) A (Ph (.ref a) u r) Q E s:=by
 rcases g with ⟨kvs,k,e,ey,l,eH⟩ | ⟨kvs,k,b,e,ey,eb,l,eH⟩
 ·subst ey eH;obtain ⟨z,hd,vs,rel,dd⟩:=DR I.hok e;have B:vs.length<=Hh:=by rw [<- rel.length];exact z
  have F:(bq kvs k v).length<=Hh:=by have:=dj kvs k v;omega
  refine wpAny_setItem_pairs (hsz:=B) (mQ ry) dd fun h' dd' hs=>h _ ?_;have he:∃ q,h'.get? a=some q:=let ⟨q,_,_,j,_⟩:=dd'; ⟨q,j⟩;exact kj I (by rw [e];exact J3) hs he (Cf F hd (rel.put k rv) dd')
 ·subst ey eH
  cases (show u=Ii b from ry)
  obtain ⟨z,hd,xs,rel,dd⟩:=zd I.hok e;have B:xs.length<=Hh:=by rw [<- Kh rel];exact z
  have F:(bq kvs k v).length<=Hh:=by have:=dj kvs k v;omega
  refine wpAny_setItem_heap (hsz:=B) (KD G) (gc I.hok eb) dd fun h' dd' hs=>h _ ?_;obtain ⟨q,es,ep,j,h2,J,L,_,O⟩:=dd';refine kj I (by rw [e];exact J3) hs ⟨q,j⟩ ⟨F,hd,_,(rel.put k eb rv).keeps fun c ys ec => ?_,q,es,ep,j,h2,J,L,O⟩
  rw [ak (yQ ec e (fun z=>nomatch z))];exact ec
end
theorem wY {P:HI} {w:Ic} {H:Hp} (h:Heap) (hb:IF < h.objs.size):ObjOk P w H (h.push { cls := .type "dict",data := .dict #[] }) h.objs.size (.dK []) :=
 ⟨J9 _,beq_eq_false_iff_ne.mpr (Ne.symm (I0 hb)),[], .nil,Heap.DictOf.new h⟩
theorem no {P:HI} {w:Ic} {H:Hp} (h:Heap) (hb:IF < h.objs.size):ObjOk P w H (h.push { cls := .type "dict",data := .dict #[] }) h.objs.size (.dT []) :=
 ⟨J9 _,beq_eq_false_iff_ne.mpr (Ne.symm (I0 hb)),[], .nil,_, #[],0,D1 _ rfl,⟨rfl,rfl,rfl⟩,rfl,rfl,List.nodup_nil⟩
noncomputable def Cg:TE:=fun _ H Q => ∀ p,H p=none->Q (.ref p) (upd H p (.dK []))
noncomputable def Ch:TE:=fun _ H Q => ∀ p,H p=none->Q (.ref p) (upd H p (.dT []))
section
variable {X:Cx} {pos:Pos}
theorem wZ:PE X (.Dict [] [] pos) Cg:=fun pins s σ H Q I h =>
 Qs ⟨.ref s.heap.objs.size,_,I.laid (a:=s.heap.objs.size) (o := .dK []) (t':=s.toks) (fun _ _ q=>hH _ q) (Hk _) (wY s.heap I.big),rfl,h _ (I.hok.fresh (Hk _))⟩
theorem xc:PE X (.Dict [] [] pos) Ch:=fun pins s σ H Q I h =>
 Qs ⟨.ref s.heap.objs.size,_,I.laid (a:=s.heap.objs.size) (o := .dT []) (t':=s.toks) (fun _ _ q=>hH _ q) (Hk _) (no s.heap I.big),rfl,h _ (I.hok.fresh (Hk _))⟩
end
structure M2 (X:Cx) (o:Expr) (m:Str) (apos:Pos) (e f:Expr) (cpos:Pos):Prop where
 base:NT o m X.env (eval o X.env)=eval o X.env
 few:((Li cpos (HG [e,f] X.env)).all (fun x => !x.1)&&(R8 cpos (OQ [] X.env)).all (fun x=>x.1.isSome)
  && decide (([e,f]:List Expr).length+([]:List N8).length+(if ([]:List N8).isEmpty then 0 else 1) < 30))=true
 line:(apos.endLine==cpos.line)=true
 trees:Li cpos (HG [e,f] X.env)=[(false,eval e X.env),(false,eval f X.env)]
def IsD (H:Hp) (a:Addr):Prop:=(∃ kvs,Rd H a (.dK kvs)) ∨ ∃ kvs,Rd H a (.dT kvs)
theorem jc {X:Cx} {pins:List (Addr×Obj)} {σ:St} {H:Hp} {s:z4} {a:Addr} (I:Inv X pins σ H s) (d:IsD H a) :
 s.TypeIs (.ref a) "dict" /\ (∀ b,Ii a = .ref b -> ∃ ob,s.heap.get? b=some ob/\ob.dict=none)/\(a==IF)=false:=by
 rcases d with ⟨kvs,e⟩ | ⟨kvs,e⟩
 ·obtain ⟨_,hd,vs,_,dd⟩:=mR I.hok e;refine ⟨dd.typeIs,fun b q => ?_,hd⟩
  cases q
  obtain ⟨ob,_,_,h1,h2,_⟩:=dd;exact ⟨ob,h1,h2.2.1⟩
 ·obtain ⟨_,hd,xs,_,dd⟩:=gO I.hok e;refine ⟨dd.typeIs,fun b q => ?_,hd⟩
  cases q
  obtain ⟨ob,_,_,h1,h2,_⟩:=dd;exact ⟨ob,h1,h2.2.1⟩
section
variable {X:Cx} {pins:List (Addr×Obj)} {σ:St} {H:Hp} {s:z4} {a:Addr} {y d:V} {u r:h6} {o:Option V} {A:Ik} {E:h6->z4->Prop}
theorem Ci {Q:h6->z4->Prop} (j:A.units+1 < JS) (I:Inv X pins σ H s) (g:DGet H a y o) (ry:RelV y u) (rd:RelV d r) (h:∀ w' s',Inv X pins σ H s'->RelV (o.getD d) w'->Q w' s') :
 Hm (model X.prog X.w) A (call (.builtin "dict.get") [.ref a,u,r]) Q E s:=by
 rcases g with ⟨kvs,k,e,ey,l⟩ | ⟨kvs,k,b,e,ey,eb,l⟩
 ·subst ey;obtain ⟨z,hd,vs,rel,dd⟩:=mR I.hok e;refine Q9 Mm dd.typeIs Ow (O1 _ _ _) (meets_dict_get_default (aK X.prog X.w) a (mQ ry) hd r) ⟨_,dd.mapOf,h _ _ (I.tok _) ?_⟩;rw [l];exact (rel.val k).getD rd
 ·subst ey
  cases (show u=Ii b from ry)
  obtain ⟨z,hd,xs,rel,dd⟩:=gO I.hok e;refine Q9 Mm dd.typeIs Ow (O1 _ _ _) (meetsH_dict_get_default (LA (aK X.prog X.w)) a b hd r) ⟨KD j,k,xs,gc I.hok eb,dd,h _ _ (I.tok _) ?_⟩;rw [l];exact (rel.val k).getD rd
end
noncomputable def Cj (td ty tx:TE):TE:=fun σ H Q=>td σ H fun x H1 => ∃ a,x = .ref a/\IsD H1 a/\ty σ H1 fun y H2=>tx σ H2 fun z H3 => ∃ o,DGet H3 a y o/\Q (o.getD z) H3
section
variable {X:Cx} {o e f:Expr} {apos cpos:Pos} {td ty tx:TE}
theorem xf (q:X.A.units+1 < JS) (ho:PE X o td) (he:PE X e ty) (hf:PE X f tx) (m:M2 X o "get" apos e f cpos):PE X (.Call (.Attribute o "get" apos) [e,f] [] cpos) (Cj td ty tx):=by
 intro pins s σ H Q I h;refine wpAny_Call_method m.base m.few m.line PySem.F.plainAttrs_dict Mm PySem.F.type_dict_get (thn (ho pins s σ H _ I h) fun u s1 ⟨x,H1,j,rx,a,ex,d,B⟩ => ?_);subst ex;obtain rfl:u=Ii a:=rx;obtain ⟨t1,G,_⟩:=jc j d;refine ⟨t1,G, ?_⟩;rw [m.trees];refine LU rfl (OR (Kx (thn (he pins s1 σ H1 _ j B) fun iv s2 ⟨y,H2,J,ry,L⟩ =>
  Kx (thn (hf pins s2 σ H2 _ J L) fun fv s3 ⟨z,O,U,rz,ov,g,Y⟩=>LP ?_))))
 exact Ci q U g ry rz fun w' s4 Z rw'=>⟨_,O,Z,rw',Y⟩
end
end
section
noncomputable def bg (elt:Expr) (gens:List Iw) (scope:Scope) (pos:Pos) (d:Nat) (acc:h6) (env:Env) (k:Sem Fin):Sem Fin :=
 match gens[d+1]? with
 | some g'=>eval g'.iter env >>= fun x=>NM g'.iter.pos >>= fun _=>JE g'.iter env x >>= fun x=>holding [x] (PH x) >>= fun it' =>
    runOwn (.compStart (.ListComp elt gens scope pos) (d+1) it' acc env) env >>= fun _=>k
 | none=>(eval elt env >>= fun x=>call (.builtin "list.append") [acc,x] >>= fun _=>pure ()) >>= fun _=>k
noncomputable def br (ifs:List Expr) (env:Env):Sem Bool :=
 forIn ifs true fun c r=>if r=true then do let ok <- isTrue c env (eval c env);pure (KJ ok) else pure (KJ r)
theorem nr (elt target iter:Expr) (ifs:List Expr) (gens:List Iw) (scope:Scope) (pos:Pos) (d:Nat) (it acc:h6) (env:Env)
 (hd:gens[d]? = some ⟨target,iter,ifs,0⟩) (j:∀ g',gens[d+1]? = some g'->g'.is_async=0) :
 compTurn (.ListComp elt gens scope pos) d it acc env=(NM iter.pos >>= fun _=>KR it >>= fun r=>match r with
  | none=>pure (.done .next)
  | some v=>MU target it v >>= fun _=>assign target env v >>= fun _=>br ifs env >>= fun ok =>
    (if ok=true then bg elt gens scope pos d acc env (again (.compLoop (.ListComp elt gens scope pos) d it acc env)) else again (.compLoop (.ListComp elt gens scope pos) d it acc env))):=by
 unfold compTurn;simp only [hd];unfold bg br
 cases hn:gens[d+1]? with
 | none=>rfl
 | some g' =>
   obtain ⟨t',i',f',a'⟩:=g';have e:a'=0:=j _ hn;subst e;rfl
noncomputable abbrev TC:=St->Hp->(St->Hp->Prop)->Prop
def cH (J:It) (g:TG) (tb:TC) (N:St->Hp->Prop) (σ:St) (H:Hp):Prop :=
 ∃ W:Nat->Nat->St->Hp->Prop,(∃ m,W 0 m σ H) /\ ∀ i m σ H,W i m σ H ->
  (J.stop i H/\N σ H)∨(J.go i H /\ ∃ N':St->Hp->Prop,(∀ σ' H',N' σ' H' -> ∃ m',m' < m/\W (i+1) m' σ' H') /\ ∀ x H',J.yld i H x H'->g x σ H' fun σ2 H2=>tb σ2 H2 N')
def PB (X:Cx) (F:Sem Fin->Sem Fin) (t:TC):Prop :=
 ∀ (pins:List (Addr×Obj)) (s:z4) (σ:St) (H:Hp) (N:St->Hp->Prop) (k:Sem Fin) (Q:Fin->z4->Prop) (E:h6->z4->Prop),Inv X pins σ H s->t σ H N ->
  (∀ s' σ' H',Inv X pins σ' H' s'->N σ' H'->Hm (model X.prog X.w) X.A k Q E s')->Hm (model X.prog X.w) X.A (F k) Q E s
section
variable {X:Cx}
theorem nox {α:Type} {m:Sem α} {Q : α -> z4->Prop} {E:h6->z4->Prop} {s:z4} (hx:∀ e s,X.xe e s->False) (h:Hm (model X.prog X.w) X.A m Q X.xe s):Hm (model X.prog X.w) X.A m Q E s :=
 Jr h (fun _ _ q=>q) fun e s' q=>(hx e s' q).elim
noncomputable def jd (ts:List TT) (tb:TC):TC:=match ts with
 | [] => tb
 | t::r=>fun σ H N=>t σ H fun b H1=>if b=true then jd r tb σ H1 N else N σ H1
theorem je {env:Env} {M:MK} {A:Ik} {Q:Bool->z4->Prop} {E:h6->z4->Prop} {s:z4} (h:Q false s):∀ ifs:List Expr,
 Hm M A (forIn ifs false fun c r=>if r=true then do let ok <- isTrue c env (eval c env);pure (KJ ok) else pure (KJ r)) Q E s
 | [] => q7 h
 | c::r=>by
   rw [JI];simp only [J4,if_false];exact gV (q7 (je h r))
theorem nv (hx:∀ e s,X.xe e s->False) {tb:TC} {N:St->Hp->Prop}:∀ {ifs:List Expr} {ts:List TT},Ih (fun c t=>PT X c t) ifs ts ->
 ∀ (pins:List (Addr×Obj)) (s:z4) (σ:St) (H:Hp) (E:h6->z4->Prop),Inv X pins σ H s->jd ts tb σ H N ->
 Hm (model X.prog X.w) X.A (br ifs X.env) (fun ok s' => ∃ H',Inv X pins σ H' s'/\if ok=true then tb σ H' N else N σ H') E s
 | _,_, .nil=>fun pins s σ H E I h=>q7 ⟨H,I,by rw [if_pos rfl];exact h⟩
 | c::ifs,_, .cons (b:=t) z hr=>by
   intro pins s σ H E I h;have ih:=nv hx hr (tb:=tb) (N:=N) pins;unfold br at ih ⊢;rw [JI];simp only [if_true];refine gV (gV (nox hx (thn (z pins s σ H _ I h) fun b s1 ⟨H1,q,j⟩=>q7 ?_)))
   cases b with
   | false =>
     rw [if_neg He] at j;exact je ⟨H1,q,by rw [if_neg He];exact j⟩ ifs
   | true =>
     rw [if_pos rfl] at j;exact ih s1 σ H1 E q j
theorem xg (hx:∀ e s,X.xe e s->False) {F:Sem Fin->Sem Fin} {tb:TC} (hb:PB X F tb) {ifs:List Expr} {ts:List TT} (z:Ih (fun c t=>PT X c t) ifs ts) :
 PB X (fun k=>br ifs X.env >>= fun ok=>if ok=true then F k else k) (jd ts tb):=by
 intro pins s σ H N k Q E I h hk;refine gV (thn (nv hx z pins s σ H E I h) fun ok s1 ⟨H1,q,j⟩ => ?_)
 cases ok with
 | false =>
   rw [if_neg He] at j ⊢;exact hk s1 σ H1 q j
 | true =>
   rw [if_pos rfl] at j ⊢;exact hb pins s1 σ H1 N k Q E q j hk
noncomputable def ze (p:Addr) (te:TE):TC:=fun σ H N=>te σ H fun x H1 => ∃ xs,H1 p=some (.lst xs)/\xs.length < Hh/\N σ (upd H1 p (.lst (xs++[x])))
theorem km (hx:∀ e s,X.xe e s->False) {elt:Expr} {gens:List Iw} {scope:Scope} {pos:Pos} {d:Nat} {p:Addr} {te:TE} (he:PE X elt te) (hd:gens[d+1]? = none) :
 PB X (bg elt gens scope pos d (.ref p) X.env) (ze p te):=by
 intro pins s σ H N k Q E I h j;unfold bg;rw [hd];refine gV (gV (nox hx (thn (he pins s σ H _ I h) fun u s1 ⟨x,H1,q,z,xs,e1,l1,B⟩ => ?_)));refine gV (nox hx (thn (ll (X:=X) pins s1 σ H1 (.ref p) [x] (.ref p) [u] (fun _ H2=>N σ H2) q rfl (.cons z .nil) ⟨p,xs,x,rfl,rfl,e1,l1,B⟩) fun v s2 ⟨_,H2,F,_,G⟩ => ?_));exact q7 (j s2 σ H2 F G)
theorem lp (hx:∀ e s,X.xe e s->False) (U:X.calm=true) {elt target iter:Expr} {ifs:List Expr} {gens:List Iw} {scope:Scope} {pos:Pos} {d:Nat} {acc:h6}
 (hd:gens[d]? = some ⟨target,iter,ifs,0⟩) (ha:∀ g',gens[d+1]? = some g'->g'.is_async=0) {g:TG} (hg:PG X target g) {tb:TC}
 (hb:PB X (fun k=>br ifs X.env >>= fun ok=>if ok=true then bg elt gens scope pos d acc X.env k else k) tb)
 {pins:List (Addr×Obj)} {s:z4} {σ:St} {H:Hp} {N:St->Hp->Prop} {it:Addr} {fp:List Addr} {tn:Nat->Heap->Prop} {J:It} (I:Inv X pins σ H s) (T:fD X.prog X.w X.K target J fp it tn)
 (t0:tn 0 s.heap) (f2:∀ b∈fp,cj X pins H b) (h:cH J g tb N σ H) :
 MA (model X.prog X.w) X.A (.compLoop (.ListComp elt gens scope pos) d (.ref it) acc X.env) (fun r s'=>match r with | .ok _ => ∃ σ' H',Inv X pins σ' H' s'/\N σ' H' | .error _=>False) s:=by
 obtain ⟨W,⟨m0,w0⟩,turn⟩:=h;have stat:∀ {H':Hp},(∀ b∈fp,H' b=none) -> ∀ b∈fp,cj X pins H' b:=fun hn b hb=>⟨hn b hb,(f2 b hb).2⟩;refine codeAny_loop rfl (fun n s' => ∃ i σ' H',Inv X pins σ' H' s'/\tn i s'.heap/\(∀ b∈fp,H' b=none)/\W i n σ' H') ?_ m0 ⟨0, σ,H,I,t0,fun b hb=>(f2 b hb).1,w0⟩;rintro n s3 ⟨i, σ3,B,Y,q,z,w3⟩;show Hm _ _ ((compTurn (.ListComp elt gens scope pos) d (.ref it) acc X.env).onRaise (fun x=>do noteFrame x X.env;theTreesLotGoes x)) _ _ s3
 refine wpAny_noted ?_;rw [nr elt target iter ifs gens scope pos d (.ref it) acc X.env hd ha];refine gV (Ki (gV ?_));show Hm (model X.prog X.w) X.A _ _ _ s3
 rcases turn i n σ3 B w3 with ⟨stop,qn⟩ | ⟨go,N',hN,step⟩
 ·refine thn (T.done X rfl rfl rfl U i pins s3 σ3 B _ Y (stat z) q stop) fun r s4 ⟨F,I4⟩ => ?_;subst F;exact q7 ⟨σ3,B,I4,qn⟩
 ·refine thn (T.item X rfl rfl rfl U i pins s3 σ3 B _ Y (stat z) q go) fun r s4 ⟨u,F,h4⟩ => ?_;subst F;refine gV (thn h4 fun _ s5 ⟨x,Z,I5,r5,y5,j,G⟩ => ?_);have L:=I5.pinned (stat G) (T.obj _ _ j);refine gV (nox hx (thn (hg _ s5 σ3 Z x u _ L r5 (step x Z y5)) fun _ s6 ⟨σ6,H6,I6,q6⟩ => ?_));refine hb _ s6 σ6 H6 N' (again (.compLoop (.ListComp elt gens scope pos) d (.ref it) acc X.env)) _ _ I6 q6 fun s7 σ7 H7 O n7 => ?_;obtain ⟨m',hm,w7⟩:=hN σ7 H7 n7;refine q7 ⟨rfl,m',hm,i+1, σ7,H7,O.unpinned,T.keep _ _ _ j fun b hb o e=>(O.pin (b,o) (Hw _ (Hw _ (dC hb e)))).1,fun b hb => ?_,w7⟩;obtain ⟨o,e,dd⟩:=T.obj _ _ j b hb;exact (O.pin (b,o) (Hw _ (Hw _ (dC hb e)))).2.1
theorem jf {elt target iter:Expr} {ifs:List Expr} {gens:List Iw} {scope:Scope} {pos:Pos} {d:Nat} {it acc:h6} {env:Env} {prog:HI} {w:Ic} {A:Ik} {R:Result->z4->Prop} {s:z4}
 (hd:gens[d]? = some ⟨target,iter,ifs,0⟩)
 (h0:MA (model prog w) A (.compLoop (.ListComp elt gens scope pos) d it acc env) R s)
 (h:Hm (model prog w) A (PH it) (fun it' s'=>MA (model prog w) A (.compLoop (.ListComp elt gens scope pos) d it' acc env) R s')
   (notedBy (model prog w) A env fun x s'=>R (.error x) s') s) :
 MA (model prog w) A (.compStart (.ListComp elt gens scope pos) d it acc env) R s:=by
 refine codeAny_of_tree ?_;show Hm _ _ ((compStart (.ListComp elt gens scope pos) d it acc env).onRaise (fun x=>do noteFrame x env;NM theWindowsPlace)) _ _ s
 refine wpAny_notedAt ?_;unfold compStart;have j:(clausesOf (.ListComp elt gens scope pos))[d]? = some ⟨target,iter,ifs,0⟩:=hd;rw [j];show Hm _ _ (ask >>= _) _ _ s;refine gV (wpAny_askSetting (wpAny_ite ?_))
 split
 ·first
   | exact gV (q7 (q7 (Mq rfl h0)))
   | exact q7 (Mq rfl h0)
 ·first
   | exact gV (IT (gV (Ki (gV (Jr h (fun it' s' h'=>q7 (Mq rfl h')) fun _ _ x=>x)))))
   | (refine gV (IT ?_);show Hm _ _ (NM iter.pos >>= _) _ _ s;exact gV (Ki (gV (Jr h (fun it' s' h'=>q7 (Mq rfl h')) fun _ _ x=>x))))
theorem lr (hx:∀ e s,X.xe e s->False) (z:X.calm=true) {elt target iter:Expr} {ifs:List Expr} {gens:List Iw} {scope:Scope} {pos:Pos} {d:Nat} {acc:h6}
 (hd:gens[d+1]? = some ⟨target,iter,ifs,0⟩) (B:∀ g',gens[d+1+1]? = some g'->g'.is_async=0) {wi:TI} (hi:PI X target iter wi) {g:TG} (F:PG X target g) {tb:TC}
 (hb:PB X (fun k=>br ifs X.env >>= fun ok=>if ok=true then bg elt gens scope pos (d+1) acc X.env k else k) tb)
 (hs:∀ x,JE iter X.env x=pure x) :
 PB X (bg elt gens scope pos d acc X.env) (fun σ H N=>wi σ H fun J H1=>cH J g tb N σ H1):=by
 intro pins s σ H N k Q E I h hk;unfold bg;rw [hd];refine gV (nox hx (thn (hi pins s σ H _ I h) fun v s1 h1 => ?_));refine gV (Ki (gV (Ku (hs v) ?_)));refine gV (ID (nox hx (thn h1 fun itv s2 h2 => ?_)));obtain ⟨it,fp,tn,J,H2,e,G,T,j,f2,hw⟩:=h2;subst e;have loop:=lp (acc:=acc) hx z hd B F hb G T j f2 hw;refine gV (wpAny_runOwn (LQ (jf (R:=fun r s'=>match r with | .ok _ => ∃ σ' H',Inv X pins σ' H' s'/\N σ' H' | .error _=>False) hd loop (T.self _ 0 _ _ _ j loop)) fun r s3 q => ?_))
 cases r with
 | error e=>exact q.elim
 | ok f =>
   obtain ⟨σ3,L,O,U⟩:=q;exact hk s3 σ3 L O U
noncomputable def aY (cells:List (Str×Addr)):List (Str×Kq)->List (Str×Addr)->List (Str×Addr)
 | [],acc=>acc
 | (n,k)::r,acc=>if k == .free then (match cells.lookup n with | some c=>aY cells r ((n,c)::acc) | none=>aY cells r acc) else aY cells r acc
theorem ii {env:Env}:∀ (names:List (Str×Kq)) (acc:List (Str×Addr)),(∀ x∈names,x.2 = .free->(env.cells.lookup x.1).isSome=true) ->
 (forIn names acc fun (x:Str×Kq) (r:List (Str×Addr))=>(match x with | (name,kind)=>if (kind==I8)=true then do let c <- cellOf env name;pure (KJ ((name,c)::r)) else pure (KJ r):Sem (ForInStep (List (Str×Addr)))))=(pure (aY env.cells names acc):Sem (List (Str×Addr)))
 | [],acc,_=>rfl
 | (n,k)::r,acc,h=>by
  rw [JI];have ih:=fun acc'=>ii r acc' fun x hx=>h x (HF _ hx);unfold aY
  by_cases hk:(k==I8)=true
  ·obtain ⟨c,q⟩:=Kj.mp (h (n,k) Ie (beq_iff_eq.mp hk));have j:env.cells.lookup n=some c:=q;have e1:cellOf env n=pure c:=by unfold cellOf;rw [j]
   simp only [hk,if_true,e1,j,pure_bind];exact ih _
  ·simp only [hk,if_false,pure_bind];exact ih _
theorem jg {scope:Scope} {env:Env} (h:∀ x∈scope.names,x.2 = .free->(env.cells.lookup x.1).isSome=true):closureFor scope env=pure (aY env.cells scope.names []):=by
 unfold closureFor;have e:=ii (env:=env) scope.names [] h;simp only [bind_pure];exact e
theorem dE {cells:List (Str×Addr)} {y:Str} {c:Addr}:∀ {names:List (Str×Kq)} {acc:List (Str×Addr)},(y,c)∈aY cells names acc->(y,c)∈acc∨(cells.lookup y=some c/\(y,I8)∈names)
 | [],acc,h => .inl h
 | (n,k)::r,acc,h=>by
  unfold aY at h
  by_cases hk:(k==I8)=true
  ·rw [if_pos hk] at h;have B:k = .free:=beq_iff_eq.mp hk;subst B
   cases F:cells.lookup n with
   | none =>
     rw [F] at h
     rcases dE h with z | ⟨j,q⟩
     ·exact .inl z
     ·exact .inr ⟨j,HF _ q⟩
   | some c' =>
     rw [F] at h
     rcases dE h with z | ⟨j,q⟩
     ·rcases Hg.mp z with e | z
      ·cases e
       exact .inr ⟨F,Ie⟩
      ·exact .inl z
     ·exact .inr ⟨j,HF _ q⟩
  ·rw [if_neg hk] at h
   rcases dE h with z | ⟨j,q⟩
   ·exact .inl z
   ·exact .inr ⟨j,HF _ q⟩
theorem dF {cells:List (Str×Addr)} {y:Str} {c:Addr} (j:cells.lookup y=some c):∀ {names:List (Str×Kq)} {acc:List (Str×Addr)},((y,c)∈acc∨(y,I8)∈names)->(y,c)∈aY cells names acc
 | [],acc,h=>by
  rcases h with h | h
  ·exact h
  ·simp at h
 | (n,k)::r,acc,h=>by
  unfold aY
  by_cases hk:(k==I8)=true
  ·rw [if_pos hk];have q:k = .free:=beq_iff_eq.mp hk;subst q
   cases hl:cells.lookup n with
   | none =>
     refine dF j ?_
     rcases h with h | h
     ·exact .inl h
     ·rcases Hg.mp h with e | h
      ·cases e;rw [hl] at j;cases j
      ·exact .inr h
   | some c' =>
     refine dF j ?_
     rcases h with h | h
     ·exact .inl (HF _ h)
     ·rcases Hg.mp h with e | h
      ·cases e;rw [hl] at j;cases j;exact .inl Ie
      ·exact .inr h
  ·rw [if_neg hk];refine dF j ?_
   rcases h with h | h
   ·exact .inl h
   ·rcases Hg.mp h with e | h
    ·cases e;exact absurd rfl hk
    ·exact .inr h
theorem dw:∀ (names:List (Str×Kq)) (n:Nat) (acc acc':List (Str×Addr)),JF n names (acc++acc')=JF n names acc++acc'
 | [],_,_,_=>rfl
 | (x,k)::r,n,acc,acc'=>by
  unfold JF
  by_cases j:(k==Jx)=true
  ·rw [if_pos j,if_pos j];exact dw r (n+1) ((x,n)::acc) acc'
  ·rw [if_neg j,if_neg j];exact dw r n acc acc'
theorem dy:∀ {names:List (Str×Kq)} {n:Nat} {acc:List (Str×Addr)} {y:Str} {c:Addr},(y,c)∈JF n names acc->(y,c)∈acc∨(n<=c/\(y,Jx)∈names)
 | [],_,_,_,_,h => .inl h
 | (x,k)::r,n,acc,y,c,h=>by
  unfold JF at h
  by_cases hk:(k==Jx)=true
  ·rw [if_pos hk] at h;have j:k = .cell:=beq_iff_eq.mp hk;subst j
   rcases dy h with z | ⟨q,B⟩
   ·rcases Hg.mp z with e | z
    ·cases e;exact .inr ⟨Hk _,Ie⟩
    ·exact .inl z
   ·exact .inr ⟨Nat.le_of_succ_le q,HF _ B⟩
  ·rw [if_neg hk] at h
   rcases dy h with z | ⟨q,B⟩
   ·exact .inl z
   ·exact .inr ⟨q,HF _ B⟩
structure bh (sc osc:Scope) (oN N':List Str) (fr:List (Option Nat)):Prop where
 kind:sc.kind = .function
 nd:(sc.names.map (·.1)).Nodup
 ndN:N'.Nodup
 free:∀ x∈sc.names,x.2 = .free->osc.names.lookup x.1=some .cell∨osc.names.lookup x.1=some .free
 len:fr.length=N'.length
 fr:∀ (i j:Nat) (x:Str),N'[i]? = some x->fr[i]? = some (some j)->oN[j]? = some x/\(x,I8)∈sc.names
noncomputable def inh (fr:List (Option Nat)) (σ:St):St:=fr.map fun o=>o.bind fun j=>(σ[j]?).join
noncomputable def bj (X:Cx) (sc:Scope) (L:Addr):Env :=
 { scope:=relabel sc X.env,locals:=L,globals:=X.env.globals,cells:=JF (L+1) sc.names (aY X.env.cells sc.names []),qual:=X.env.qual,func:=none,code:=X.env.code,frame:=X.env.frame,builtins:=X.env.builtins }
noncomputable def aM (X:Cx) (sc:Scope) (N':List Str) (s:z4) (H:Hp) (fp:List Addr):Cx :=
 { X with N:=N',s₀ := s,H₀ := H,env:=bj X sc s.heap.objs.size,outer:=X.stack,stack:=X.stack,ex:=fp,fn:=fun x=>sc.names.lookup x==some .cell,pn := [],xe:=fun _ _=>False }
theorem aW:∀ {l:List (Str×Kq)} {x:Str} {k:Kq},(l.map (·.1)).Nodup->(x,k)∈l->l.lookup x=some k
 | (y,k')::r,x,k,nd,h=>by
  have nd':(y::r.map (·.1)).Nodup:=nd;obtain ⟨q,z⟩:=Jm.mp nd';rw [JU]
  rcases Hg.mp h with e | hm
  ·cases e;simp
  ·have j:(x==y)=false:=by
    refine beq_eq_false_iff_ne.mpr fun e => ?_;subst e;exact q (Hu.mpr ⟨(x,k),hm,rfl⟩)
   rw [j];exact aW z hm
theorem cI {env:Env}:∀ {names:List (Str×Kq)} {x:Str},
 (names.map fun (n,k)=>if (k==I8&&env.scope.kind == .function&&env.kindOf n==some .cell) then (n,Jx) else (n,k)).lookup x =
   (names.lookup x).map fun k=>if (k==I8&&env.scope.kind == .function&&env.kindOf x==some .cell) then Jx else k
 | [],_=>rfl
 | (n,k)::r,x=>by
  have ih:=cI (env:=env) (names:=r) (x:=x);show List.lookup x ((if (k==I8&&env.scope.kind == .function&&env.kindOf n==some .cell)=true then (n,Jx) else (n,k))::_)=_
  rw [JU (a:=x) (b:=k)]
  by_cases hx:x=n
  ·subst hx;simp only [beq_self_eq_true];show _=some (if (k==I8&&env.scope.kind == .function&&env.kindOf x==some .cell)=true then Jx else k)
   by_cases j:(k==I8&&env.scope.kind == .function&&env.kindOf x==some .cell)=true
   ·rw [if_pos j,if_pos j,JU];simp only [beq_self_eq_true]
   ·rw [if_neg j,if_neg j,JU];simp only [beq_self_eq_true]
  ·have hb:(x==n)=false:=beq_eq_false_iff_ne.mpr hx;rw [hb]
   by_cases j:(k==I8&&env.scope.kind == .function&&env.kindOf n==some .cell)=true
   ·rw [if_pos j,JU,hb];exact ih
   ·rw [if_neg j,JU,hb];exact ih
section
variable {pins:List (Addr×Obj)} {σ:St} {H:Hp} {s:z4} {sc:Scope} {N':List Str} {fr:List (Option Nat)} {fp:List Addr}
theorem gd (I:Inv X pins σ H s) (B:bh sc X.env.scope X.N N' fr):∀ x∈sc.names,x.2 = .free->(X.env.cells.lookup x.1).isSome=true:=fun x hx e=>by
 obtain ⟨c,j⟩:=I.ok.has x.1 (B.free x hx e);rw [j];rfl
theorem uj (I:Inv X pins σ H s) (f2:∀ b∈fp,cj X pins H b) (U:∀ b∈fp,b < s.heap.objs.size) (B:bh sc X.env.scope X.N N' fr) :
 Inv (aM X sc N' s H fp) [] (inh fr σ) H { s with heap:=Qt (s.heap.push { cls := .type "dict",data := .dict #[] }) sc.names }:=by
 have G:∀ b o,s.heap.get? b=some o->(Qt (s.heap.push { cls := .type "dict",data := .dict #[] }) sc.names).get? b=some o:=fun b o e=>OD _ _ b o (hH _ e);have ok:=cellsFrom_ok sc.names (s.heap.push { cls := .type "dict",data := .dict #[] }) (s.heap.objs.size+1) [] ⟨fun _ _ hm=>(nomatch hm),NO⟩ (by rw [Io];exact Hk _)
 rw [Io] at ok;have capp:JF (s.heap.objs.size+1) sc.names (aY X.env.cells sc.names [])=JF (s.heap.objs.size+1) sc.names []++aY X.env.cells sc.names []:=dw sc.names _ [] _;have cof:∀ x c,(bj X sc s.heap.objs.size).cells.lookup x=some c->((x,c)∈JF (s.heap.objs.size+1) sc.names []/\s.heap.objs.size < c)∨(X.env.cells.lookup x=some c/\(x,I8)∈sc.names):=fun x c e=>by
  have m:=IX e;have m':(x,c)∈JF (s.heap.objs.size+1) sc.names (aY X.env.cells sc.names []):=m;rw [capp] at m'
  rcases Hy.mp m' with z | z
  ·exact .inl ⟨z,(ok.empty x c z).2⟩
  ·rcases dE z with q | q
   ·simp at q
   ·exact .inr q
 have cOld:∀ x c,X.env.cells.lookup x=some c->c < s.heap.objs.size:=fun x c e=>by
  obtain ⟨v,q⟩:=I.cell x c e;exact q.lt
 have kindF:∀ x,(x,I8)∈sc.names->(bj X sc s.heap.objs.size).kindOf x=some .cell∨(bj X sc s.heap.objs.size).kindOf x=some .free:=fun x hx=>by
  have e1:sc.names.lookup x=some .free:=aW B.nd hx;have e2:(bj X sc s.heap.objs.size).kindOf x=_:=cI (env:=X.env) (names:=sc.names) (x:=x);rw [e1] at e2;rw [e2]
  by_cases J:(I8==I8&&X.env.scope.kind == .function&&X.env.kindOf x==some .cell)=true
  ·exact .inl (by simp only [KL,if_pos J])
  ·exact .inr (by simp only [KL,if_neg J])
 have cellF:∀ x c,(x,I8)∈sc.names->X.env.cells.lookup x=some c->(bj X sc s.heap.objs.size).cells.lookup x=some c:=fun x c hx J=>by
  have m:=dF (acc := []) J (.inr hx);have m2:(x,c)∈(bj X sc s.heap.objs.size).cells:=by
   show (x,c)∈JF (s.heap.objs.size+1) sc.names (aY X.env.cells sc.names []);rw [capp];exact Hw _ m
  cases F:(bj X sc s.heap.objs.size).cells.lookup x with
  | none =>
    exfalso
    have:∀ {l:List (Str×Addr)},(x,c)∈l->l.lookup x=none->False:=by
     intro l
     induction l with
     | nil=>intro h;simp at h
     | cons a r ih =>
       intro h e;obtain ⟨y,d⟩:=a;rw [JU] at e
       rcases Hg.mp h with z | z
       ·cases z;simp at e
       ·by_cases hxy:(x==y)=true
        ·rw [hxy] at e;cases e
        ·simp only [Mr] at hxy;rw [hxy] at e;exact ih z e
    exact this m2 F
  | some c' =>
    rcases cof x c' F with ⟨z,_⟩ | ⟨z,_⟩
    ·rcases dy z with q | ⟨_,q⟩
     ·simp at q
     ·have a1:=aW B.nd hx;have a2:=aW B.nd q;rw [a1] at a2;cases a2
    ·rw [J] at z;rw [z]
 have kindC:∀ x,(bj X sc s.heap.objs.size).kindOf x=some .cell->(x,Jx)∈sc.names∨(x,I8)∈sc.names:=fun x e=>by
  have e2:(bj X sc s.heap.objs.size).kindOf x=_:=cI (env:=X.env) (names:=sc.names) (x:=x);rw [e2] at e
  cases F:sc.names.lookup x with
  | none=>rw [F] at e;cases e
  | some k =>
    rw [F] at e;have m:=IX F
    cases k with
    | cell=>exact .inl m
    | free=>exact .inr m
    | «local» => simp at e
    | globalImplicit=>simp at e
    | globalExplicit=>simp at e
 have kindFr:∀ x,(bj X sc s.heap.objs.size).kindOf x=some .free->(x,I8)∈sc.names:=fun x e=>by
  have e2:(bj X sc s.heap.objs.size).kindOf x=_:=cI (env:=X.env) (names:=sc.names) (x:=x);rw [e2] at e
  cases F:sc.names.lookup x with
  | none=>rw [F] at e;cases e
  | some k =>
    rw [F] at e;have m:=IX F
    cases k with
    | free=>exact m
    | cell=>simp at e
    | «local» => simp at e
    | globalImplicit=>simp at e
    | globalExplicit=>simp at e
 refine ⟨⟨I.ok.mod,B.kind,I.ok.glob,I.ok.blt,Hk _,fun y z c h1 h2 => ?_,fun y Y => ?_,fun y c hf h => ?_,I.ok.hd,I.ok.frames, .inl rfl,fun b hb=>⟨?_,fun x c e => ?_⟩,fun b o e=>I.bs b o e, ?_,fun b o e hb => ?_,fun b hb => ?_,I.stack,I.stkFree⟩,
  rfl,I.bare,Un.kept G,⟨_,(Heap.Ns.new s.heap (.type "dict")).keeps (OD _ _),fun i x v h1 h2 h3 => ?_⟩,fun y c h => ?_,I.hok.fresh (Hk _),fun y c h => ?_,fun p hp=>absurd (show p∈([]:List (Addr×Obj)) from hp) (by simp),I.hok.kept G, ?_⟩
 ·rcases cof y c h1 with ⟨a1,a2⟩ | ⟨a1,a2⟩
  ·rcases cof z c h2 with ⟨b1,b2⟩ | ⟨b1,b2⟩
   ·exact name_of_addr ok.apart a1 b1
   ·exact absurd (cOld z c b1) (Ra.mpr (L9 a2))
  ·rcases cof z c h2 with ⟨b1,b2⟩ | ⟨b1,b2⟩
   ·exact absurd (cOld y c a1) (Ra.mpr (L9 b2))
   ·exact I.ok.inj y z c a1 b1
 ·have EY:(y,Jx)∈sc.names∨(y,I8)∈sc.names:=by
   rcases Y with Y | Y
   ·exact kindC y Y
   ·exact .inr (kindFr y Y)
  rcases EY with q | q
  ·exact Kj.mp (LR sc.names _ _ (.inl (aW B.nd q)))
  ·obtain ⟨c,J⟩:=Kj.mp (gd I B _ q rfl);exact ⟨c,cellF y c q J⟩
 ·have EZ:(sc.names.lookup y==some .cell)=true:=hf;have Z:sc.names.lookup y=some .cell:=by simpa using EZ
  rcases cof y c h with ⟨_,a2⟩ | ⟨_,a2⟩
  ·exact L9 a2
  ·rw [aW B.nd a2] at Z;cases Z
 ·exact I0 (U b hb)
 ·rcases cof x c e with ⟨_,a2⟩ | ⟨a1,_⟩
  ·exact J1 (Nat.lt_trans (U b hb) a2)
  ·exact (f2 b hb).2.2.2.2.1 x c a1
 ·exact IH I.ok.bsz I.sz
 ·obtain ⟨f0,f1,f3,f4,f5,f6⟩:=f2 b hb
  rcases f4 with z | z
  ·exact I.ok.noex b o e z
  ·exact absurd (HW (HW (Hi e) I.ok.bsz) z) (IZ _)
 ·obtain ⟨f0,f1,f3,f4,f5,f6⟩:=f2 b hb;exact fun z=>(Hg.mp (I.stkSub b z)).elim f1 f3
 ·have hi:∃ j,fr[i]? = some (some j) /\ σ[j]? = some (some v):=by
   unfold inh at h2;rw [HC] at h2
   cases e:fr[i]? with
   | none=>rw [e] at h2;cases h2
   | some o =>
     rw [e] at h2
     cases o with
     | none=>cases h2
     | some j =>
       refine ⟨j,rfl, ?_⟩;have L:some ((σ[j]?).join)=some (some v):=h2
       cases e' : σ[j]? with
       | none=>rw [e'] at L;cases L
       | some w=>rw [e'] at L;cases L;rfl
  obtain ⟨j,e1,e2⟩:=hi;obtain ⟨n1,n2⟩:=B.fr i j x h1 e1;obtain ⟨m,hn,F⟩:=I.loc;have hv:Vis X.env.scope x := .inr (B.free (x, .free) n2 rfl);obtain ⟨u,ru,lk⟩:=F j x v n1 e2 hv;refine ⟨u,ru, .inr ⟨kindF x n2, ?_⟩⟩
  rcases lk with ⟨k1,_⟩ | ⟨_,c,J,O⟩
  ·have EX:X.env.scope.names.lookup x=some .local:=k1
   rcases B.free (x, .free) n2 rfl with z | z
   ·rw [EX] at z;cases z
   ·rw [EX] at z;cases z
  ·exact ⟨c,cellF x c n2 J,O.keeps G⟩
 ·rcases cof y c h with ⟨a1,a2⟩ | ⟨a1,a2⟩
  ·exact ⟨_,(ok.empty y c a1).1⟩
  ·obtain ⟨v,q⟩:=I.cell y c a1;exact ⟨v,q.keeps G⟩
 ·rcases cof y c h with ⟨a1,a2⟩ | ⟨a1,a2⟩
  ·exact I.hok.fresh (L9 a2)
  ·exact I.freeC y c a1
 ·show (inh fr σ).length=N'.length;unfold inh;rw [A0];exact B.len
theorem lu {σ':St} {H':Hp} {s':z4} {h':Heap} (I:Inv X pins σ H s) (f2:∀ b∈fp,cj X pins H b) (J:Inv (aM X sc N' s H fp) [] σ' H' s') (hs:IV s.heap.objs.size s'.heap h') :
 Inv X pins σ H' { s' with heap:=h' }:=by
 have u:Un (frs X.stack) fp H H' s.heap s'.heap:=J.base;have ne:∀ b o,s.heap.get? b=some o->b≠s.heap.objs.size:=fun b o e=>I0 (Hi e);refine I.call' (s' := { s' with heap:=h' }) (ch:=fp) J.os ⟨fun b o e n hb hx => ?_,fun b o e n hb hx => ?_,u.free,fun b o e hx => ?_,u.tups,u.frzs,u.tbls⟩ (fun b v e => ?_) J.bare fun b hb => ?_
 ·exact (hs.2 b (ne b o e)).trans (u.keep b o e n hb hx)
 ·obtain ⟨sl,q⟩:=u.slot b o e n hb hx;exact ⟨sl,(hs.2 b (ne b o e)).trans q⟩
 ·obtain ⟨o',q⟩:=u.there b o e hx;exact ⟨o',(hs.2 b (ne b o e)).trans q⟩
 ·refine (J.hok b v e).stay (fun c w B q=>(hs.2 c ?_).trans q) (fun _ q=>q) fun _ _ q=>q;have fr:H' s.heap.objs.size=none:=J.free
  rcases B with z | z
  ·rw [z];intro j;rw [j,fr] at e;cases e
  ·intro j;rw [j,fr] at z;cases z
 ·obtain ⟨f0,f1,L,f4,F,G⟩:=f2 b hb;exact ⟨f4,f1,F,G⟩
theorem mL {Q:Env->z4->Prop} {E:h6->z4->Prop} {M:MK} {A:Ik}
 (h:Q { scope:=sc,locals:=s.heap.objs.size,globals:=X.env.globals,cells:=JF (s.heap.objs.size+1) sc.names (aY X.env.cells sc.names []),qual:=X.env.qual,func:=none,code:=X.env.code,frame:=X.env.frame,builtins:=X.env.builtins }
   { s with heap:=Qt (s.heap.push { cls := .type "dict",data := .dict #[] }) sc.names }) :
 Hm M A (OT sc X.env.globals (aY X.env.cells sc.names []) [] X.env.qual none .none (some X.env)) Q E s:=by
 simp only [OT,PV,if_true];refine gV (wpAny_alloc ?_);refine gV (wpAny_layCells _ (fun name kind cells=>by cases hkc:kind==Jx <;> simp [hkc]) _ _ _ _ ?_)
 rw [show ({ s with heap:=s.heap.push { cls := .type "dict",data := .dict #[] } }:z4).heap.objs.size=s.heap.objs.size+1 from Io ..]
 exact gV (q7 (q7 h))
theorem ny (hc:X.calm=true) {elt target iter:Expr} {ifs:List Expr} {rest:List Iw} {pos:Pos} {E:h6->z4->Prop}
 (hx:∀ e s,X.xe e s->False) (B:bh sc X.env.scope X.N N' fr) (ha:∀ g',rest[0]? = some g'->g'.is_async=0) {wi:TI} (hi:PI X target iter wi) {g:TG} {tb:Addr->TC}
 (hg:∀ s H fp,PG (aM X sc N' s H fp) target g)
 (hb:∀ s H fp p,PB (aM X sc N' s H fp) (fun k=>br ifs (aM X sc N' s H fp).env >>= fun ok=>if ok=true then bg elt (⟨target,iter,ifs,0⟩::rest) sc pos 0 (.ref p) (aM X sc N' s H fp).env k else k) (tb p))
 {Nn:Addr->St->Hp->Prop} {RR:h6->Addr->Result->z4->Prop} (I:Inv X pins σ H s)
 (h:wi σ H fun J H1 => ∀ p,H1 p=none->cH J g (tb p) (Nn p) (inh fr σ) (upd H1 p (.lst [])))
 (hR:∀ p fp s3 G s' σ' H' f,Inv X pins σ G s3->(∀ b∈fp,cj X pins G b)->Inv (aM X sc N' s3 G fp) [] σ' H' s'->Nn p σ' H'->RR (.ref p) s3.heap.objs.size (.ok f) s') :
 Hm (model X.prog X.w) X.A (eval iter X.env) (fun x s₁ => Hm (model X.prog X.w) X.A (PH x) (fun it s₂ => Hm (model X.prog X.w) X.A (newList []) (fun acc s₃ =>
  Hm (model X.prog X.w) X.A (OT sc X.env.globals (aY X.env.cells sc.names []) [] X.env.qual none .none (some X.env)) (fun cenv s₄ =>
   MA (model X.prog X.w) X.A (.compStart (.ListComp elt (⟨target,iter,ifs,0⟩::rest) sc pos) 0 it acc { cenv with scope:=relabel sc X.env }) (RR acc cenv.locals) s₄) E s₃) E s₂) E s₁) E s:=by
 refine nox hx (thn (hi pins s σ H _ I h) fun v s1 h1=>nox hx (thn h1 fun itv s2 h2 => ?_));obtain ⟨it,fp,tn,J,H2,e,Y,T,j,f2,hw⟩:=h2;subst e;have hf:H2 s2.heap.objs.size=none:=Y.hok.fresh (Hk _);refine NU ?_;have Z:Inv X pins σ (upd H2 s2.heap.objs.size (.lst [])) { s2 with heap:=s2.heap.push { cls := .type "list",dict:=none,data := .seq ([]:List h6).toArray } } :=
  Y.laid (t':=s2.toks) (fun b u e=>hH _ e) (Hk _) ⟨J9 _,[],0, .nil,D1 _ rfl⟩
 have fneq:∀ b∈fp,b≠s2.heap.objs.size:=fun b hb z=>by
  obtain ⟨o,e,_⟩:=T.obj _ _ j b hb;exact absurd (Hi e) (by rw [z];exact IZ _)
 have L:∀ b∈fp,cj X pins (upd H2 s2.heap.objs.size (.lst [])) b:=fun b hb=>⟨by rw [ak (fneq b hb)];exact (f2 b hb).1,(f2 b hb).2⟩
 have O:∀ b∈fp,b < (s2.heap.push { cls := .type "list",dict:=none,data := .seq ([]:List h6).toArray }).objs.size:=fun b hb=>by
  obtain ⟨o,e,_⟩:=T.obj _ _ j b hb;rw [Io];exact Nat.lt_succ_of_lt (Hi e)
 have U:tn 0 (s2.heap.push { cls := .type "list",dict:=none,data := .seq ([]:List h6).toArray }):=T.keep _ _ _ j fun b _ o e=>hH _ e;refine mL ?_;have F:=uj (N':=N') Z L O B;have q:=T.keep _ (h':=Qt (({ s2 with heap:=s2.heap.push { cls := .type "list",dict:=none,data := .seq ([]:List h6).toArray } }:z4).heap.push { cls := .type "dict",data := .dict #[] }) sc.names) _ U fun b _ o e=>OD _ _ b o (hH _ e)
 have f4:∀ b∈fp,cj (aM X sc N' { s2 with heap:=s2.heap.push { cls := .type "list",dict:=none,data := .seq ([]:List h6).toArray } } (upd H2 s2.heap.objs.size (.lst [])) fp) [] (upd H2 s2.heap.objs.size (.lst [])) b:=fun b hb =>
  ⟨(L b hb).1,(F.ok.exf b hb).1,F.ok.exfs b hb, .inl hb,(F.ok.exf b hb).2,fun p hp=>absurd (show p∈([]:List (Addr×Obj)) from hp) (by simp)⟩
 have loop:=lp (X:=aM X sc N' { s2 with heap:=s2.heap.push { cls := .type "list",dict:=none,data := .seq ([]:List h6).toArray } } (upd H2 s2.heap.objs.size (.lst [])) fp) (fun _ _ z=>z) hc
  (elt:=elt) (pos:=pos) (scope:=sc) (gens:=⟨target,iter,ifs,0⟩::rest) (d := 0) (acc := .ref s2.heap.objs.size) rfl (fun g' e=>ha g' (by simpa using e)) (hg _ _ _) (hb _ _ _ _) F T q f4 (hw _ hf)
 refine LQ (jf (R:=fun r s'=>match r with | .ok _ => ∃ σ' H',Inv (aM X sc N' { s2 with heap:=s2.heap.push { cls := .type "list",dict:=none,data := .seq ([]:List h6).toArray } } (upd H2 s2.heap.objs.size (.lst [])) fp) [] σ' H' s'/\Nn s2.heap.objs.size σ' H' | .error _=>False)
  (gens:=⟨target,iter,ifs,0⟩::rest) (d := 0) rfl loop (T.self _ 0 _ _ _ q loop)) fun r s5 hr => ?_
 cases r with
 | error e=>exact hr.elim
 | ok f =>
   obtain ⟨σ5,H5,I5,n5⟩:=hr;exact hR _ fp _ _ s5 σ5 H5 f Z L I5 n5
noncomputable def sg (wi:TI) (g:TG) (tb:Addr->TC) (fr:List (Option Nat)):TE:=fun σ H Q=>wi σ H fun J H1 => ∀ p,H1 p=none->cH J g (tb p) (fun _ H2=>Q (.ref p) H2) (inh fr σ) (upd H1 p (.lst []))
theorem lw (B:bh sc X.env.scope X.N N' fr):∀ x∈sc.names,x.2 = .local->sc.names.lookup x.1=some .local:=fun x hx e=>by
 obtain ⟨n,k⟩:=x;have e':k = .local:=e;subst e';exact aW B.nd hx
theorem ik (z:X.calm=true) {elt target iter:Expr} {ifs:List Expr} {rest:List Iw} {pos:Pos}
 (hx:∀ e s,X.xe e s->False) (B:bh sc X.env.scope X.N N' fr) (F:∀ g',rest[0]? = some g'->g'.is_async=0) {wi:TI} (hi:PI X target iter wi) {g:TG} {tb:Addr->TC}
 (G:∀ s H fp,PG (aM X sc N' s H fp) target g)
 (hb:∀ s H fp p,PB (aM X sc N' s H fp) (fun k=>br ifs (aM X sc N' s H fp).env >>= fun ok=>if ok=true then bg elt (⟨target,iter,ifs,0⟩::rest) sc pos 0 (.ref p) (aM X sc N' s H fp).env k else k) (tb p))
 (hs:∀ x,JE iter X.env x=pure x) :
 PE X (.ListComp elt (⟨target,iter,ifs,0⟩::rest) sc pos) (sg wi g tb fr):=by
 intro pins s σ H Q I h;rw [eval_ListComp];refine NV (use:=none) rfl hs (jg (gd I B)) B.kind (lw B) (ny (Nn:=fun p _ H2=>Q (.ref p) H2) (RR:=fun acc C=>compPost (model X.prog X.w) X.A X.xe none (EP X pins σ Q) acc C) z hx B F hi G hb I h ?_);intro p fp s3 U s' σ' H' f L O J q;obtain ⟨m,hn,_⟩:=J.loc;exact ⟨m,hn,fun h' j=>⟨.ref p,H',lu L O J j,rfl,q⟩⟩
theorem jh (hc:X.calm=true) {elt target iter:Expr} {ifs:List Expr} {rest:List Iw} {pos pos' spos:Pos} {x:Str} {i:Nat}
 (hx:∀ e s,X.xe e s->False) (B:bh sc X.env.scope X.N N' fr) (ha:∀ g',rest[0]? = some g'->g'.is_async=0) {wi:TI} (hi:PI X target iter wi) {g:TG} {tb:Addr->TC}
 (hg:∀ s H fp,PG (aM X sc N' s H fp) target g)
 (hb:∀ s H fp p,PB (aM X sc N' s H fp) (fun k=>br ifs (aM X sc N' s H fp).env >>= fun ok=>if ok=true then bg elt (⟨target,iter,ifs,0⟩::rest) sc pos 0 (.ref p) (aM X sc N' s H fp).env k else k) (tb p))
 (hs:∀ x,JE iter X.env x=pure x) (F:PG X (.Name x pos') (j5 i))
 (G:LB (.ListComp elt (⟨target,iter,ifs,0⟩::rest) sc pos) (some (.Name x pos')) spos.line X.env=pure true) :
 PS X (.Assign [.Name x pos'] (.ListComp elt (⟨target,iter,ifs,0⟩::rest) sc pos) spos) (rQ (sg wi g tb fr) (j5 i)):=by
 intro pins s σ H D I h;rw [exec_Assign_Name_used _ _ _ _ G];refine gV (Ki (gV ?_));show Hm _ X.A (do let _ <- comprehension (.ListComp elt (⟨target,iter,ifs,0⟩::rest) sc pos) sc X.env _ (newList []) false (eval iter X.env) (some (assign (.Name x pos') X.env))) _ _ s
 refine gV (Jr (NV (use:=some (assign (.Name x pos') X.env)) (Q:=fun _ s'=>SP X pins D .next s') rfl hs (jg (gd I B)) B.kind (lw B)
  (ny (Nn:=fun p _ H2=>D.nx (σ.set i (some (.ref p))) H2) (RR:=fun acc C=>compPost (model X.prog X.w) X.A X.xe (some (assign (.Name x pos') X.env)) (fun _ s'=>SP X pins D .next s') acc C) hc hx B ha hi hg hb I h ?_)) (fun _ s' hq=>q7 (q7 hq)) fun _ _ e=>e)
 intro p fp s3 H3 s' σ' H' f j f3 J q;obtain ⟨m,⟨o,es,ep,ho,hd,hk,hm⟩,_⟩:=J.loc;have I4:Inv X pins σ H' s':=lu (h':=s'.heap) j f3 J ⟨rfl,fun _ _=>rfl⟩;have hL:(aM X sc N' s3 H3 fp).env.locals=s3.heap.objs.size:=rfl;rw [hL] at ho;have L:H' s3.heap.objs.size=none:=J.free;have neL:s3.heap.objs.size≠X.env.locals:=J1 j.lt;have nfs:s3.heap.objs.size∉X.fs:=j.nofs (Hk _);have I5:Inv X (pins++[(s3.heap.objs.size,o)]) σ H' s':=I4.pins_of fun pr O=>by
  rcases Hy.mp O with z | z
  ·exact I4.pin pr (Hw _ z)
  ·have e:pr=(s3.heap.objs.size,o):=by simpa using z
   subst e;exact ⟨ho,L,neL,nfs,fun v z=>by rw [hd] at z;cases z⟩
 show Hm _ X.A (assign (.Name x pos') X.env (.ref p)) _ _ _;refine thn (F _ s' σ H' (.ref p) (.ref p) D.nx I5 rfl q) fun _ s6 ⟨σ6,H6,I6,q6⟩ => ?_;obtain ⟨U,Y,_⟩:=I6.pin (s3.heap.objs.size,o) (Hw _ (Hw _ (by simp)))
 refine ⟨m,⟨o,es,ep,U,hd,hk,hm⟩,fun h' Z=>⟨σ6,H6, ?_,q6⟩⟩;refine (I6.unpinned).turned (t':=s6.toks) (it:=s3.heap.objs.size) (fun b o hb e=>(Z.2 b hb).trans e) Y neL (.inr j.sz) (fun y c e z => ?_) fun pr O z => ?_
 ·obtain ⟨v,q⟩:=j.cell y c e;exact absurd q.lt (by rw [z];exact IZ _)
 ·exact absurd (Hi (j.pin pr O).1) (by rw [z];exact IZ _)
end
end
end
end L2
namespace L2
namespace Zp
open PySem PySem.Spec PyProof.Rows
def At (t:Bool) (h:Heap) (i l:Addr) (k:Nat):Prop:=match t with | true=>h.IsTupleIter i l k | false=>h.IsListIter i l k
def Sq (t:Bool) (h:Heap) (l:Addr) (xs:Array h6):Prop:=match t with | true=>h.IsTuple l xs | false=>h.IsList l xs
theorem At.up {t:Bool} {h h':Heap} {i l:Addr} {k:Nat} (x:At t h i l k) (e:∀ o,h.get? i=some o->h'.get? i=some o):At t h' i l k:=by
 cases t <;> (obtain ⟨o,ho,r⟩:=x;exact ⟨o,e o ho,r⟩)
theorem Sq.up {t:Bool} {h h':Heap} {l:Addr} {xs:Array h6} (x:Sq t h l xs) (e:∀ o,h.get? l=some o->h'.get? l=some o):Sq t h' l xs:=by
 cases t <;> (obtain ⟨o,ho,r⟩:=x;exact ⟨o,e o ho,r⟩)
theorem At.lt {t:Bool} {h:Heap} {i l:Addr} {k:Nat} (x:At t h i l k):∃ o,h.get? i=some o /\ ∀ v,o.data ≠ .cell v:=by
 cases t <;> (obtain ⟨o,ho,j,hd⟩:=x;exact ⟨o,ho,fun v z=>by rw [hd] at z;cases z⟩)
section
variable {prog:HI} {w:Ic} {A:Ik} {E:h6->z4->Prop} {s:z4}
open Builtin.SmallTypes in
theorem xh {i l:Addr} {k:Nat} {xs:Array h6} {x:h6} {Q:h6->z4->Prop} (hi:s.heap.IsTupleIter i l k) (L:s.heap.IsTuple l xs) (hx:xs[k]? = some x)
 (q:∀ h',h'.IsTupleIter i l (k+1)->IV i s.heap h'->Q x { s with heap:=h' }):Hm (model prog w) A (nextOf (.ref i)) Q E s:=by
 obtain ⟨ob,z,B,j⟩:=id hi;obtain ⟨oq,G,_,nq,J⟩:=L;unfold nextOf;refine gV (HZ (name:=Iq "__next__") hi.typeIs JZ (Ig JZ hi.typeIs N9 ?_ (MX _)));refine gV (m:=field (.ref i) 0) (HU z j (x := .ref l) rfl ?_);refine (if_neg (c:=(Ii l==Kg)=true) He) ▸ ?_;refine gV (m:=field (.ref i) 1) (HU z j (x := .int k 0) rfl ?_);refine gV (m:=seqItems? (.ref l)) (Il G J ?_);simp only [HA,hx];refine gV (wpAny_setField z j (by simp) (q7 ⟨x,rfl,q7 (q _ ⟨_,Ml _ z (Obj.isFreed_of_fields (PX j _)),(Obj.cls_mapFields ..).trans B, ?_⟩ (N7 ..))⟩))
 rw [PX j];simp [LM]
open Builtin.SmallTypes in
theorem A8 {i l:Addr} {k:Nat} {xs:Array h6} {Q:h6->z4->Prop} (hn:A.handled=none) (hi:s.heap.IsTupleIter i l k) (J:s.heap.IsTuple l xs) (hx:xs[k]? = none)
 (q:∀ h' e,QL i s.heap h'->(∃ o,h'.get? e=some o/\o.cls = .type "StopIteration")->E (.ref e) { s with heap:=h' }):Hm (model prog w) A (nextOf (.ref i)) Q E s:=by
 obtain ⟨ob,j,L,z⟩:=id hi;obtain ⟨oq,B,_,nq,G⟩:=J;unfold nextOf;refine gV (HZ (name:=Iq "__next__") hi.typeIs JZ (Ig JZ hi.typeIs N9 ?_ (MX _)));refine gV (m:=field (.ref i) 0) (HU j z (x := .ref l) rfl ?_);refine (if_neg (c:=(Ii l==Kg)=true) He) ▸ ?_;refine gV (m:=field (.ref i) 1) (HU j z (x := .int k 0) rfl ?_);refine gV (m:=seqItems? (.ref l)) (Il B G ?_);simp only [HA,hx];refine gV (IT (gV (wpAny_setField j z (by simp) ?_)))
 refine gV (m:=newExc (.type "StopIteration") []) ?_;simp only [newExc,newTuple];refine gV (IQ ?_ (by size_fits))
 refine gV (m:=Nr _ _) (Ku (a:=Kg) (by first | rfl | (simp only [Nr];rfl)) (IQ ?_ (by size_fits)))
 simp only [raiseNew];refine gV (wpAny_handled ?_)
 first | rw [show A.in1.handled=none from hn] | rw [hn]
 exact gV (q7 (QM (q _ _ (((N7 ..).extBut.push _).push _) ⟨_,D1 _ rfl,rfl⟩)))
open Builtin.SmallTypes in
theorem nx_item {t:Bool} {i l:Addr} {k:Nat} {xs:Array h6} {x:h6} {Q:h6->z4->Prop} (hi:At t s.heap i l k) (j:Sq t s.heap l xs) (hx:xs[k]? = some x)
 (q:∀ h',At t h' i l (k+1)->IV i s.heap h'->Q x { s with heap:=h' }):Hm (model prog w) A (nextOf (.ref i)) Q E s:=by
 cases t with
 | true=>exact xh hi j hx q
 | false=>exact wpAny_nextOf_list_item hi j hx q
open Builtin.SmallTypes in
theorem nx_end {t:Bool} {i l:Addr} {k:Nat} {xs:Array h6} {Q:h6->z4->Prop} (hn:A.handled=none) (hi:At t s.heap i l k) (j:Sq t s.heap l xs) (hx:xs[k]? = none)
 (q:∀ h' e,QL i s.heap h'->(∃ o,h'.get? e=some o/\o.cls = .type "StopIteration")->E (.ref e) { s with heap:=h' }):Hm (model prog w) A (nextOf (.ref i)) Q E s:=by
 cases t with
 | true=>exact A8 hn hi j hx q
 | false=>exact wpAny_nextOf_list_end hn hi j hx q
open Builtin.SmallTypes in
theorem Ck {z T O i j a b:Addr} {t u:Bool} {k:Nat} {xs ys:Array h6} {x y p r:h6} {Q:h6->z4->Prop} (D:OU z T O i j a b)
 (G:L5 s.heap z T O .none) (hT:Km s.heap T (.ref i) (.ref j)) (hO:Km s.heap O p r)
 (hi:At t s.heap i a k) (hj:At u s.heap j b k) (ha:Sq t s.heap a xs) (hb:Sq u s.heap b ys) (hx:xs[k]? = some x) (hy:ys[k]? = some y)
 (q:∀ h',L5 h' z T O (LM s.heap.objs.size)->Km h' O x y->At t h' i a (k+1)->At u h' j b (k+1)->Km h' s.heap.objs.size x y ->
   (∀ c o,c≠z->c≠O->c≠i->c≠j->s.heap.get? c=some o->h'.get? c=some o)->Q (.ref s.heap.objs.size) { s with heap:=h' }) :
 Hm (model prog w) A (Jy.«zip.__next__» ⟨[.ref z],[]⟩) (fun fin s' => ∃ v,fin = .done (.ret v)/\Q v s') E s:=by
 refine gV (m:=field (.ref z) 2) (HU G rfl (x := .bool false) rfl ?_);refine gV (m:=field (.ref z) 3) (HU G rfl (x := .ref T) rfl ?_);refine gV (Il hT rfl ?_);refine gV (m:=ownedTupleIsFree (.ref z)) ?_;unfold ownedTupleIsFree;refine gV (HU G rfl (x := .none) rfl (q7 ?_));simp only [if_true];refine gV (IT (gV (HU G rfl (x := .ref O) rfl (gV (HP G (by simp) fun g1 z1 s1 => ?_)))))
 have Z1:L5 g1 z T O .ellipsis:=z1;clear z1;refine gV ?_;simp only [La,MY,JI,LW];refine gV (gV (Jz (gV (m:=nextOf (.ref i)) ?_)));refine nx_item (hi.up fun o e=>s1.extBut _ o D.i1z e) (ha.up fun o e=>s1.extBut _ o D.l1z e) hx fun g2 U s2=>q7 ?_;have O2:Km g2 O p r:=s2.extBut _ _ D.TOi1 (s1.extBut _ _ D.TOz hO);refine gV (Il O2 rfl (gV (MP O2 fun g3 o3 s3 => ?_)));have O3:Km g3 O x r:=o3;clear o3;refine gV (Kv (q7 (gV (gV (Jz (gV (m:=nextOf (.ref j)) ?_))))));refine nx_item (hj.up fun o e=>s3.extBut _ o D.TOi2.symm (s2.extBut _ o D.i12.symm (s1.extBut _ o D.i2z e))) (hb.up fun o e=>s3.extBut _ o D.l2TO (s2.extBut _ o D.l2i1 (s1.extBut _ o D.l2z e))) hy fun g4 Y s4=>q7 ?_;have O4:Km g4 O x r:=s4.extBut _ _ D.TOi2 O3;refine gV (Il O4 rfl (gV (MP O4 fun B o5 s5 => ?_)));have O5:Km B O x y:=o5;clear o5;refine gV (Kv (q7 (q7 (gV (Il O5 rfl (gV (Nt ?_)))))));have sz:B.objs.size=s.heap.objs.size:=by rw [s5.1,s4.1,s3.1,s2.1,s1.1]
 have k5:∀ c o,c≠z->c≠O->c≠i->c≠j->s.heap.get? c=some o->B.get? c=some o:=fun c o F J Z c4 e =>
  s5.extBut _ _ J (s4.extBut _ _ c4 (s3.extBut _ _ J (s2.extBut _ _ Z (s1.extBut _ _ F e))))
 have Z5:L5 B z T O .ellipsis:=s5.extBut _ _ D.TOz.symm (s4.extBut _ _ D.i2z.symm (s3.extBut _ _ D.TOz.symm (s2.extBut _ _ D.i1z.symm Z1)));have I5:At t B i a (k+1):=U.up fun o e=>s5.extBut _ o D.TOi1.symm (s4.extBut _ o D.i12 (s3.extBut _ o D.TOi1.symm e));have J5:At u B j b (k+1):=Y.up fun o e=>s5.extBut _ o D.TOi2.symm e;have zl:z < B.objs.size:=Hi Z5;refine gV (m:=ownedTupleHandOut (.ref z) (.ref B.objs.size)) ?_;unfold ownedTupleHandOut;refine gV (HP (hH _ Z5) (by simp) fun g7 z7 s7 => ?_)
 have Z7:L5 g7 z T O (LM B.objs.size):=z7;clear z7;refine HP Z7 (by simp) fun L z8 s8 => ?_
 have Z8:L5 L z T O (LM B.objs.size):=z8;clear z8;have up:∀ c o,c≠z->B.get? c=some o->L.get? c=some o:=fun c o F e=>s8.extBut _ _ F (s7.extBut _ _ F (hH _ e));have P8:Km L B.objs.size x y:=s8.extBut _ _ (J1 zl) (s7.extBut _ _ (J1 zl) (D1 _ rfl));rw [sz] at Z8 P8;refine q7 ⟨_,rfl, ?_⟩;show Q (.ref B.objs.size) _;rw [sz];exact q L Z8 (up _ _ D.TOz O5) (I5.up fun o e=>up _ o D.i1z e) (J5.up fun o e=>up _ o D.i2z e) P8 fun c o F J Z c4 e=>up c o F (k5 c o F J Z c4 e)
open Builtin.SmallTypes in
theorem DS {z T O i j a b:Addr} {t u:Bool} {k:Nat} {xs ys:Array h6} {p r:h6} {Q:Fin->z4->Prop} (hn:A.handled=none) (D:OU z T O i j a b)
 (G:L5 s.heap z T O .none) (hT:Km s.heap T (.ref i) (.ref j)) (hO:Km s.heap O p r)
 (hi:At t s.heap i a k) (hj:At u s.heap j b k) (ha:Sq t s.heap a xs) (hb:Sq u s.heap b ys) (J:xs[k]? = none∨ys[k]? = none)
 (q:∀ h' e,(∀ c o,c≠z->c≠O->c≠i->c≠j->s.heap.get? c=some o->h'.get? c=some o)->(∃ o,h'.get? e=some o/\o.cls = .type "StopIteration")->E (.ref e) { s with heap:=h' }) :
 Hm (model prog w) A (Jy.«zip.__next__» ⟨[.ref z],[]⟩) Q E s:=by
 refine gV (m:=field (.ref z) 2) (HU G rfl (x := .bool false) rfl ?_);refine gV (m:=field (.ref z) 3) (HU G rfl (x := .ref T) rfl ?_);refine gV (Il hT rfl ?_);refine gV (m:=ownedTupleIsFree (.ref z)) ?_;unfold ownedTupleIsFree;refine gV (HU G rfl (x := .none) rfl (q7 ?_));simp only [if_true];refine gV (IT (gV (HU G rfl (x := .ref O) rfl (gV (HP G (by simp) fun g1 z1 s1 => ?_)))))
 have Z1:L5 g1 z T O .ellipsis:=z1;clear z1;refine gV ?_;simp only [La,MY,JI,LW];refine gV (gV (Jz (gV (m:=nextOf (.ref i)) ?_)));have L:At t g1 i a k:=hi.up fun o e=>s1.extBut _ o D.i1z e;have U:Sq t g1 a xs:=ha.up fun o e=>s1.extBut _ o D.l1z e
 cases hx:xs[k]? with
 | none =>
   refine nx_end hn L U hx fun g2 e s2 he => ?_;obtain ⟨oe,B,F⟩:=he;have Z2:L5 g2 z T O .ellipsis:=s2 _ _ D.i1z.symm Z1;have ez:e≠z:=fun x=>by subst x;rw [Z2] at B;cases B;simp at F
   exact HP Z2 (by simp) fun g3 _ s3=>q g3 e (fun c o Y _ Z _ x=>s3.extBut _ _ Y (s2 _ _ Z (s1.extBut _ _ Y x))) ⟨oe,s3.extBut _ _ ez B,F⟩
 | some x =>
   have hy:ys[k]? = none:=J.elim (fun z=>by rw [hx] at z;cases z) id
   refine nx_item L U hx fun g2 EX s2=>q7 ?_;have O2:Km g2 O p r:=s2.extBut _ _ D.TOi1 (s1.extBut _ _ D.TOz hO);refine gV (Il O2 rfl (gV (MP O2 fun g3 o3 s3 => ?_)));refine gV (Kv (q7 (gV (gV (Jz (gV (m:=nextOf (.ref j)) ?_))))));refine nx_end hn (hj.up fun o e=>s3.extBut _ o D.TOi2.symm (s2.extBut _ o D.i12.symm (s1.extBut _ o D.i2z e))) (hb.up fun o e=>s3.extBut _ o D.l2TO (s2.extBut _ o D.l2i1 (s1.extBut _ o D.l2z e))) hy fun g4 e s4 he => ?_;obtain ⟨oe,B,F⟩:=he;have Z4:L5 g4 z T O .ellipsis:=s4 _ _ D.i2z.symm (s3.extBut _ _ D.TOz.symm (s2.extBut _ _ D.i1z.symm Z1));have ez:e≠z:=fun x=>by subst x;rw [Z4] at B;cases B;simp at F
   exact HP Z4 (by simp) fun g5 _ s5=>q g5 e (fun c o Y c2 Z c4 x=>s5.extBut _ _ Y (s4 _ _ c4 (s3.extBut _ _ c2 (s2.extBut _ _ Z (s1.extBut _ _ Y x))))) ⟨oe,s5.extBut _ _ ez B,F⟩
theorem nxt_item {z T O i j a b:Addr} {t u:Bool} {k:Nat} {xs ys:Array h6} {x y p r:h6} {Q:Option h6->z4->Prop} (D:OU z T O i j a b)
 (B:L5 s.heap z T O .none) (G:Km s.heap T (.ref i) (.ref j)) (J:Km s.heap O p r)
 (hi:At t s.heap i a k) (L:At u s.heap j b k) (U:Sq t s.heap a xs) (hb:Sq u s.heap b ys) (hx:xs[k]? = some x) (Y:ys[k]? = some y)
 (q:∀ h',L5 h' z T O (LM s.heap.objs.size)->Km h' O x y->At t h' i a (k+1)->At u h' j b (k+1)->Km h' s.heap.objs.size x y ->
   (∀ c o,c≠z->c≠O->c≠i->c≠j->s.heap.get? c=some o->h'.get? c=some o)->Q (some (.ref s.heap.objs.size)) { s with heap:=h' }) :
 Hm (model prog w) A (KR (.ref z)) Q E s:=by
 have ty:s.TypeIs (.ref z) "zip" := ⟨_,B,rfl⟩;unfold KR;exact gV (JA (HZ (name:=Iq "__next__") ty JJ (Ig JJ ty Ms
  (Ck D B G J hi L U hb hx Y fun h' a1 a2 Z a4 a5 a6=>q7 (q h' a1 a2 Z a4 a5 a6)) (LX _))))
theorem nxt_end {z T O i j a b:Addr} {t u:Bool} {k:Nat} {xs ys:Array h6} {p r:h6} {Q:Option h6->z4->Prop} (hn:A.handled=none) (D:OU z T O i j a b)
 (G:L5 s.heap z T O .none) (J:Km s.heap T (.ref i) (.ref j)) (L:Km s.heap O p r)
 (hi:At t s.heap i a k) (U:At u s.heap j b k) (Y:Sq t s.heap a xs) (hb:Sq u s.heap b ys) (B:xs[k]? = none∨ys[k]? = none)
 (q:∀ h',(∀ c o,c≠z->c≠O->c≠i->c≠j->s.heap.get? c=some o->h'.get? c=some o)->Q none { s with heap:=h' }):Hm (model prog w) A (KR (.ref z)) Q E s:=by
 have ty:s.TypeIs (.ref z) "zip" := ⟨_,G,rfl⟩;unfold KR;refine gV (JA (HZ (name:=Iq "__next__") ty JJ (Ig JJ ty Ms
  (DS hn D G J L hi U Y hb B fun h' e Z he => ?_) (LX _))))
 obtain ⟨o,ho,hc⟩:=he;exact gV (Jt (T := "StopIteration") (b:=true) ⟨o,ho,hc⟩ Nu (q7 (q _ Z)))
noncomputable def itO (t:Bool) (l:Addr):Obj:=match t with | true => { cls := .type "tuple_iterator",data := .fields #[.ref l, .int 0 0] } | false => { cls := .type "list_iterator",data := .fields #[.ref l, .int 0 0] }
noncomputable def zH1 (h:Heap) (t:Bool) (a:Addr):Heap:=h.push (itO t a)
noncomputable def zH2 (h:Heap) (t u:Bool) (a b:Addr):Heap:=(zH1 h t a).push (itO u b)
noncomputable def zH3 (h:Heap) (t u:Bool) (a b:Addr):Heap:=(zH2 h t u a b).push { cls := .type "tuple",data := .seq #[.ref h.objs.size, .ref (zH1 h t a).objs.size] }
noncomputable def zH4 (h:Heap) (t u:Bool) (a b:Addr):Heap:=(zH3 h t u a b).push { cls := .type "tuple",data := .seq #[.none, .none] }
noncomputable def zH5 (h:Heap) (t u:Bool) (a b:Addr):Heap:=(zH4 h t u a b).push { cls := .type "zip",data := .fields #[.none, .bool false, .bool false, .ref (zH2 h t u a b).objs.size, .ref (zH3 h t u a b).objs.size] }
theorem uk (t u:Bool) (a b:Addr) (xs ys:Array h6) :
 Meets (Jy.«zip.__new__» ⟨[.type "zip", .ref a, .ref b],[]⟩) (fun _ R s=>Sq t s.heap a xs/\Sq u s.heap b ys/\R (.ok (.ret (.ref (zH4 s.heap t u a b).objs.size))) { s with heap:=zH5 s.heap t u a b }) :=
 .of_wp fun prog w A R s h=>by
  obtain ⟨j,g,d,tk,os⟩:=s;obtain ⟨q,hb,h⟩:=h;have hs:=sub_zip
  cases t <;> cases u
  ·have e1:NP (JB ⟨j,g,d,tk,os⟩) a xs:=q;have e2:NP (JB ⟨j.push { cls := .type "list_iterator",data := .fields #[.ref a, .int 0 0] },g,d,tk,os⟩) b ys:=O8 hb _
   wp_walk using Jb e1,Jb e2
   exact ⟨_,rfl,h⟩
  ·have e1:NP (JB ⟨j,g,d,tk,os⟩) a xs:=q;have e2:Lb (JB ⟨j.push { cls := .type "list_iterator",data := .fields #[.ref a, .int 0 0] },g,d,tk,os⟩) b ys:=LY hb _
   wp_walk using Jb e1,II e2
   exact ⟨_,rfl,h⟩
  ·have e1:Lb (JB ⟨j,g,d,tk,os⟩) a xs:=q;have e2:NP (JB ⟨j.push { cls := .type "tuple_iterator",data := .fields #[.ref a, .int 0 0] },g,d,tk,os⟩) b ys:=O8 hb _
   wp_walk using II e1,Jb e2
   exact ⟨_,rfl,h⟩
  ·have e1:Lb (JB ⟨j,g,d,tk,os⟩) a xs:=q;have e2:Lb (JB ⟨j.push { cls := .type "tuple_iterator",data := .fields #[.ref a, .int 0 0] },g,d,tk,os⟩) b ys:=LY hb _
   wp_walk using II e1,II e2
   exact ⟨_,rfl,h⟩
theorem at_new {t:Bool} {h:Heap} {i l:Addr} (e:h.get? i=some (itO t l)):At t h i l 0:=by
 cases t <;> exact ⟨_,e,rfl,rfl⟩
theorem call_zip {t u:Bool} {a b:Addr} {xs ys:Array h6} {Q:h6->z4->Prop} (ha:Sq t s.heap a xs) (hb:Sq u s.heap b ys)
 (q:∀ h',L5 h' (s.heap.objs.size+4) (s.heap.objs.size+2) (s.heap.objs.size+3) .none->Km h' (s.heap.objs.size+2) (.ref s.heap.objs.size) (.ref (s.heap.objs.size+1)) ->
   Km h' (s.heap.objs.size+3) .none .none->At t h' s.heap.objs.size a 0->At u h' (s.heap.objs.size+1) b 0->h'.objs.size=s.heap.objs.size+5 ->
   (∀ c o,s.heap.get? c=some o->h'.get? c=some o)->Q (.ref (s.heap.objs.size+4)) { s with heap:=h' }) :
 Hm (model prog w) A (call (.type "zip") [.ref a, .ref b]) Q E s:=by
 refine Qa F.called_zip (by decide) (F.typeCall_zip_2 _ _) (F.newCall_zip_2 _ _) (fun obj=>F.args_object_init_3 obj _ _) QY (uk t u a b xs ys) ⟨ha,hb, ?_⟩
 have B:(zH1 s.heap t a).objs.size=s.heap.objs.size+1:=Io ..;have G:(zH2 s.heap t u a b).objs.size=s.heap.objs.size+2:=by unfold zH2;rw [Io,B]
 have J:(zH3 s.heap t u a b).objs.size=s.heap.objs.size+3:=by unfold zH3;rw [Io,G]
 have L:(zH4 s.heap t u a b).objs.size=s.heap.objs.size+4:=by unfold zH4;rw [Io,J]
 have z5:(zH5 s.heap t u a b).objs.size=s.heap.objs.size+5:=by unfold zH5;rw [Io,L]
 have j:∀ {c o},(zH4 s.heap t u a b).get? c=some o->(zH5 s.heap t u a b).get? c=some o:=fun e=>hH _ e;have z:∀ {c o},(zH3 s.heap t u a b).get? c=some o->(zH4 s.heap t u a b).get? c=some o:=fun e=>hH _ e;have O:∀ {c o},(zH2 s.heap t u a b).get? c=some o->(zH3 s.heap t u a b).get? c=some o:=fun e=>hH _ e;have Y:∀ {c o},(zH1 s.heap t a).get? c=some o->(zH2 s.heap t u a b).get? c=some o:=fun e=>hH _ e;have k1:∀ {c o},s.heap.get? c=some o->(zH1 s.heap t a).get? c=some o:=fun e=>hH _ e;have f:∀ t l,(itO t l).isFreed=false:=fun t l=>by cases t <;> rfl
 have U:(zH5 s.heap t u a b).get? (zH4 s.heap t u a b).objs.size=some _:=D1 _ rfl;have Z:(zH5 s.heap t u a b).get? (zH3 s.heap t u a b).objs.size=some _:=j (D1 _ rfl);have g3:(zH5 s.heap t u a b).get? (zH2 s.heap t u a b).objs.size=some _:=j (z (D1 _ rfl));have g2:(zH5 s.heap t u a b).get? (zH1 s.heap t a).objs.size=some _:=j (z (O (D1 _ (f u b))));have g1:(zH5 s.heap t u a b).get? s.heap.objs.size=some _:=j (z (O (Y (D1 _ (f t a)))));show _/\_;rw [G,J,L] at U;rw [B,G] at g3;rw [J] at Z;rw [B] at g2;rw [L];exact ⟨⟨_,U,rfl⟩,q _ U g3 Z (at_new g1) (at_new g2) z5 fun c o x=>j (z (O (Y (k1 x))))⟩
end
end Zp
end L2
namespace L2
open PySem PySem.Spec PyProof.Rows
section
section
variable {X:Cx} {pins:List (Addr×Obj)} {σ:St} {H:Hp} {s:z4} {h':Heap}
theorem Inv.turnedL {t':Nat} {fp:List Addr} (I:Inv X pins σ H s) (hf:∀ b∈fp,cj X pins H b) (k:∀ b o,b∉fp->s.heap.get? b=some o->h'.get? b=some o):Inv X pins σ H { s with heap:=h',toks:=t' }:=by
 have nit:∀ b u,H b=some u->b∉fp:=fun b u e z=>by rw [(hf b z).1] at e;cases e
 refine I.step (g':=s.gens) (d':=s.drawn) (ch:=fp) (fun b hb => ?_) (fun b o _ _ j e _=>k b o j e) (fun b o _ _ j e _=>⟨o.slots,k b o j e⟩) (fun _ _ _ _ n=>n)
  (fun b o j e=>⟨o,k b o j e⟩) (fun _ _ e=>e) (fun _ _ _ e=>e) (fun b ps e=>⟨#[],by rw [e];simp⟩) (fun m hm => ?_) (fun b u e => ?_) I.bare
 ·obtain ⟨_,f1,_,B,f4,F⟩:=hf b hb;exact ⟨B,f1,f4,F⟩
 ·obtain ⟨o,es,ep,ho,r⟩:=hm;exact ⟨o,es,ep,k _ o (fun z=>(hf _ z).2.1 rfl) ho,r⟩
 ·refine (I.hok b u e).stay (fun c v j q=>k c v ?_ q) (fun _ q=>q) fun _ _ q=>q
  rcases j with z | z
  ·rw [z];exact nit b u e
  ·exact nit c _ z
end
def SqV (K:Frag) (t:Bool) (H:Hp) (a:Addr) (xs:List V):Prop:=match t with | true=>SqT K H a xs | false=>SqL K H a xs
theorem Inv.sqv {X:Cx} {pins:List (Addr×Obj)} {σ:St} {H:Hp} {s:z4} {t:Bool} {a:Addr} {xs:List V} (I:Inv X pins σ H s) (h:SqV X.K t H a xs):∃ its:List h6,Vals xs its/\Zp.Sq t s.heap a its.toArray:=by
 cases t with
 | true=>obtain ⟨its,r,p,_⟩:=I.tuple h;exact ⟨its,r,p⟩
 | false=>obtain ⟨its,r,p,_⟩:=I.list h;exact ⟨its,r,p.isList⟩
theorem Inv.sqv_inj {X:Cx} {pins:List (Addr×Obj)} {σ:St} {H:Hp} {s:z4} {t:Bool} {a:Addr} {xs ys:List V} (I:Inv X pins σ H s) (h:SqV X.K t H a xs) (h':SqV X.K t H a ys):xs=ys:=by
 cases t with
 | true=>exact I.tuple_inj h h'
 | false=>exact I.list_inj h h'
noncomputable def Itz (K:Frag) (t u:Bool) (a b:Addr):It :=
 ⟨fun i H => ∃ xs ys x y,SqV K t H a xs/\SqV K u H b ys/\xs[i]? = some x/\ys[i]? = some y,
  fun i H v H' => ∃ p x y,H p=none/\v = .ref p/\H'=upd H p (.tup [x,y]) /\ ∀ xs ys,SqV K t H a xs->SqV K u H b ys->xs[i]? = some x/\ys[i]? = some y,
  fun i H => ∃ xs ys,SqV K t H a xs/\SqV K u H b ys/\(xs.length<=i∨ys.length<=i)⟩
theorem xi {P:HI} {w:Ic} {K:Frag} {elts:List Expr} {cx} {pos:Pos} {t u:Bool} {z T O i j a b:Addr} (D:OU z T O i j a b) :
 fD P w K (.Tuple elts cx pos) (Itz K t u a b) [z,T,O,i,j] z (fun k h=>L5 h z T O .none/\Km h T (.ref i) (.ref j)/\(∃ p r,Km h O p r)/\Zp.At t h i a k/\Zp.At u h j b k) where
 mem:=by simp
 obj:=fun k h ⟨B,F,⟨p,r,G⟩,hi,J⟩ c q=>by
  simp only [Hg,HE,or_false] at q
  rcases q with rfl | rfl | rfl | rfl | rfl
  ·exact ⟨_,B,fun v e=>by cases e⟩
  ·exact ⟨_,F,fun v e=>by cases e⟩
  ·exact ⟨_,G,fun v e=>by cases e⟩
  ·exact hi.lt
  ·exact J.lt
 keep:=fun k h h' ⟨B,F,⟨p,r,G⟩,hi,J⟩ kk=>⟨kk z (by simp) _ B,kk T (by simp) _ F,⟨p,r,kk O (by simp) _ G⟩,hi.up fun o e=>kk i (by simp) o e,J.up fun o e=>kk j (by simp) o e⟩
 item:=by
  intro X Y hw Z q k pins s σ H E I hf st hg;subst Y hw Z;obtain ⟨B,F,⟨p,r,G⟩,hi,J⟩:=st;obtain ⟨xs,ys,x,y,qx,qy,ex,ey⟩:=hg;obtain ⟨is,rx,px⟩:=I.sqv qx;obtain ⟨js,ry,py⟩:=I.sqv qy;obtain ⟨ux,EX,rux⟩:=rx.get ex;obtain ⟨uy,EY,ruy⟩:=ry.get ey;refine Zp.nxt_item D B F G hi J px py (by simpa using EX) (by simpa using EY) fun h1 z1 o1 i1 j1 p1 U=>⟨_,rfl, ?_⟩
  refine NH (s := { s with heap:=h1 }) z1 fun h2 z2 s2 => ?_
  have lt:∀ {c o},s.heap.get? c=some o->c≠s.heap.objs.size:=fun e=>I0 (Hi e);have nz:s.heap.objs.size≠z:=(lt B).symm;have EZ:∃ o,s.heap.get? i=some o:=hi.lt.imp fun _ h=>h.1;have F1:∃ o,s.heap.get? j=some o:=J.lt.imp fun _ h=>h.1;have up:∀ c o,c≠z->h1.get? c=some o->h2.get? c=some o:=fun c o n e=>s2.extBut _ _ n e;have IL:Inv X pins σ (upd H s.heap.objs.size (.tup [x,y])) { s with heap:=s.heap.push { cls := .type "tuple",data := .seq #[ux,uy] },toks:=s.toks } :=
   I.laid (fun b o e=>hH _ e) (Hk _) ⟨by rw [B2];simp,[ux,uy], .cons rux (.cons ruy .nil),LC _ _⟩
  have fr:∀ c∈[z,T,O,i,j],c≠s.heap.objs.size:=fun c q=>by
   simp only [Hg,HE,or_false] at q
   rcases q with rfl | rfl | rfl | rfl | rfl
   ·exact lt B
   ·exact lt F
   ·exact lt G
   ·obtain ⟨o,e⟩:=EZ;exact lt e
   ·obtain ⟨o,e⟩:=F1;exact lt e
  have un:∀ c∈[z,T,O,i,j],upd H s.heap.objs.size (.tup [x,y]) c=none:=fun c q=>by
   rw [ak (fr c q)];exact (hf c q).1
  have kk:∀ c o,c∉[z,T,O,i,j]->(s.heap.push { cls := .type "tuple",data := .seq #[ux,uy] }).get? c=some o->h2.get? c=some o:=fun c o q e=>by
   simp only [Hg,HE,or_false,not_or] at q
   rcases MQ e with ⟨rfl,rfl⟩ | e
   ·exact up _ _ nz p1
   ·exact up _ _ q.1 (U c o q.1 q.2.2.1 q.2.2.2.1 q.2.2.2.2 e)
  have I2:Inv X pins σ (upd H s.heap.objs.size (.tup [x,y])) { s with heap:=h2,toks:=s.toks } :=
   (Inv.turnedL (s := { s with heap:=s.heap.push { cls := .type "tuple",data := .seq #[ux,uy] },toks:=s.toks }) (h':=h2) (t':=s.toks) (fp := [z,T,O,i,j]) IL (fun c q=>⟨un c q,(hf c q).2⟩) kk)
  refine ⟨.ref s.heap.objs.size,_,I2,rfl,⟨_,x,y,I.hok.fresh (Hk _),rfl,rfl,fun xs' ys' q1 q2 => ?_⟩,⟨z2,up _ _ D.TIz (U _ _ D.TIz D.TITO D.TIi1 D.TIi2 F),⟨_,_,up _ _ D.TOz o1⟩,i1.up fun o e=>up _ o D.i1z e,j1.up fun o e=>up _ o D.i2z e⟩,un⟩;rw [I.sqv_inj q1 qx,I.sqv_inj q2 qy];exact ⟨ex,ey⟩
 done:=by
  intro X Y hw Z q k pins s σ H E I hf st hg;subst Y hw Z;obtain ⟨B,F,⟨p,r,G⟩,hi,J⟩:=st;obtain ⟨xs,ys,qx,qy,L⟩:=hg;obtain ⟨is,rx,px⟩:=I.sqv qx;obtain ⟨js,ry,py⟩:=I.sqv qy;have lx:=rx.length;have ly:=ry.length;refine Zp.nxt_end (I.ok.hd q) D B F G hi J px py (L.imp (fun e=>by simp;lia) (fun e=>by simp;lia)) fun h1 U=>⟨rfl,I.turnedL (t':=s.toks) hf fun c o q e => ?_⟩
  simp only [Hg,HE,or_false,not_or] at q;exact U c o q.1 q.2.2.1 q.2.2.2.1 q.2.2.2.2 e
 self:=fun A k s Q E st h=>Mt st.1 h
section
variable {X:Cx}
noncomputable def EQ (K:Frag) (ta:TA):TI:=fun σ H R=>ta σ H fun vs H1 => ∃ a b t u xs ys,vs=[.ref a, .ref b]/\SqV K t H1 a xs/\SqV K u H1 b ys/\R (Itz K t u a b) H1
theorem Cl {elts:List Expr} {cx} {pos p pos':Pos} {a b:Expr} {ta:TA} (G:Gl X "zip") (hm:X.mg "zip" = none) (J:PA X [a,b] ta) (hs:HG [a,b] X.env=[(false,eval a X.env),(false,eval b X.env)]) (j:HG [b] X.env=[(false,eval b X.env)]) :
 PI X (.Tuple elts cx pos) (.Call (.Name "zip" p) [a,b] [] pos') (EQ X.K ta):=by
 intro pins s σ H R I h;refine Call_ (cG I G hm (u := .type "zip") (by decide +kernel) (IE (thn (J pos' pins s σ H _ I h) fun us s1 ⟨vs,H1,z,L,O⟩ => ?_) (by rw [hs,j]) (by rw [j];rfl)))
 obtain ⟨a',b',t,u,xs,ys,rfl,qx,qy,q⟩:=O
 cases L with
 | cons r rr =>
   cases rr with
   | cons r' rr =>
     cases rr
     cases r
     cases r'
     obtain ⟨is,rx,px⟩:=z.sqv qx;obtain ⟨js,ry,py⟩:=z.sqv qy;refine Zp.call_zip px py fun h1 B t1 U Y Z sz k1 => ?_;refine Mt B ?_;have la:a' < s1.heap.objs.size:=by cases t <;> (obtain ⟨o,e,_⟩:=px;exact Hi e)
     have lb:b' < s1.heap.objs.size:=by cases u <;> (obtain ⟨o,e,_⟩:=py;exact Hi e)
     have D:OU (s1.heap.objs.size+4) (s1.heap.objs.size+2) (s1.heap.objs.size+3) s1.heap.objs.size (s1.heap.objs.size+1) a' b':=by constructor <;> (intro e;subst_vars;first | lia | (simp only [Addr] at *;lia))
     refine ⟨_,_,_,_,H1,rfl,z.kept (t':=s1.toks) k1,xi (t:=t) (u:=u) D,⟨B,t1,⟨_,_,U⟩,Y,Z⟩,fun c F => ?_,q⟩;have hle:s1.heap.objs.size<=c:=by
      simp only [Hg,HE,or_false] at F
      rcases F with rfl | rfl | rfl | rfl | rfl <;> lia
     exact z.fpOk hle (z.hok.fresh hle)
end
end
end L2
namespace L2
namespace Zp
open PySem PySem.Spec PyProof.Rows
noncomputable abbrev bJ (h:Heap) (T:Addr) (a b c:h6):Prop:=h.get? T=some { cls := .type "tuple",data := .seq #[a,b,c] }
structure Z3 (t u v:Bool) (n a b c:Addr) (f0:h6) (k:Nat) (h:Heap):Prop where
 z:L5 h (n+5) (n+3) (n+4) f0
 T:bJ h (n+3) (.ref n) (.ref (n+1)) (.ref (n+2))
 O:∃ p q r,bJ h (n+4) p q r
 i:At t h n a k
 j:At u h (n+1) b k
 l:At v h (n+2) c k
section
variable {prog:HI} {w:Ic} {A:Ik} {E:h6->z4->Prop} {s:z4}
theorem eV {T:Addr} {a b c x:h6} {k:Nat} {Q:Unit->z4->Prop} (j:bJ s.heap T a b c)
 (h:∀ h',h'.get? T=some { cls := .type "tuple",data := .seq ((#[a,b,c]:Array h6).setIfInBounds k x) }->IV T s.heap h'->Q () { s with heap:=h' }) :
 Hm (model prog w) A (updateSeq T (·.setIfInBounds k x)) Q E s:=by
 refine wpAny_updateSeq j rfl (h _ ?_ (N7 ..));rw [Ml _ j rfl];simp [Kl]
theorem gN {a n k:Nat} (h:a < n):a≠n+k:=by lia
theorem kN {n j k:Nat} (h:j≠k):n+j≠n+k:=by lia
theorem oN {n k:Nat} (h:k≠0):n≠n+k:=by lia
theorem pN {n k:Nat} (h:k≠0):n+k≠n:=by lia
open Builtin.SmallTypes in
theorem A9 {n a b c:Addr} {t u v:Bool} {k:Nat} {xs ys zs:Array h6} {x y e:h6} {Q:h6->z4->Prop} (la:a < n) (lb:b < n) (lc:c < n)
 (Z:Z3 t u v n a b c .none k s.heap) (ha:Sq t s.heap a xs) (hb:Sq u s.heap b ys) (hc:Sq v s.heap c zs) (hx:xs[k]? = some x) (hy:ys[k]? = some y) (he:zs[k]? = some e)
 (q:∀ h',Z3 t u v n a b c (LM s.heap.objs.size) (k+1) h'->bJ h' s.heap.objs.size x y e ->
   (∀ c o,c≠n->c≠n+1->c≠n+2->c≠n+4->c≠n+5->s.heap.get? c=some o->h'.get? c=some o)->Q (.ref s.heap.objs.size) { s with heap:=h' }) :
 Hm (model prog w) A (Jy.«zip.__next__» ⟨[.ref (n+5)],[]⟩) (fun fin s' => ∃ v,fin = .done (.ret v)/\Q v s') E s:=by
 obtain ⟨O,hT,⟨p1,p2,U,hO⟩,hi,hj,hl⟩:=Z;refine gV (m:=field (.ref (n+5)) 2) (HU O rfl (x := .bool false) rfl ?_);refine gV (m:=field (.ref (n+5)) 3) (HU O rfl (x := .ref (n+3)) rfl ?_);refine gV (Il hT rfl ?_);refine gV (m:=ownedTupleIsFree (.ref (n+5))) ?_;unfold ownedTupleIsFree;refine gV (HU O rfl (x := .none) rfl (q7 ?_));simp only [if_true];refine gV (IT (gV (HU O rfl (x := .ref (n+4)) rfl (gV (HP O (by simp) fun g1 z1 s1 => ?_)))))
 have Z1:L5 g1 (n+5) (n+3) (n+4) .ellipsis:=z1;clear z1;refine gV ?_;simp only [La,MY,JI,LW];refine gV (gV (Jz (gV (m:=nextOf (.ref n)) ?_)));refine nx_item (hi.up fun o e=>s1.extBut _ o (oN (by decide)) e) (ha.up fun o e=>s1.extBut _ o (gN la) e) hx fun g2 EX s2=>q7 ?_
 have O2:bJ g2 (n+4) p1 p2 U:=s2.extBut _ _ (pN (by decide)) (s1.extBut _ _ (kN (by decide)) hO)
 refine gV (Il O2 rfl (gV (eV O2 fun g3 o3 s3 => ?_)));have O3:bJ g3 (n+4) x p2 U:=o3;clear o3;have k3:∀ c o,c≠n->c≠n+4->c≠n+5->s.heap.get? c=some o->g3.get? c=some o:=fun c o z F B e=>s3.extBut _ _ F (s2.extBut _ _ z (s1.extBut _ _ B e));refine gV (Kv (q7 (gV (gV (Jz (gV (m:=nextOf (.ref (n+1))) ?_))))));refine nx_item (hj.up fun o e=>k3 _ o (pN (by decide)) (kN (by decide)) (kN (by decide)) e) (hb.up fun o e=>k3 _ o (gN (k := 0) lb) (gN lb) (gN lb) e) hy fun g4 EY s4=>q7 ?_
 have O4:bJ g4 (n+4) x p2 U:=s4.extBut _ _ (kN (by decide)) O3
 refine gV (Il O4 rfl (gV (eV O4 fun g5 o5 s5 => ?_)));have O5:bJ g5 (n+4) x y U:=o5;clear o5;have k5:∀ c o,c≠n->c≠n+1->c≠n+4->c≠n+5->s.heap.get? c=some o->g5.get? c=some o:=fun c o z F B G e=>s5.extBut _ _ B (s4.extBut _ _ F (k3 c o z B G e));refine gV (Kv (q7 (gV (gV (Jz (gV (m:=nextOf (.ref (n+2))) ?_))))));refine nx_item (hl.up fun o e=>k5 _ o (pN (by decide)) (kN (by decide)) (kN (by decide)) (kN (by decide)) e) (hc.up fun o e=>k5 _ o (gN (k := 0) lc) (gN lc) (gN lc) (gN lc) e) he fun g6 EZ J=>q7 ?_
 have O6:bJ g6 (n+4) x y U:=J.extBut _ _ (kN (by decide)) O5
 refine gV (Il O6 rfl (gV (eV O6 fun j o7 L => ?_)));have O7:bJ j (n+4) x y e:=o7;clear o7;refine gV (Kv (q7 (q7 (gV (Il O7 rfl (gV (Nt ?_)))))));have sz:j.objs.size=s.heap.objs.size:=by rw [L.1,J.1,s5.1,s4.1,s3.1,s2.1,s1.1]
 have k7:∀ c o,c≠n->c≠n+1->c≠n+2->c≠n+4->c≠n+5->s.heap.get? c=some o->j.get? c=some o:=fun c o z F B G Y e=>L.extBut _ _ G (J.extBut _ _ B (k5 c o z F G Y e));have Z7:L5 j (n+5) (n+3) (n+4) .ellipsis:=L.extBut _ _ (kN (by decide)) (J.extBut _ _ (kN (by decide)) (s5.extBut _ _ (kN (by decide)) (s4.extBut _ _ (kN (by decide)) (s3.extBut _ _ (kN (by decide)) (s2.extBut _ _ (pN (by decide)) Z1)))))
 have T7:=k7 _ _ (pN (by decide)) (kN (by decide)) (kN (by decide)) (kN (by decide)) (kN (by decide)) hT
 have I7:At t j n a (k+1):=EX.up fun o e=>L.extBut _ o (oN (by decide)) (J.extBut _ o (oN (by decide)) (s5.extBut _ o (oN (by decide)) (s4.extBut _ o (oN (by decide)) (s3.extBut _ o (oN (by decide)) e))))
 have J7:At u j (n+1) b (k+1):=EY.up fun o e=>L.extBut _ o (kN (by decide)) (J.extBut _ o (kN (by decide)) (s5.extBut _ o (kN (by decide)) e))
 have L7:At v j (n+2) c (k+1):=EZ.up fun o e=>L.extBut _ o (kN (by decide)) e
 have zl:n+5 < j.objs.size:=Hi Z7;refine gV (m:=ownedTupleHandOut (.ref (n+5)) (.ref j.objs.size)) ?_;unfold ownedTupleHandOut;refine gV (HP (hH _ Z7) (by simp) fun g8 z8 s8 => ?_)
 have Z8:L5 g8 (n+5) (n+3) (n+4) (LM j.objs.size):=z8;clear z8;refine HP Z8 (by simp) fun g9 z9 s9 => ?_
 have Z9:L5 g9 (n+5) (n+3) (n+4) (LM j.objs.size):=z9;clear z9;have up:∀ c o,c≠n+5->j.get? c=some o->g9.get? c=some o:=fun c o z e=>s9.extBut _ _ z (s8.extBut _ _ z (hH _ e));have P9:bJ g9 j.objs.size x y e:=s9.extBut _ _ (J1 zl) (s8.extBut _ _ (J1 zl) (D1 _ rfl));rw [sz] at Z9 P9;refine q7 ⟨_,rfl, ?_⟩;show Q (.ref j.objs.size) _;rw [sz];exact q g9 ⟨Z9,up _ _ (kN (by decide)) T7,⟨_,_,_,up _ _ (kN (by decide)) O7⟩,I7.up fun o e=>up _ o (oN (by decide)) e,J7.up fun o e=>up _ o (kN (by decide)) e,L7.up fun o e=>up _ o (kN (by decide)) e⟩ P9 fun c o z F B G Y e=>up c o Y (k7 c o z F B G Y e)
open Builtin.SmallTypes in
theorem Cn {n a b c:Addr} {t u v:Bool} {k:Nat} {xs ys zs:Array h6} {Q:Fin->z4->Prop} (hn:A.handled=none) (la:a < n) (lb:b < n) (lc:c < n)
 (Z:Z3 t u v n a b c .none k s.heap) (ha:Sq t s.heap a xs) (hb:Sq u s.heap b ys) (hc:Sq v s.heap c zs) (U:xs[k]? = none∨ys[k]? = none∨zs[k]? = none)
 (q:∀ h' e,(∀ c o,c≠n->c≠n+1->c≠n+2->c≠n+4->c≠n+5->s.heap.get? c=some o->h'.get? c=some o)->(∃ o,h'.get? e=some o/\o.cls = .type "StopIteration")->E (.ref e) { s with heap:=h' }) :
 Hm (model prog w) A (Jy.«zip.__next__» ⟨[.ref (n+5)],[]⟩) Q E s:=by
 obtain ⟨Y,hT,⟨p1,p2,p3,hO⟩,hi,hj,hl⟩:=Z;refine gV (m:=field (.ref (n+5)) 2) (HU Y rfl (x := .bool false) rfl ?_);refine gV (m:=field (.ref (n+5)) 3) (HU Y rfl (x := .ref (n+3)) rfl ?_);refine gV (Il hT rfl ?_);refine gV (m:=ownedTupleIsFree (.ref (n+5))) ?_;unfold ownedTupleIsFree;refine gV (HU Y rfl (x := .none) rfl (q7 ?_));simp only [if_true];refine gV (IT (gV (HU Y rfl (x := .ref (n+4)) rfl (gV (HP Y (by simp) fun g1 z1 s1 => ?_)))))
 have Z1:L5 g1 (n+5) (n+3) (n+4) .ellipsis:=z1;clear z1;refine gV ?_;simp only [La,MY,JI,LW];refine gV (gV (Jz (gV (m:=nextOf (.ref n)) ?_)));have EX:At t g1 n a k:=hi.up fun o e=>s1.extBut _ o (oN (by decide)) e
 have EY:Sq t g1 a xs:=ha.up fun o e=>s1.extBut _ o (gN la) e;have fin:∀ {h':Heap} {e:Addr} {o:Obj},(∀ c o,c≠n->c≠n+1->c≠n+2->c≠n+4->c≠n+5->s.heap.get? c=some o->h'.get? c=some o)->L5 h' (n+5) (n+3) (n+4) .ellipsis->h'.get? e=some o->o.cls = .type "StopIteration" -> Hm (model prog w) A (setField (.ref (n+5)) 0 .none) (fun _ s'=>E (.ref e) s') E { s with heap:=h' }:=fun {h' e o} kk Z j B=>by
  have ez:e≠n+5:=fun x=>by subst x;rw [Z] at j;cases j;simp at B
  exact HP Z (by simp) fun g3 _ s3=>q g3 e (fun c o F G J O L x=>s3.extBut _ _ L (kk c o F G J O L x)) ⟨o,s3.extBut _ _ ez j,B⟩
 cases hx:xs[k]? with
 | none =>
   refine nx_end hn EX EY hx fun g2 e s2 he => ?_;obtain ⟨oe,j,B⟩:=he;exact fin (fun c o F _ _ _ L x=>s2 _ _ F (s1.extBut _ _ L x)) (s2 _ _ (pN (by decide)) Z1) j B
 | some x =>
   refine nx_item EX EY hx fun g2 F5 s2=>q7 ?_;have O2:bJ g2 (n+4) p1 p2 p3:=s2.extBut _ _ (pN (by decide)) (s1.extBut _ _ (kN (by decide)) hO)
   refine gV (Il O2 rfl (gV (eV O2 fun g3 o3 s3 => ?_)));have O3:bJ g3 (n+4) x p2 p3:=o3;clear o3;have k3:∀ c o,c≠n->c≠n+4->c≠n+5->s.heap.get? c=some o->g3.get? c=some o:=fun c o F G J e=>s3.extBut _ _ G (s2.extBut _ _ F (s1.extBut _ _ J e));have Z3:L5 g3 (n+5) (n+3) (n+4) .ellipsis:=s3.extBut _ _ (kN (by decide)) (s2.extBut _ _ (pN (by decide)) Z1)
   refine gV (Kv (q7 (gV (gV (Jz (gV (m:=nextOf (.ref (n+1))) ?_))))));have EZ:At u g3 (n+1) b k:=hj.up fun o e=>k3 _ o (pN (by decide)) (kN (by decide)) (kN (by decide)) e
   have F1:Sq u g3 b ys:=hb.up fun o e=>k3 _ o (gN (k := 0) lb) (gN lb) (gN lb) e
   cases hy:ys[k]? with
   | none =>
     refine nx_end hn EZ F1 hy fun g4 e s4 he => ?_;obtain ⟨oe,j,B⟩:=he;exact fin (fun c o F G _ O L x=>s4 _ _ G (k3 c o F O L x)) (s4 _ _ (kN (by decide)) Z3) j B
   | some y =>
     refine nx_item EZ F1 hy fun g4 F6 s4=>q7 ?_;have O4:bJ g4 (n+4) x p2 p3:=s4.extBut _ _ (kN (by decide)) O3
     refine gV (Il O4 rfl (gV (eV O4 fun g5 o5 s5 => ?_)));have k5:∀ c o,c≠n->c≠n+1->c≠n+4->c≠n+5->s.heap.get? c=some o->g5.get? c=some o:=fun c o F G J O e=>s5.extBut _ _ J (s4.extBut _ _ G (k3 c o F J O e));have Z5:L5 g5 (n+5) (n+3) (n+4) .ellipsis:=s5.extBut _ _ (kN (by decide)) (s4.extBut _ _ (kN (by decide)) Z3)
     refine gV (Kv (q7 (gV (gV (Jz (gV (m:=nextOf (.ref (n+2))) ?_))))));refine nx_end hn (hl.up fun o e=>k5 _ o (pN (by decide)) (kN (by decide)) (kN (by decide)) (kN (by decide)) e) (hc.up fun o e=>k5 _ o (gN (k := 0) lc) (gN lc) (gN lc) (gN lc) e) ?_ fun g6 e s6 he => ?_
     ·rcases U with z | z | z
      ·rw [hx] at z;cases z
      ·rw [hy] at z;cases z
      ·exact z
     ·obtain ⟨oe,j,B⟩:=he;exact fin (fun c o F G J O L x=>s6 _ _ J (k5 c o F G O L x)) (s6 _ _ (kN (by decide)) Z5) j B
theorem nxt3_item {n a b c:Addr} {t u v:Bool} {k:Nat} {xs ys zs:Array h6} {x y e:h6} {Q:Option h6->z4->Prop} (la:a < n) (lb:b < n) (lc:c < n)
 (Z:Z3 t u v n a b c .none k s.heap) (j:Sq t s.heap a xs) (hb:Sq u s.heap b ys) (B:Sq v s.heap c zs) (hx:xs[k]? = some x) (G:ys[k]? = some y) (he:zs[k]? = some e)
 (q:∀ h',Z3 t u v n a b c (LM s.heap.objs.size) (k+1) h'->bJ h' s.heap.objs.size x y e ->
   (∀ c o,c≠n->c≠n+1->c≠n+2->c≠n+4->c≠n+5->s.heap.get? c=some o->h'.get? c=some o)->Q (some (.ref s.heap.objs.size)) { s with heap:=h' }) :
 Hm (model prog w) A (KR (.ref (n+5))) Q E s:=by
 have ty:s.TypeIs (.ref (n+5)) "zip" := ⟨_,Z.z,rfl⟩;unfold KR;exact gV (JA (HZ (name:=Iq "__next__") ty JJ (Ig JJ ty Ms
  (A9 la lb lc Z j hb B hx G he fun h' a1 a2 J=>q7 (q h' a1 a2 J)) (LX _))))
theorem nxt3_end {n a b c:Addr} {t u v:Bool} {k:Nat} {xs ys zs:Array h6} {Q:Option h6->z4->Prop} (hn:A.handled=none) (la:a < n) (lb:b < n) (lc:c < n)
 (Z:Z3 t u v n a b c .none k s.heap) (G:Sq t s.heap a xs) (hb:Sq u s.heap b ys) (B:Sq v s.heap c zs) (j:xs[k]? = none∨ys[k]? = none∨zs[k]? = none)
 (q:∀ h',(∀ c o,c≠n->c≠n+1->c≠n+2->c≠n+4->c≠n+5->s.heap.get? c=some o->h'.get? c=some o)->Q none { s with heap:=h' }):Hm (model prog w) A (KR (.ref (n+5))) Q E s:=by
 have ty:s.TypeIs (.ref (n+5)) "zip" := ⟨_,Z.z,rfl⟩;unfold KR;refine gV (JA (HZ (name:=Iq "__next__") ty JJ (Ig JJ ty Ms
  (Cn hn la lb lc Z G hb B j fun h' e J he => ?_) (LX _))))
 obtain ⟨o,ho,B⟩:=he;exact gV (Jt (T := "StopIteration") (b:=true) ⟨o,ho,B⟩ Nu (q7 (q _ J)))
theorem kn (a b c:h6):checkTypeCall "zip" ⟨[a,b,c],[]⟩=pure ():=by kernel_rfl
theorem mM (a b c:h6):Qu "zip.__new__" ⟨[.type "zip",a,b,c],[]⟩=pure ():=by kernel_rfl
theorem gf (a b c d:h6):argsOk "object.__init__" ⟨[a,b,c,d],[]⟩:=by
 unfold argsOk;rw [signature?_of (id := "object.__init__") (n := ['_', '_', 't', 'i', 'n', 'i', '_', '_']) (o := ['t', 'c', 'e', 'j', 'b', 'o']) (by kernel_rfl) F.owner_object];kernel_rfl
noncomputable def yH1 (h:Heap) (a:Addr):Heap:=h.push (itO true a)
noncomputable def yH2 (h:Heap) (a b:Addr):Heap:=(yH1 h a).push (itO false b)
noncomputable def yH3 (h:Heap) (a b c:Addr):Heap:=(yH2 h a b).push (itO true c)
noncomputable def yH4 (h:Heap) (a b c:Addr):Heap:=(yH3 h a b c).push { cls := .type "tuple",data := .seq #[.ref h.objs.size, .ref (yH1 h a).objs.size, .ref (yH2 h a b).objs.size] }
noncomputable def yH5 (h:Heap) (a b c:Addr):Heap:=(yH4 h a b c).push { cls := .type "tuple",data := .seq #[.none, .none, .none] }
noncomputable def yH6 (h:Heap) (a b c:Addr):Heap:=(yH5 h a b c).push { cls := .type "zip",data := .fields #[.none, .bool false, .bool false, .ref (yH3 h a b c).objs.size, .ref (yH4 h a b c).objs.size] }
theorem si (a b c:Addr) (xs ys zs:Array h6) :
 Meets (Jy.«zip.__new__» ⟨[.type "zip", .ref a, .ref b, .ref c],[]⟩) (fun _ R s=>s.heap.IsTuple a xs/\s.heap.IsList b ys/\s.heap.IsTuple c zs/\R (.ok (.ret (.ref (yH5 s.heap a b c).objs.size))) { s with heap:=yH6 s.heap a b c }) :=
 .of_wp fun prog w A R s h=>by
  obtain ⟨j,g,d,tk,os⟩:=s;obtain ⟨q,hb,z,h⟩:=h;have hs:=sub_zip;have e1:Lb (JB ⟨j,g,d,tk,os⟩) a xs:=q;have e2:NP (JB ⟨j.push { cls := .type "tuple_iterator",data := .fields #[.ref a, .int 0 0] },g,d,tk,os⟩) b ys:=O8 hb _;have B:Lb (JB ⟨(j.push { cls := .type "tuple_iterator",data := .fields #[.ref a, .int 0 0] }).push { cls := .type "list_iterator",data := .fields #[.ref b, .int 0 0] },g,d,tk,os⟩) c zs:=LY (LY z _) _
  wp_walk using II e1,Jb e2,II B
  exact ⟨_,rfl,h⟩
theorem call_zip3 {a b c:Addr} {xs ys zs:Array h6} {Q:h6->z4->Prop} (ha:s.heap.IsTuple a xs) (hb:s.heap.IsList b ys) (hc:s.heap.IsTuple c zs)
 (q:∀ h',Z3 true false true s.heap.objs.size a b c .none 0 h'->(∀ c o,s.heap.get? c=some o->h'.get? c=some o)->Q (.ref (s.heap.objs.size+5)) { s with heap:=h' }) :
 Hm (model prog w) A (call (.type "zip") [.ref a, .ref b, .ref c]) Q E s:=by
 refine Qa F.called_zip (by decide) (kn _ _ _) (mM _ _ _) (fun obj=>gf obj _ _ _) QY (si a b c xs ys zs) ⟨ha,hb,hc, ?_⟩
 have j:(yH1 s.heap a).objs.size=s.heap.objs.size+1:=Io ..;have z:(yH2 s.heap a b).objs.size=s.heap.objs.size+2:=by unfold yH2;rw [Io,j]
 have B:(yH3 s.heap a b c).objs.size=s.heap.objs.size+3:=by unfold yH3;rw [Io,z]
 have G:(yH4 s.heap a b c).objs.size=s.heap.objs.size+4:=by unfold yH4;rw [Io,B]
 have L:(yH5 s.heap a b c).objs.size=s.heap.objs.size+5:=by unfold yH5;rw [Io,G]
 have O:∀ {x o},(yH5 s.heap a b c).get? x=some o->(yH6 s.heap a b c).get? x=some o:=fun e=>hH _ e;have U:∀ {x o},(yH4 s.heap a b c).get? x=some o->(yH6 s.heap a b c).get? x=some o:=fun e=>O (hH _ e);have Y:∀ {x o},(yH3 s.heap a b c).get? x=some o->(yH6 s.heap a b c).get? x=some o:=fun e=>U (hH _ e);have Z:∀ {x o},(yH2 s.heap a b).get? x=some o->(yH6 s.heap a b c).get? x=some o:=fun e=>Y (hH _ e);have k2:∀ {x o},(yH1 s.heap a).get? x=some o->(yH6 s.heap a b c).get? x=some o:=fun e=>Z (hH _ e);have J:(yH6 s.heap a b c).get? (yH5 s.heap a b c).objs.size=some _:=D1 _ rfl;have g5:(yH6 s.heap a b c).get? (yH4 s.heap a b c).objs.size=some _:=O (D1 _ rfl);have g4:(yH6 s.heap a b c).get? (yH3 s.heap a b c).objs.size=some _:=U (D1 _ rfl);have g3:(yH6 s.heap a b c).get? (yH2 s.heap a b).objs.size=some _:=Y (D1 _ rfl);have g2:(yH6 s.heap a b c).get? (yH1 s.heap a).objs.size=some _:=Z (D1 _ rfl);have g1:(yH6 s.heap a b c).get? s.heap.objs.size=some _:=k2 (D1 _ rfl);rw [B,G,L] at J;rw [G] at g5;rw [j,z,B] at g4;rw [z] at g3;rw [j] at g2;show _/\_;rw [L];exact ⟨⟨_,J,rfl⟩,q _ ⟨J,g4,⟨_,_,_,g5⟩,at_new g1,at_new g2,at_new g3⟩ fun x o e=>k2 (hH _ e)⟩
end
end Zp
open PySem PySem.Spec PyProof.Rows
noncomputable def xj (K:Frag) (t u v:Bool) (a b c:Addr):It :=
 ⟨fun i H => ∃ xs ys zs x y z,SqV K t H a xs/\SqV K u H b ys/\SqV K v H c zs/\xs[i]? = some x/\ys[i]? = some y/\zs[i]? = some z,
  fun i H r H' => ∃ p x y z,H p=none/\r = .ref p/\H'=upd H p (.tup [x,y,z]) /\ ∀ xs ys zs,SqV K t H a xs->SqV K u H b ys->SqV K v H c zs->xs[i]? = some x/\ys[i]? = some y/\zs[i]? = some z,
  fun i H => ∃ xs ys zs,SqV K t H a xs/\SqV K u H b ys/\SqV K v H c zs/\(xs.length<=i∨ys.length<=i∨zs.length<=i)⟩
theorem um {P:HI} {w:Ic} {K:Frag} {elts:List Expr} {cx} {pos:Pos} {t u v:Bool} {n a b c:Addr} (la:a < n) (lb:b < n) (lc:c < n) :
 fD P w K (.Tuple elts cx pos) (xj K t u v a b c) [n+5,n+3,n+4,n,n+1,n+2] (n+5) (Zp.Z3 t u v n a b c .none) where
 mem:=by simp
 obj:=fun k h Z x hx=>by
  obtain ⟨p,q,r,G⟩:=Z.O;simp only [Hg,HE,or_false] at hx
  rcases hx with rfl | rfl | rfl | rfl | rfl | rfl
  ·exact ⟨_,Z.z,fun v e=>by cases e⟩
  ·exact ⟨_,Z.T,fun v e=>by cases e⟩
  ·exact ⟨_,G,fun v e=>by cases e⟩
  ·exact Z.i.lt
  ·exact Z.j.lt
  ·exact Z.l.lt
 keep:=fun k h h' Z kk=>⟨kk _ (by simp) _ Z.z,kk _ (by simp) _ Z.T,let ⟨p,q,r,G⟩:=Z.O; ⟨p,q,r,kk _ (by simp) _ G⟩,Z.i.up fun o e=>kk _ (by simp) o e,Z.j.up fun o e=>kk _ (by simp) o e,Z.l.up fun o e=>kk _ (by simp) o e⟩
 item:=by
  intro X U hw Y J k pins s σ H E I hf Z hg;subst U hw Y;obtain ⟨xs,ys,zs,x,y,z,qx,qy,qz,ex,ey,ez⟩:=hg;obtain ⟨is,rx,px⟩:=I.sqv qx;obtain ⟨js,ry,py⟩:=I.sqv qy;obtain ⟨ks,rz,pz⟩:=I.sqv qz;obtain ⟨ux,EX,rux⟩:=rx.get ex;obtain ⟨uy,EY,ruy⟩:=ry.get ey;obtain ⟨uz,EZ,ruz⟩:=rz.get ez;refine Zp.nxt3_item la lb lc Z px py pz (by simpa using EX) (by simpa using EY) (by simpa using EZ) fun h1 F p1 k1=>⟨_,rfl, ?_⟩
  refine NH (s := { s with heap:=h1 }) F.z fun h2 z2 s2 => ?_
  have up:∀ c o,c≠n+5->h1.get? c=some o->h2.get? c=some o:=fun c o n e=>s2.extBut _ _ n e;have IL:Inv X pins σ (upd H s.heap.objs.size (.tup [x,y,z])) { s with heap:=s.heap.push { cls := .type "tuple",data := .seq #[ux,uy,uz] },toks:=s.toks } :=
   I.laid (fun b o e=>hH _ e) (Hk _) ⟨by rw [B2];simp,[ux,uy,uz], .cons rux (.cons ruy (.cons ruz .nil)),LC _ _⟩
  have F1:n+5 < s.heap.objs.size:=Hi Z.z;have fr:∀ c∈[n+5,n+3,n+4,n,n+1,n+2],c < s.heap.objs.size:=fun c B=>by
   simp only [Hg,HE,or_false] at B
   rcases B with rfl | rfl | rfl | rfl | rfl | rfl <;> first | lia | (simp only [Addr] at *;lia)
  have un:∀ c∈[n+5,n+3,n+4,n,n+1,n+2],upd H s.heap.objs.size (.tup [x,y,z]) c=none:=fun c B=>by
   rw [ak (I0 (fr c B))];exact (hf c B).1
  have kk:∀ c o,c∉[n+5,n+3,n+4,n,n+1,n+2]->(s.heap.push { cls := .type "tuple",data := .seq #[ux,uy,uz] }).get? c=some o->h2.get? c=some o:=fun c o B e=>by
   simp only [Hg,HE,or_false,not_or] at B
   rcases MQ e with ⟨rfl,rfl⟩ | e
   ·exact up _ _ (J1 F1) p1
   ·exact up _ _ B.1 (k1 c o B.2.2.2.1 B.2.2.2.2.1 B.2.2.2.2.2 B.2.2.1 B.1 e)
  have I2:Inv X pins σ (upd H s.heap.objs.size (.tup [x,y,z])) { s with heap:=h2,toks:=s.toks } :=
   (Inv.turnedL (s := { s with heap:=s.heap.push { cls := .type "tuple",data := .seq #[ux,uy,uz] },toks:=s.toks }) (h':=h2) (t':=s.toks) (fp := [n+5,n+3,n+4,n,n+1,n+2]) IL (fun c B=>⟨un c B,(hf c B).2⟩) kk)
  obtain ⟨p,q,r,G⟩:=F.O;refine ⟨.ref s.heap.objs.size,_,I2,rfl,⟨_,x,y,z,I.hok.fresh (Hk _),rfl,rfl,fun xs' ys' zs' q1 q2 q3 => ?_⟩,⟨z2,up _ _ (Zp.kN (by decide)) F.T,⟨p,q,r,up _ _ (Zp.kN (by decide)) G⟩,F.i.up fun o e=>up _ o (Zp.oN (by decide)) e,F.j.up fun o e=>up _ o (Zp.kN (by decide)) e,F.l.up fun o e=>up _ o (Zp.kN (by decide)) e⟩,un⟩
  rw [I.sqv_inj q1 qx,I.sqv_inj q2 qy,I.sqv_inj q3 qz];exact ⟨ex,ey,ez⟩
 done:=by
  intro X U hw Y J k pins s σ H E I hf Z hg;subst U hw Y;obtain ⟨xs,ys,zs,qx,qy,qz,L⟩:=hg;obtain ⟨is,rx,px⟩:=I.sqv qx;obtain ⟨js,ry,py⟩:=I.sqv qy;obtain ⟨ks,rz,pz⟩:=I.sqv qz;have lx:=rx.length;have ly:=ry.length;have lz:=rz.length;refine Zp.nxt3_end (I.ok.hd J) la lb lc Z px py pz (L.imp (fun e=>by simp;lia) (fun e=>e.imp (fun e=>by simp;lia) (fun e=>by simp;lia))) fun h1 k1=>⟨rfl,I.turnedL (t':=s.toks) hf fun c o B e => ?_⟩
  simp only [Hg,HE,or_false,not_or] at B;exact k1 c o B.2.2.2.1 B.2.2.2.2.1 B.2.2.2.2.2 B.2.2.1 B.1 e
 self:=fun A k s Q E Z h=>Mt Z.z h
section
variable {X:Cx}
noncomputable def DT (K:Frag) (ta:TA):TI:=fun σ H R=>ta σ H fun vs H1 => ∃ a b c xs ys zs,vs=[.ref a, .ref b, .ref c]/\SqT K H1 a xs/\SqL K H1 b ys/\SqT K H1 c zs/\R (xj K true false true a b c) H1
theorem Aa {elts:List Expr} {cx} {pos p pos':Pos} {a b c:Expr} {ta:TA} (G:Gl X "zip") (hm:X.mg "zip" = none) (J:PA X [a,b,c] ta) (hs:HG [a,b,c] X.env=[(false,eval a X.env),(false,eval b X.env),(false,eval c X.env)]) (B:HG [b,c] X.env=[(false,eval b X.env),(false,eval c X.env)]) :
 PI X (.Tuple elts cx pos) (.Call (.Name "zip" p) [a,b,c] [] pos') (DT X.K ta):=by
 intro pins s σ H R I h;refine Call_ (cG I G hm (u := .type "zip") (by decide +kernel) (IE (thn (J pos' pins s σ H _ I h) fun us s1 ⟨vs,H1,j,L,O⟩ => ?_) (by rw [hs,B]) (by rw [B];rfl)))
 obtain ⟨a',b',c',xs,ys,zs,rfl,qx,qy,qz,q⟩:=O
 cases L with
 | cons r rr =>
   cases rr with
   | cons r' rr =>
     cases rr with
     | cons r'' rr =>
       cases rr
       cases r
       cases r'
       cases r''
       obtain ⟨is,rx,px,_⟩:=j.tuple qx;obtain ⟨js,ry,py,_⟩:=j.list qy;obtain ⟨ks,rz,pz,_⟩:=j.tuple qz;refine Zp.call_zip3 px py.isList pz fun h1 F U => ?_;refine Mt F.z ?_;have la:a' < s1.heap.objs.size:=by obtain ⟨o,e,_⟩:=px;exact Hi e
       have lb:b' < s1.heap.objs.size:=by obtain ⟨o,e,_⟩:=py.isList;exact Hi e
       have lc:c' < s1.heap.objs.size:=by obtain ⟨o,e,_⟩:=pz;exact Hi e
       refine ⟨_,_,_,_,H1,rfl,j.kept (t':=s1.toks) U,um (t:=true) (u:=false) (v:=true) la lb lc,F,fun x hx => ?_,q⟩;have hle:s1.heap.objs.size<=x:=by
        simp only [Hg,HE,or_false] at hx
        rcases hx with rfl | rfl | rfl | rfl | rfl | rfl <;> lia
       exact j.fpOk hle (j.hok.fresh hle)
end
end L2
namespace L2
namespace En
open PySem PySem.Spec PyProof.Rows
section
variable {prog:HI} {w:Ic} {A:Ik} {E:h6->z4->Prop} {s:z4}
open Builtin.SmallTypes Zp in
theorem Co {z i a:Addr} {t:Bool} {k:Nat} {xs:Array h6} {x old:h6} {Q:h6->z4->Prop} (U:Ox s.heap z i k old) (hi:At t s.heap i a k) (ha:Sq t s.heap a xs) (hx:xs[k]? = some x) (j:z≠i)
 (q:∀ h',Qv h' z i ((k:Int)+1) x s.heap.objs.size->At t h' i a (k+1)->h'.get? s.heap.objs.size=some { cls := .type "tuple",data := .seq #[.int k s.toks,x] } ->
   (∀ b o,b≠z->b≠i->s.heap.get? b=some o->h'.get? b=some o)->Q (.ref s.heap.objs.size) { s with heap:=h',toks:=s.toks+1 }) :
 Hm (model prog w) A (Jy.«enumerate.__next__» ⟨[.ref z],[]⟩) (fun fin s' => ∃ v,fin = .done (.ret v)/\Q v s') E s:=by
 obtain ⟨B,g,d,tk,os⟩:=s;refine gV (m:=field (.ref z) 2) (HU U rfl (x := .ref i) rfl (gV (nx_item hi ha hx fun g1 i1 s1 => ?_)));have S1:IV i B g1:=s1;clear s1;have Y:Ox g1 z i k old:=(S1.2 z j).trans U;refine gV (m:=field (.ref z) 3) (HU (s:=⟨g1,g,d,tk,os⟩) Y rfl (x:=LM k) rfl ?_);refine gV (m:=field (.ref z) 4) (HU (s:=⟨g1,g,d,tk,os⟩) Y rfl (x := .none) rfl ?_);refine gV (m:=mkInt k) (wpAny_mkInt ?_);refine gV (m:=setField (.ref z) 3 (LM ((k:Int)+1))) (HP (s:=⟨g1,g,d,tk+1,os⟩) Y (by simp) fun g2 z2 s2 => ?_)
 have Z:IV z g1 g2:=s2;have Z2:Ox g2 z i ((k:Int)+1) old:=z2;clear s2 z2;refine gV (m:=setField (.ref z) 4 .none) (HP (s:=⟨g2,g,d,tk+1,os⟩) Z2 (by simp) fun g3 z3 s3 => ?_)
 have S3:IV z g2 g3:=s3;have Z3:Ox g3 z i ((k:Int)+1) old:=z3;clear s3 z3;refine gV (m:=newTuple [.int k tk,x]) (Nt ?_);have G:Ox (g3.push { cls := .type "tuple",data := .seq #[.int k tk,x] }) z i ((k:Int)+1) old:=hH _ Z3;have sz:g3.objs.size=B.objs.size:=by rw [S3.1,Z.1,S1.1]
 have zl:z < B.objs.size:=Hi U;have T4:(g3.push { cls := .type "tuple",data := .seq #[.int k tk,x] }).get? B.objs.size=some { cls := .type "tuple",data := .seq #[.int k tk,x] }:=by rw [<- sz];exact D1 _ rfl
 have K4:∀ b o,b≠z->b≠i->B.get? b=some o->(g3.push { cls := .type "tuple",data := .seq #[.int k tk,x] }).get? b=some o:=fun b o bz bi e =>
  hH _ (S3.extBut b o bz (Z.extBut b o bz (S1.extBut b o bi e)))
 have I4:At t (g3.push { cls := .type "tuple",data := .seq #[.int k tk,x] }) i a (k+1):=i1.up fun o e=>hH _ (S3.extBut i o j.symm (Z.extBut i o j.symm e));rw [sz];generalize g3.push { cls := .type "tuple",data := .seq #[.int k tk,x] }=F at G T4 K4 I4;refine gV (m:=ownedTupleIsFree (.ref z)) ?_;unfold ownedTupleIsFree;refine gV (HU (s:=⟨F,g,d,tk+1,os⟩) G rfl (x := .none) rfl (q7 ?_));simp only [if_true];refine gV (IT (gV (HU (s:=⟨F,g,d,tk+1,os⟩) G rfl (x:=old) rfl (gV (HP (s:=⟨F,g,d,tk+1,os⟩) G (by simp) fun J z5 s5 => ?_)))))
 have S5:IV z F J:=s5;have Z5:Ox J z i ((k:Int)+1) x:=z5;clear s5 z5;refine gV (m:=ownedTupleHandOut (.ref z) (.ref B.objs.size)) ?_;unfold ownedTupleHandOut;refine gV (HP (s:=⟨J,g,d,tk+1,os⟩) Z5 (by simp) fun L z6 s6 => ?_)
 have S6:IV z J L:=s6;have Z6:Qv L z i ((k:Int)+1) x B.objs.size:=z6;clear s6 z6;refine HP (s:=⟨L,g,d,tk+1,os⟩) Z6 (by simp) fun O z7 s7 => ?_
 have S7:IV z L O:=s7;have Z7:Qv O z i ((k:Int)+1) x B.objs.size:=z7;clear s7 z7;have up:∀ b o,b≠z->F.get? b=some o->O.get? b=some o:=fun b o bz e=>S7.extBut b o bz (S6.extBut b o bz (S5.extBut b o bz e));exact gV (Kv (q7 ⟨_,rfl,q O Z7 (I4.up fun o e=>up i o j.symm e) (up _ _ (J1 zl) T4) fun b o bz bi e=>up b o bz (K4 b o bz bi e)⟩))
theorem nxt_item {z i a:Addr} {t:Bool} {k:Nat} {xs:Array h6} {x old:h6} {Q:Option h6->z4->Prop} (B:Ox s.heap z i k old) (hi:Zp.At t s.heap i a k) (G:Zp.Sq t s.heap a xs) (hx:xs[k]? = some x) (j:z≠i)
 (q:∀ h',Qv h' z i ((k:Int)+1) x s.heap.objs.size->Zp.At t h' i a (k+1)->h'.get? s.heap.objs.size=some { cls := .type "tuple",data := .seq #[.int k s.toks,x] } ->
   (∀ b o,b≠z->b≠i->s.heap.get? b=some o->h'.get? b=some o)->Q (some (.ref s.heap.objs.size)) { s with heap:=h',toks:=s.toks+1 }) :
 Hm (model prog w) A (KR (.ref z)) Q E s:=by
 have ty:s.TypeIs (.ref z) "enumerate" := ⟨_,B,rfl⟩;unfold KR;exact gV (JA (HZ (name:=Iq "__next__") ty KS (Ig KS ty Oy
  (Co B hi G hx j fun h' a1 a2 J L=>q7 (q h' a1 a2 J L)) (O9 _))))
theorem nxt_end {z i a:Addr} {t:Bool} {k:Nat} {xs:Array h6} {old:h6} {Q:Option h6->z4->Prop} (hn:A.handled=none) (j:Ox s.heap z i k old) (hi:Zp.At t s.heap i a k) (B:Zp.Sq t s.heap a xs) (hx:xs[k]? = none)
 (q:∀ h',QL i s.heap h'->Q none { s with heap:=h' }):Hm (model prog w) A (KR (.ref z)) Q E s:=by
 have ty:s.TypeIs (.ref z) "enumerate" := ⟨_,j,rfl⟩;unfold KR;refine gV (JA (HZ (name:=Iq "__next__") ty KS (Ig KS ty Oy ?_ (O9 _))));refine gV (m:=field (.ref z) 2) (HU j rfl (x := .ref i) rfl (gV (Zp.nx_end hn hi B hx fun h' x he hs => ?_)));obtain ⟨o,ho,G⟩:=hs;exact gV (Jt (T := "StopIteration") (b:=true) ⟨o,ho,G⟩ Nu (q7 (q _ he)))
open AutoSeq1 (wpAny_loadPart') in
theorem Ab (l:Addr) (items:Array h6) (n:Nat) (dct:Option Addr) (sl:Array (Option h6)) :
 Meets (Jy.«enumerate.__new__» ⟨[.type "enumerate", .ref l],[]⟩) (fun _ R s=>s.heap.get? l=some { cls := .type "tuple",dict:=dct,data := .seq items n,slots:=sl } /\
  R (.ok (.ret (.ref (s.heap.push (Zp.itO true l)).objs.size))) { s with heap:=(s.heap.push (Zp.itO true l)).push { cls := .type "enumerate",data := .fields #[.none, .bool false, .ref s.heap.objs.size,LM 0, .none, .none] } }) :=
 .of_wp fun prog w A R s h=>by
  obtain ⟨B,g,d,tk,os⟩:=s;obtain ⟨j,h⟩:=h;have q:=sub_enumerate;have z:Lb (JB ⟨B,g,d,tk,os⟩) l items:=⟨_,j,rfl,n,rfl⟩
  wp_walk using KN j
  refine wpAny_stack_any fun st=>q7 ?_
  split
  ·rename_i c _ _ _ _ _
   cases (c==IM "enumerate") <;> (wp_walk using KN j,II z;exact ⟨_,rfl,h⟩)
  ·wp_walk using KN j,II z
   exact ⟨_,rfl,h⟩
theorem call_enum {t:Bool} {l:Addr} {items:Array h6} {Q:h6->z4->Prop} (B:Zp.Sq t s.heap l items)
 (q:∀ h',Ox h' (s.heap.objs.size+1) s.heap.objs.size 0 .none->Zp.At t h' s.heap.objs.size l 0->(∀ b o,s.heap.get? b=some o->h'.get? b=some o)->Q (.ref (s.heap.objs.size+1)) { s with heap:=h' }) :
 Hm (model prog w) A (call (.type "enumerate") [.ref l]) Q E s:=by
 cases t with
 | false=>exact call_enumerate_list B fun h' a b _ k=>q h' a b k
 | true =>
   obtain ⟨⟨c,dct,dt,sl⟩,J,L,n,hd⟩:=B;have j:c = .type "tuple" := L;have z:dt = .seq items n:=hd;subst j z;refine Qa F.called_enumerate (by decide) (F.typeCall_enumerate_1 _) (F.newCall_enumerate_1 _) (fun obj=>F.args_object_init_2 obj _) F.entry_enumerate_new (Ab l items n dct sl) ⟨J, ?_⟩
   have G:(s.heap.push (Zp.itO true l)).objs.size=s.heap.objs.size+1:=Io ..;have e:((s.heap.push (Zp.itO true l)).push { cls := .type "enumerate",data := .fields #[.none, .bool false, .ref s.heap.objs.size,LM 0, .none, .none] }).get? (s.heap.push (Zp.itO true l)).objs.size=some _:=D1 _ rfl;rw [G] at e;show _/\_;rw [G];exact ⟨⟨_,e,rfl⟩,q _ e (Zp.at_new (hH _ (D1 _ rfl))) fun b o x=>hH _ (hH _ x)⟩
end
end En
open PySem PySem.Spec PyProof.Rows
noncomputable def Ite (K:Frag) (t:Bool) (a:Addr):It :=
 ⟨fun i H => ∃ xs x,SqV K t H a xs/\xs[i]? = some x,
  fun i H v H' => ∃ p x,H p=none/\v = .ref p/\H'=upd H p (.tup [.int (i:Nat),x]) /\ ∀ xs,SqV K t H a xs->xs[i]? = some x,
  fun i H => ∃ xs,SqV K t H a xs/\xs.length<=i⟩
theorem uo {P:HI} {w:Ic} {K:Frag} {elts:List Expr} {cx} {pos:Pos} {t:Bool} {z i a:Addr} (B:z≠i) :
 fD P w K (.Tuple elts cx pos) (Ite K t a) [z,i] z (fun k h=>(∃ old,Ox h z i k old)/\Zp.At t h i a k) where
 mem:=by simp
 obj:=fun k h ⟨⟨old,q⟩,hi⟩ c j=>by
  simp only [Hg,HE,or_false] at j
  rcases j with rfl | rfl
  ·exact ⟨_,q,fun v e=>by cases e⟩
  ·exact hi.lt
 keep:=fun k h h' ⟨⟨old,q⟩,hi⟩ kk=>⟨⟨old,kk z (by simp) _ q⟩,hi.up fun o e=>kk i (by simp) o e⟩
 item:=by
  intro X F hw G j k pins s σ H E I hf st hg;subst F hw G;obtain ⟨⟨old,q⟩,hi⟩:=st;obtain ⟨xs,x,qx,ex⟩:=hg;obtain ⟨is,rx,px⟩:=I.sqv qx;obtain ⟨ux,J,rux⟩:=rx.get ex;refine En.nxt_item q hi px (by simpa using J) B fun h1 Y Z p1 L=>⟨_,rfl, ?_⟩
  refine wpAny_letOwnedTupleGo_enum (s := { s with heap:=h1,toks:=s.toks+1 }) Y fun h2 z2 s2 => ?_
  have lt:∀ {c o},s.heap.get? c=some o->c≠s.heap.objs.size:=fun e=>I0 (Hi e);have nz:s.heap.objs.size≠z:=(lt q).symm;have O:∃ o,s.heap.get? i=some o:=hi.lt.imp fun _ h=>h.1;have up:∀ c o,c≠z->h1.get? c=some o->h2.get? c=some o:=fun c o n e=>s2.extBut _ _ n e;have IL:Inv X pins σ (upd H s.heap.objs.size (.tup [.int (k:Nat),x])) { s with heap:=s.heap.push { cls := .type "tuple",data := .seq #[.int k s.toks,ux] },toks:=s.toks+1 } :=
   I.laid (fun b o e=>hH _ e) (Hk _) ⟨by rw [B2];simp,[.int k s.toks,ux], .cons ⟨_,rfl⟩ (.cons rux .nil),LC _ _⟩
  have fr:∀ c∈[z,i],c≠s.heap.objs.size:=fun c j=>by
   simp only [Hg,HE,or_false] at j
   rcases j with rfl | rfl
   ·exact lt q
   ·obtain ⟨o,e⟩:=O;exact lt e
  have un:∀ c∈[z,i],upd H s.heap.objs.size (.tup [.int (k:Nat),x]) c=none:=fun c j=>by
   rw [ak (fr c j)];exact (hf c j).1
  have kk:∀ c o,c∉[z,i]->(s.heap.push { cls := .type "tuple",data := .seq #[.int k s.toks,ux] }).get? c=some o->h2.get? c=some o:=fun c o j e=>by
   simp only [Hg,HE,or_false,not_or] at j
   rcases MQ e with ⟨rfl,rfl⟩ | e
   ·exact up _ _ nz p1
   ·exact up _ _ j.1 (L c o j.1 j.2 e)
  have I2:Inv X pins σ (upd H s.heap.objs.size (.tup [.int (k:Nat),x])) { s with heap:=h2,toks:=s.toks+1 } :=
   Inv.turnedL (s := { s with heap:=s.heap.push { cls := .type "tuple",data := .seq #[.int k s.toks,ux] },toks:=s.toks+1 }) (h':=h2) (t':=s.toks+1) (fp := [z,i]) IL (fun c j=>⟨un c j,(hf c j).2⟩) kk
  refine ⟨.ref s.heap.objs.size,_,I2,rfl,⟨_,x,I.hok.fresh (Hk _),rfl,rfl,fun xs' q1 => ?_⟩,⟨⟨ux,by simpa using z2⟩,Z.up fun o e=>up _ o B.symm e⟩,un⟩
  rw [I.sqv_inj q1 qx];exact ex
 done:=by
  intro X F hw G j k pins s σ H E I hf st hg;subst F hw G;obtain ⟨⟨old,q⟩,hi⟩:=st;obtain ⟨xs,qx,U⟩:=hg;obtain ⟨is,rx,px⟩:=I.sqv qx;have lx:=rx.length;refine En.nxt_end (I.ok.hd j) q hi px (by simp;lia) fun h1 L=>⟨rfl,I.turnedL (t':=s.toks) hf fun c o j e => ?_⟩
  simp only [Hg,HE,or_false,not_or] at j;exact L c o j.2 e
 self:=fun A k s Q E ⟨⟨old,q⟩,_⟩ h=>Qb q h
section
variable {X:Cx}
noncomputable def DU (K:Frag) (ta:TA):TI:=fun σ H R=>ta σ H fun vs H1 => ∃ a t xs,vs=[.ref a]/\SqV K t H1 a xs/\R (Ite K t a) H1
theorem Ac {elts:List Expr} {cx} {pos p pos':Pos} {a:Expr} {ta:TA} (F:Gl X "enumerate") (hm:X.mg "enumerate" = none) (G:PA X [a] ta) (hs:HG [a] X.env=[(false,eval a X.env)]) :
 PI X (.Tuple elts cx pos) (.Call (.Name "enumerate" p) [a] [] pos') (DU X.K ta):=by
 intro pins s σ H R I h;refine Call_ (cG I F hm (u := .type "enumerate") boot_enumerate (IE (thn (G pos' pins s σ H _ I h) fun us s1 ⟨vs,H1,j,J,L⟩ => ?_) hs rfl));obtain ⟨a',t,xs,rfl,qx,q⟩:=L
 cases J with
 | cons r rr =>
   cases rr
   cases r
   obtain ⟨is,rx,px⟩:=j.sqv qx;refine En.call_enum px fun h1 z O U => ?_;refine Qb z ?_;refine ⟨_,_,_,_,H1,rfl,j.kept (t':=s1.toks) U,uo (t:=t) (a:=a') (by simp),⟨⟨_,z⟩,O⟩,fun c B => ?_,q⟩
   have hle:s1.heap.objs.size<=c:=by
    simp only [Hg,HE,or_false] at B
    rcases B with rfl | rfl <;> lia
   exact j.fpOk hle (j.hok.fresh hle)
end
end L2
namespace L2
namespace Rv
open PySem PySem.Spec PyProof.Rows
end Rv
open PySem PySem.Spec PyProof.Rows
end L2
namespace L2
namespace Mi
open PySem PySem.Spec PyProof.Rows
section
inductive D where
 | non | bl (b:Bool) | int (i:Int) | str (x:Str) | tup (ds:List D) | con (ds:List D) | ref (a:Addr)
inductive O where
 | lst (ds:List D)
 | dct (t:Bool) (kvs:List (D×D))
 | fdc (kvs:List (D×D))
noncomputable abbrev Mem:=Addr->Option O
noncomputable def fz:Option O->Bool
 | some (.lst _)=>false
 | some (.dct _ _)=>false
 | _=>true
noncomputable abbrev av:=List (Option D)
noncomputable def ah (M:Mem) (a:Addr) (o:O):Mem:=fun b=>if b=a then some o else M b
theorem ad {M:Mem} {a:Addr} {o:O}:ah M a o a=some o:=by unfold ah;rw [if_pos rfl]
theorem aR {M:Mem} {a b:Addr} {o:O} (h:b≠a):ah M a o b=M b:=by unfold ah;rw [if_neg h]
def SqF (K:Frag) (H:Hp) (a:Addr) (xs:List V):Prop :=
 (∃ o,H a=some (.frz o (.lst xs))) ∨
  ∃ (o:Obj) (its:Array h6) (n:Nat),K.lookup a=some o/\o.cls = .type "list" /\ o.dict=none/\o.data = .seq its n/\its.size<=Hh/\Vals xs its.toList
theorem SqF.sq {K:Frag} {H:Hp} {a:Addr} {xs:List V} (h:SqF K H a xs):SqL K H a xs:=by
 rcases h with ⟨o,h⟩ | h
 ·exact .inl (.inr ⟨o,h⟩)
 ·exact .inr h
noncomputable def fk2:Bool:=false
noncomputable def fk:List D->Bool
 | [.int _, .int _, .int _] => true
 | [.tup _,_] => true
 | [.int _,_] => fk2
 | _=>false
def TupR (K:Frag) (H:Hp) (ds:List D) (a:Addr) (vs:List V):Prop:=H a=some (.tup vs)∨(fk ds=false/\SqT K H a vs)
theorem TupR.sq {K:Frag} {H:Hp} {ds:List D} {a:Addr} {vs:List V} (h:TupR K H ds a vs):SqT K H a vs:=h.elim SqT.of (·.2)
mutual
noncomputable def RD (K:Frag) (H:Hp):D->V->Prop
 | .non,v=>v = .non
 | .bl b,v=>v = .bl b
 | .int i,v=>v = .int i
 | .str x,v=>v = .str x
 | .tup ds,v => ∃ a vs,v = .ref a/\TupR K H ds a vs/\RDs K H ds vs
 | .con ds,v => ∃ a vs,v = .ref a/\SqF K H a vs/\RDs K H ds vs
 | .ref a,v=>v = .ref a
noncomputable def RDs (K:Frag) (H:Hp):List D->List V->Prop
 | [],vs=>vs=[]
 | d::ds,vs => ∃ v r,vs=v::r/\RD K H d v/\RDs K H ds r
end
structure Stab (H H':Hp):Prop where
 tup:∀ a xs,H a=some (.tup xs)->H' a=some (.tup xs)
 frz:∀ a o u,H a=some (.frz o u)->H' a=some (.frz o u)
theorem Stab.sqT {K:Frag} {H H':Hp} (st:Stab H H') {a:Addr} {xs:List V} (h:SqT K H a xs):SqT K H' a xs:=by
 rcases h with (h | ⟨o,h⟩) | h
 ·exact .inl (.inl (st.tup _ _ h))
 ·exact .inl (.inr ⟨o,st.frz _ _ _ h⟩)
 ·exact .inr h
theorem Stab.sqF {K:Frag} {H H':Hp} (st:Stab H H') {a:Addr} {xs:List V} (h:SqF K H a xs):SqF K H' a xs:=by
 rcases h with ⟨o,h⟩ | h
 ·exact .inl ⟨o,st.frz _ _ _ h⟩
 ·exact .inr h
mutual
theorem RD.mono {K:Frag} {H H':Hp} (st:Stab H H'):∀ {d:D} {v:V},RD K H d v->RD K H' d v
 | .non,_,h=>h
 | .bl _,_,h=>h
 | .int _,_,h=>h
 | .str _,_,h=>h
 | .tup ds,v,h=>by
  unfold RD at h ⊢;obtain ⟨a,vs,e,q,r⟩:=h;exact ⟨a,vs,e,q.imp (st.tup _ _) (fun z=>⟨z.1,st.sqT z.2⟩),RDs.mono st r⟩
 | .con ds,v,h=>by
  unfold RD at h ⊢;obtain ⟨a,vs,e,q,r⟩:=h;exact ⟨a,vs,e,st.sqF q,RDs.mono st r⟩
 | .ref _,_,h=>h
theorem RDs.mono {K:Frag} {H H':Hp} (st:Stab H H'):∀ {ds:List D} {vs:List V},RDs K H ds vs->RDs K H' ds vs
 | [],_,h=>h
 | d::ds,vs,h=>by
   unfold RDs at h ⊢;obtain ⟨v,r,e,h1,h2⟩:=h;exact ⟨v,r,e,RD.mono st h1,RDs.mono st h2⟩
end
section
variable {K:Frag} {H H':Hp}
theorem Rt {i:Int} {v:V}:RD K H (.int i) v↔v = .int i:=by unfold RD;exact Qc
theorem Rx {b:Bool} {v:V}:RD K H (.bl b) v↔v = .bl b:=by unfold RD;exact Qc
theorem RB {v:V}:RD K H .non v↔v = .non:=by unfold RD;exact Qc
theorem RC {x:Str} {v:V}:RD K H (.str x) v↔v = .str x:=by unfold RD;exact Qc
theorem Ru {a:Addr} {v:V}:RD K H (.ref a) v↔v = .ref a:=by unfold RD;exact Qc
theorem RH {ds:List D} {v:V}:RD K H (.tup ds) v ↔ ∃ a vs,v = .ref a/\TupR K H ds a vs/\RDs K H ds vs:=by rw [RD]
theorem RF {ds:List D} {v:V} (h:∃ a vs,v = .ref a/\H a=some (.tup vs)/\RDs K H ds vs):RD K H (.tup ds) v:=RH.mpr (let ⟨a,vs,e,h,r⟩:=h; ⟨a,vs,e, .inl h,r⟩)
theorem Ry {ds:List D} {v:V} (h:RD K H (.tup ds) v):∃ a vs,v = .ref a/\SqT K H a vs/\RDs K H ds vs:=let ⟨a,vs,e,h,r⟩:=RH.mp h; ⟨a,vs,e,h.sq,r⟩
theorem RL {ds:List D} {v:V} (f:fk ds=true) (h:RD K H (.tup ds) v):∃ a vs,v = .ref a/\H a=some (.tup vs)/\RDs K H ds vs:=let ⟨a,vs,e,h,r⟩:=RH.mp h; ⟨a,vs,e,h.elim id fun z=>(by rw [f] at z;cases z.1),r⟩
theorem RA {ds:List D} {v:V}:RD K H (.con ds) v ↔ ∃ a vs,v = .ref a/\SqF K H a vs/\RDs K H ds vs:=by rw [RD]
theorem RDs.nil_iff {vs:List V}:RDs K H [] vs↔vs=[]:=by rw [RDs]
theorem Rw {d:D} {ds:List D} {vs:List V}:RDs K H (d::ds) vs ↔ ∃ v r,vs=v::r/\RD K H d v/\RDs K H ds r:=by rw [RDs]
theorem RDs.nil:RDs K H [] []:=RDs.nil_iff.mpr rfl
theorem RDs.cons {d:D} {ds:List D} {v:V} {vs:List V} (h:RD K H d v) (r:RDs K H ds vs):RDs K H (d::ds) (v::vs):=Rw.mpr ⟨v,vs,rfl,h,r⟩
theorem RDs.length:∀ {ds:List D} {vs:List V},RDs K H ds vs->vs.length=ds.length
 | [],_,h=>by rw [RDs.nil_iff.mp h];rfl
 | d::ds,_,h=>by
   obtain ⟨v,r,rfl,_,h2⟩:=Rw.mp h;simp [RDs.length h2]
theorem RDs.get:∀ {ds:List D} {vs:List V} {i:Nat} {d:D},RDs K H ds vs->ds[i]? = some d -> ∃ v,vs[i]? = some v/\RD K H d v
 | [],_,_,_,_,e=>by simp at e
 | d::ds,_,0,d',h,e=>by
   obtain ⟨v,r,rfl,h1,h2⟩:=Rw.mp h;simp at e;subst e;exact ⟨v,rfl,h1⟩
 | d::ds,_,i+1,d',h,e=>by
   obtain ⟨v,r,rfl,h1,h2⟩:=Rw.mp h;obtain ⟨u,j,q⟩:=RDs.get (i:=i) (d:=d') h2 (by simpa using e)
   exact ⟨u,by simpa using j,q⟩
theorem RDs.getV {ds:List D} {vs:List V} {i:Nat} {v:V} (h:RDs K H ds vs) (e:vs[i]? = some v):∃ d,ds[i]? = some d/\RD K H d v:=by
 have z:=h.length;have hi:i < vs.length:=(Hx.mp e).1;obtain ⟨d,hd⟩:∃ d,ds[i]? = some d:=⟨ds[i]'(by lia),A2 (by lia)⟩
 obtain ⟨u,j,q⟩:=h.get hd;rw [e] at j;cases j;exact ⟨d,hd,q⟩
theorem RDs.append:∀ {ds es:List D} {vs us:List V},RDs K H ds vs->RDs K H es us->RDs K H (ds++es) (vs++us)
 | [],_,_,_,h,q=>by rw [RDs.nil_iff.mp h];exact q
 | d::ds,_,_,_,h,q=>by
   obtain ⟨v,r,rfl,h1,h2⟩:=Rw.mp h;exact RDs.cons h1 (RDs.append h2 q)
theorem RDs.take:∀ {ds:List D} {vs:List V} (n:Nat),RDs K H ds vs->RDs K H (ds.take n) (vs.take n)
 | [],_,n,h=>by rw [RDs.nil_iff.mp h];simp;exact RDs.nil
 | _::_,_,0,h=>by simp;exact RDs.nil
 | d::ds,_,n+1,h=>by
   obtain ⟨v,r,rfl,h1,h2⟩:=Rw.mp h;exact RDs.cons h1 (RDs.take n h2)
theorem RDs.drop:∀ {ds:List D} {vs:List V} (n:Nat),RDs K H ds vs->RDs K H (ds.drop n) (vs.drop n)
 | [],_,n,h=>by rw [RDs.nil_iff.mp h];simp;exact RDs.nil
 | d::ds,_,0,h=>h
 | d::ds,_,n+1,h=>by
   obtain ⟨v,r,rfl,h1,h2⟩:=Rw.mp h;exact RDs.drop n h2
theorem RDs.set:∀ {ds:List D} {vs:List V} (n:Nat) {d:D} {v:V},RD K H d v->RDs K H ds vs->RDs K H (ds.set n d) (vs.set n v)
 | [],_,n,_,_,_,h=>by rw [RDs.nil_iff.mp h];exact RDs.nil
 | d::ds,_,0,_,_,q,h=>by
   obtain ⟨v,r,rfl,h1,h2⟩:=Rw.mp h;exact RDs.cons q h2
 | d::ds,_,n+1,_,_,q,h=>by
   obtain ⟨v,r,rfl,h1,h2⟩:=Rw.mp h;exact RDs.cons h1 (RDs.set n q h2)
theorem RDs.reverse {ds:List D} {vs:List V} (h:RDs K H ds vs):RDs K H ds.reverse vs.reverse:=by
 induction ds generalizing vs with
 | nil=>rw [RDs.nil_iff.mp h];exact RDs.nil
 | cons d ds ih =>
   obtain ⟨v,r,rfl,h1,h2⟩:=Rw.mp h;rw [KY,KY];exact (ih h2).append (RDs.cons h1 RDs.nil)
theorem RDs.rep {ds:List D} {vs:List V} (h:RDs K H ds vs):∀ k:Nat,RDs K H (Ho k ds).flatten (Ho k vs).flatten
 | 0=>RDs.nil
 | k+1=>by
   rw [IK,IK,IB,IB];exact h.append (h.rep k)
theorem RN:∀ (ns:List Int),RDs K H (ns.map D.int) (ns.map V.int)
 | [] => RDs.nil
 | n::ns=>RDs.cons (Rt.mpr rfl) (RN ns)
end
mutual
noncomputable def D.eqb:D->D->Bool
 | .non, .non=>true
 | .bl a, .bl b=>a==b
 | .int a, .int b=>decide (a=b)
 | .str a, .str b=>decide (a=b)
 | .tup a, .tup b=>D.eqbs a b
 | .con a, .con b=>D.eqbs a b
 | .ref a, .ref b=>decide (a=b)
 | _,_=>false
noncomputable def D.eqbs:List D->List D->Bool
 | [],[] => true
 | a::r,b::s=>D.eqb a b&&D.eqbs r s
 | _,_=>false
end
mutual
theorem RU:∀ (a b:D),D.eqb a b=true->a=b
 | .non, .non,_=>rfl
 | .bl a, .bl b,h=>by simp [D.eqb] at h;rw [h]
 | .int a, .int b,h=>by simp [D.eqb] at h;rw [h]
 | .str a, .str b,h=>by simp [D.eqb] at h;rw [h]
 | .tup a, .tup b,h=>by simp [D.eqb] at h;rw [RI a b h]
 | .con a, .con b,h=>by simp [D.eqb] at h;rw [RI a b h]
 | .ref a, .ref b,h=>by simp [D.eqb] at h;rw [h]
 | .non, .bl _,h=>by simp [D.eqb] at h
 | .non, .int _,h=>by simp [D.eqb] at h
 | .non, .str _,h=>by simp [D.eqb] at h
 | .non, .tup _,h=>by simp [D.eqb] at h
 | .non, .con _,h=>by simp [D.eqb] at h
 | .non, .ref _,h=>by simp [D.eqb] at h
 | .bl _, .non,h=>by simp [D.eqb] at h
 | .bl _, .int _,h=>by simp [D.eqb] at h
 | .bl _, .str _,h=>by simp [D.eqb] at h
 | .bl _, .tup _,h=>by simp [D.eqb] at h
 | .bl _, .con _,h=>by simp [D.eqb] at h
 | .bl _, .ref _,h=>by simp [D.eqb] at h
 | .int _, .non,h=>by simp [D.eqb] at h
 | .int _, .bl _,h=>by simp [D.eqb] at h
 | .int _, .str _,h=>by simp [D.eqb] at h
 | .int _, .tup _,h=>by simp [D.eqb] at h
 | .int _, .con _,h=>by simp [D.eqb] at h
 | .int _, .ref _,h=>by simp [D.eqb] at h
 | .str _, .non,h=>by simp [D.eqb] at h
 | .str _, .bl _,h=>by simp [D.eqb] at h
 | .str _, .int _,h=>by simp [D.eqb] at h
 | .str _, .tup _,h=>by simp [D.eqb] at h
 | .str _, .con _,h=>by simp [D.eqb] at h
 | .str _, .ref _,h=>by simp [D.eqb] at h
 | .tup _, .non,h=>by simp [D.eqb] at h
 | .tup _, .bl _,h=>by simp [D.eqb] at h
 | .tup _, .int _,h=>by simp [D.eqb] at h
 | .tup _, .str _,h=>by simp [D.eqb] at h
 | .tup _, .con _,h=>by simp [D.eqb] at h
 | .tup _, .ref _,h=>by simp [D.eqb] at h
 | .con _, .non,h=>by simp [D.eqb] at h
 | .con _, .bl _,h=>by simp [D.eqb] at h
 | .con _, .int _,h=>by simp [D.eqb] at h
 | .con _, .str _,h=>by simp [D.eqb] at h
 | .con _, .tup _,h=>by simp [D.eqb] at h
 | .con _, .ref _,h=>by simp [D.eqb] at h
 | .ref _, .non,h=>by simp [D.eqb] at h
 | .ref _, .bl _,h=>by simp [D.eqb] at h
 | .ref _, .int _,h=>by simp [D.eqb] at h
 | .ref _, .str _,h=>by simp [D.eqb] at h
 | .ref _, .tup _,h=>by simp [D.eqb] at h
 | .ref _, .con _,h=>by simp [D.eqb] at h
theorem RI:∀ (a b:List D),D.eqbs a b=true->a=b
 | [],[],_=>rfl
 | a::r,b::s,h=>by
   simp [D.eqbs] at h;rw [RU a b h.1,RI r s h.2]
 | [],_::_,h=>by simp [D.eqbs] at h
 | _::_,[],h=>by simp [D.eqbs] at h
end
mutual
theorem RT:∀ (a:D),D.eqb a a=true
 | .non=>rfl
 | .bl _=>by simp [D.eqb]
 | .int _=>by simp [D.eqb]
 | .str _=>by simp [D.eqb]
 | .tup a=>by simp [D.eqb,RG a]
 | .con a=>by simp [D.eqb,RG a]
 | .ref _=>by simp [D.eqb]
theorem RG:∀ (a:List D),D.eqbs a a=true
 | [] => rfl
 | a::r=>by simp [D.eqbs,RT a,RG r]
end
noncomputable instance:DecidableEq D:=fun a b=>if h:D.eqb a b=true then isTrue (RU a b h) else isFalse fun e=>h (by rw [e];exact RT b)
noncomputable def RKey:D->Key->Prop
 | .int i,k=>k = .inl i
 | .str x,k=>k = .inr x
 | _,_=>False
noncomputable def RKeys:D->List Key->Prop
 | .tup ds,ks=>Ih RKey ds ks
 | _,_=>False
noncomputable def dget (kvs:List (D×D)) (k:D):Option D:=(kvs.find? fun p=>decide (p.1=k)).map (·.2)
noncomputable def cz (kvs:List (D×D)) (k v:D):List (D×D):=if (kvs.any fun p=>decide (p.1=k))=true then kvs.map (fun p=>if p.1=k then (p.1,v) else p) else kvs++[(k,v)]
noncomputable def fG:D->Bool
 | .int _=>true
 | .str _=>true
 | _=>false
noncomputable def bW:D->Bool
 | .tup ds=>ds.all fG&&fk ds
 | _=>false
noncomputable def gP (t:Bool) (k:D):Bool:=if t then bW k else fG k
theorem nA {k:D} (h:fG k=true):∃ q,RKey k q:=by
 cases k <;> first | (simp [fG] at h;done) | exact ⟨_,rfl⟩
theorem qt:∀ {ds:List D},ds.all fG=true -> ∃ ks,Ih RKey ds ks
 | [],_=>⟨[], .nil⟩
 | d::ds,h=>by
   simp only [Jv,tv] at h;obtain ⟨k,j⟩:=nA h.1;obtain ⟨ks,hs⟩:=qt h.2;exact ⟨k::ks, .cons j hs⟩
theorem ko {k:D} (h:bW k=true):∃ q,RKeys k q:=by
 cases k <;> first | (simp [bW] at h;done) | exact qt (OV.mp h).1
theorem ku {ds:List D} (h:bW (.tup ds)=true):fk ds=true:=(OV.mp h).2
noncomputable def RO (K:Frag) (H:Hp) (a:Addr):O->Prop
 | .lst ds => ∃ vs,H a=some (.lst vs)/\RDs K H ds vs
 | .dct false kvs => ∃ ps,H a=some (.dK ps)/\Ih (fun (p:D×D) (q:Key×V)=>RKey p.1 q.1/\RD K H p.2 q.2) kvs ps
 | .dct true kvs => ∃ ps,H a=some (.dT ps)/\Ih (fun (p:D×D) (q:List Key×V)=>RKeys p.1 q.1/\RD K H p.2 q.2) kvs ps
 | .fdc kvs => ∃ o ps,H a=some (.frz o (.dT ps))/\Ih (fun (p:D×D) (q:List Key×V)=>RKeys p.1 q.1/\RD K H p.2 q.2) kvs ps
def RM (K:Frag) (M:Mem) (H:Hp):Prop := ∀ a o,M a=some o->RO K H a o
def RS (K:Frag) (H:Hp) (σ:St) (ρ:av):Prop := σ.length = ρ.length /\ ∀ (i:Nat) (d:D), ρ[i]? = some (some d) -> ∃ v, σ[i]? = some (some v)/\RD K H d v
structure Ext (M:Mem) (H:Hp) (M':Mem) (H':Hp):Prop where
 kp:∀ a o,fz (M a)=true->H a=some o->H' a=some o
 nw:∀ a o,fz (M a)=true->H a=some o->M' a=M a
section
variable {K:Frag} {M M' M'':Mem} {H H' H'':Hp}
theorem Ext.keep (x:Ext M H M' H') (a:Addr) (o:HO) (n:M a=none) (e:H a=some o):H' a=some o:=x.kp a o (by rw [n];rfl) e
theorem Ext.new (x:Ext M H M' H') (a:Addr) (o:HO) (n:M a=none) (e:H a=some o):M' a=none:=(x.nw a o (by rw [n];rfl) e).trans n
theorem Ext.refl:Ext M H M H:=⟨fun _ _ _ h=>h,fun _ _ _ _=>rfl⟩
theorem Ext.trans (a:Ext M H M' H') (b:Ext M' H' M'' H''):Ext M H M'' H'' :=
 ⟨fun c o n h=>b.kp c o (by rw [a.nw c o n h];exact n) (a.kp c o n h),fun c o n h=>(b.nw c o (by rw [a.nw c o n h];exact n) (a.kp c o n h)).trans (a.nw c o n h)⟩
theorem RM.mut (r:RM K M H) {a:Addr} {o:O} (h:M a=some o):∃ ho,H a=some ho/\(∀ xs,ho ≠ .tup xs)/\(fz (some o)=false->Mut (some ho) /\ ∀ ob u,ho ≠ .frz ob u):=by
 have q:=r a o h
 cases o with
 | lst ds =>
   obtain ⟨vs,e,_⟩:=q;exact ⟨_,e,fun _ z=>(by cases z),fun _=>⟨trivial,fun _ _ z=>(by cases z)⟩⟩
 | dct t kvs =>
   cases t with
   | false=>obtain ⟨ps,e,_⟩:=q;exact ⟨_,e,fun _ z=>(by cases z),fun _=>⟨trivial,fun _ _ z=>(by cases z)⟩⟩
   | true=>obtain ⟨ps,e,_⟩:=q;exact ⟨_,e,fun _ z=>(by cases z),fun _=>⟨trivial,fun _ _ z=>(by cases z)⟩⟩
 | fdc kvs=>obtain ⟨ob,ps,e,_⟩:=q;exact ⟨_,e,fun _ z=>(by cases z),fun z=>(by cases z)⟩
theorem RM.fzT (r:RM K M H) {a:Addr} {xs:List V} (e:H a=some (.tup xs)):M a=none:=by
 cases q:M a with
 | none=>rfl
 | some o =>
   obtain ⟨ho,j,z,_⟩:=r.mut q;rw [e] at j;cases j;exact absurd rfl (z xs)
theorem RM.fzF (r:RM K M H) {a:Addr} {ob:Obj} {u:HO} (e:H a=some (.frz ob u)):fz (M a)=true:=by
 cases q:M a with
 | none=>rfl
 | some o =>
   obtain ⟨ho,j,_,B⟩:=r.mut q;rw [e] at j;cases j
   cases z:fz (some o) with
   | true=>rfl
   | false=>exact absurd rfl ((B z).2 ob u)
theorem RM.out (r:RM K M H) {a:Addr} (h:H a=none):M a=none:=by
 cases e:M a with
 | none=>rfl
 | some o =>
   obtain ⟨ho,q,_⟩:=r.mut e;rw [h] at q;cases q
theorem Ext.stab (r:RM K M H) (x:Ext M H M' H'):Stab H H' where
 tup:=fun a xs e=>x.keep a _ (r.fzT e) e
 frz:=fun a o u e=>x.kp a _ (r.fzF e) e
theorem RS.mono (st:Stab H H') {σ:St} {ρ:av} (h:RS K H σ ρ):RS K H' σ ρ :=
 ⟨h.1,fun i d e=>let ⟨v,q,r⟩:=h.2 i d e; ⟨v,q,r.mono st⟩⟩
theorem RS.set {σ:St} {ρ:av} (h:RS K H σ ρ) (i:Nat) {d:D} {v:V} (r:RD K H d v):RS K H (σ.set i (some v)) (ρ.set i (some d)):=by
 refine ⟨by simp [h.1],fun j e q => ?_⟩
 by_cases hij:i=j
 ·subst hij;have hi:i < ρ.length:=by
   have:=(Hx.mp q).1;simpa using this
  rw [Kw hi] at q
  cases q
  exact ⟨v,by rw [Kw (by rw [h.1];exact hi)],r⟩
 ·rw [MM hij] at q ⊢;exact h.2 j e q
noncomputable def kw (fr:List (Option Nat)) (ρ:av):av:=fr.map fun o=>o.bind fun j=>(ρ[j]?).join
theorem RS.inh {σ:St} {ρ:av} (h:RS K H σ ρ) (fr:List (Option Nat)):RS K H (inh fr σ) (kw fr ρ):=by
 refine ⟨by simp [L2.inh,kw],fun i d e => ?_⟩
 unfold kw at e;unfold L2.inh;rw [HC] at e ⊢
 cases q:fr[i]? with
 | none=>rw [q] at e;cases e
 | some o =>
   rw [q] at e
   cases o with
   | none=>cases e
   | some j =>
     have e':some ((ρ[j]?).join)=some (some d):=e
     cases q' : ρ[j]? with
     | none=>rw [q'] at e';cases e'
     | some w =>
       rw [q'] at e'
       cases e'
       obtain ⟨v,v1,v2⟩:=h.2 j d q';exact ⟨v,by simp [v1],v2⟩
theorem RO.mono (st:Stab H H') {a:Addr} {o:O} (h:RO K H a o) (e:∀ ho,H a=some ho->H' a=some ho):RO K H' a o:=by
 cases o with
 | lst ds=>obtain ⟨vs,q,r⟩:=h;exact ⟨vs,e _ q,r.mono st⟩
 | dct t kvs =>
   cases t with
   | false=>obtain ⟨ps,q,r⟩:=h;exact ⟨ps,e _ q,Rz r fun _ _ z=>⟨z.1,z.2.mono st⟩⟩
   | true=>obtain ⟨ps,q,r⟩:=h;exact ⟨ps,e _ q,Rz r fun _ _ z=>⟨z.1,z.2.mono st⟩⟩
 | fdc kvs=>obtain ⟨ob,ps,q,r⟩:=h;exact ⟨ob,ps,e _ q,Rz r fun _ _ z=>⟨z.1,z.2.mono st⟩⟩
theorem RM.new {p:Addr} {ho:HO} (r:RM K M H) (n:H p=none):RM K M (upd H p ho):=fun a o e=>by
 have ne:a≠p:=fun z=>by subst z;obtain ⟨_,q,_⟩:=r.mut e;rw [n] at q;cases q
 refine (r a o e).mono ⟨fun b xs q => ?_,fun b o u q => ?_⟩ fun j q=>by rw [ak ne];exact q
 ·rw [ak (b7 q n)];exact q
 ·rw [ak (b7 q n)];exact q
theorem RE {p:Addr} {ho:HO} (n:H p=none):Ext M H M (upd H p ho):=⟨fun a o _ e=>by rw [ak (b7 e n)];exact e,fun _ _ _ _=>rfl⟩
theorem RM.lay {p:Addr} {ho:HO} {o:O} (r:RM K M H) (n:H p=none) (h:RO K (upd H p ho) p o):RM K (ah M p o) (upd H p ho):=fun a o' e=>by
 by_cases z:a=p
 ·subst z;rw [ad] at e;cases e;exact h
 ·rw [aR z] at e;exact r.new n a o' e
theorem Ext.lay {p:Addr} {ho:HO} {o:O} (n:H p=none):Ext M H (ah M p o) (upd H p ho) :=
 ⟨fun a u _ e=>by rw [ak (b7 e n)];exact e,fun a u m e=>by rw [aR (b7 e n)]⟩
theorem RM.put {p:Addr} {ho:HO} {o o0:O} (r:RM K M H) (m:M p=some o0) (h:RO K (upd H p ho) p o) (w:fz (some o0)=false:=by rfl):RM K (ah M p o) (upd H p ho):=fun a o' e=>by
 by_cases z:a=p
 ·subst z;rw [ad] at e;cases e;exact h
 ·rw [aR z] at e;obtain ⟨J,j,B,F⟩:=r.mut m;refine (r a o' e).mono ⟨fun b xs q => ?_,fun b o u q => ?_⟩ fun G q=>by rw [ak z];exact q
  ·rw [ak (fun z=>by subst z;rw [j] at q;cases q;exact B xs rfl)];exact q
  ·rw [ak (fun z=>by subst z;rw [j] at q;cases q;exact (F w).2 o u rfl)];exact q
theorem Ext.put {p:Addr} {ho:HO} {o o0:O} (m:M p=some o0) (w:fz (some o0)=false:=by rfl):Ext M H (ah M p o) (upd H p ho) :=
 ⟨fun a u n e=>by rw [ak (fun z=>by subst z;rw [m,w] at n;cases n)];exact e,fun a u n e=>aR (fun z=>by subst z;rw [m,w] at n;cases n)⟩
theorem RM.stabPut {p:Addr} {ho:HO} {o0:O} (r:RM K M H) (m:M p=some o0) (w:fz (some o0)=false:=by rfl):Stab H (upd H p ho):=(Ext.put (o:=o0) (ho:=ho) m w).stab r
end
noncomputable abbrev QD:=D->Mem->Prop
noncomputable abbrev TEd:=av->Mem->QD->Prop
noncomputable abbrev TTd:=av->Mem->(Bool->Mem->Prop)->Prop
noncomputable abbrev TAd:=av->Mem->(List D->Mem->Prop)->Prop
structure bC where
 nx:av->Mem->Prop
 rt:QD
 bk:av->Mem->Prop:=fun _ _=>False
 ct:av->Mem->Prop:=fun _ _=>False
noncomputable abbrev TSd:=bC->av->Mem->Prop
def ae (T:TEd):Prop := ∀ ρ M Q Q',(∀ d M',Q d M'->Q' d M')->T ρ M Q->T ρ M Q'
def aH (T:TTd):Prop := ∀ ρ M Q Q',(∀ d M',Q d M'->Q' d M')->T ρ M Q->T ρ M Q'
def bp (T:TAd):Prop := ∀ ρ M Q Q',(∀ d M',Q d M'->Q' d M')->T ρ M Q->T ρ M Q'
structure LeD (a b:bC):Prop where
 nx:∀ ρ M,a.nx ρ M->b.nx ρ M
 rt:∀ d M,a.rt d M->b.rt d M
 bk:∀ ρ M,a.bk ρ M->b.bk ρ M
 ct:∀ ρ M,a.ct ρ M->b.ct ρ M
def aI (T:TSd):Prop := ∀ a b ρ M,LeD a b->T a ρ M->T b ρ M
noncomputable def KE' (K:Frag) (M:Mem) (H:Hp) (Q:VK):QD:=fun d M' => ∀ v H',Ext M H M' H'->RM K M' H'->RD K H' d v->Q v H'
noncomputable def KT' (K:Frag) (M:Mem) (H:Hp) (Q:Bool->Hp->Prop):Bool->Mem->Prop:=fun b M' => ∀ H',Ext M H M' H'->RM K M' H'->Q b H'
noncomputable def KA' (K:Frag) (M:Mem) (H:Hp) (Q:List V->Hp->Prop):List D->Mem->Prop:=fun ds M' => ∀ vs H',Ext M H M' H'->RM K M' H'->RDs K H' ds vs->Q vs H'
noncomputable def lE (K:Frag) (T:TEd):TE:=fun σ H Q => ∃ ρ M,RS K H σ ρ /\ RM K M H/\T ρ M (KE' K M H Q)
noncomputable def lT (K:Frag) (T:TTd):TT:=fun σ H Q => ∃ ρ M,RS K H σ ρ /\ RM K M H/\T ρ M (KT' K M H Q)
noncomputable def lA (K:Frag) (T:TAd):TA:=fun σ H Q => ∃ ρ M,RS K H σ ρ /\ RM K M H/\T ρ M (KA' K M H Q)
structure Link (K:Frag) (M:Mem) (H:Hp) (a:bC) (b:bE):Prop where
 nx:∀ ρ M' σ H',Ext M H M' H'->RS K H' σ ρ -> RM K M' H'->a.nx ρ M'->b.nx σ H'
 rt:∀ d M' v H',Ext M H M' H'->RM K M' H'->RD K H' d v->a.rt d M'->b.rt v H'
 bk:∀ ρ M' σ H',Ext M H M' H'->RS K H' σ ρ -> RM K M' H'->a.bk ρ M'->b.bk σ H'
 ct:∀ ρ M' σ H',Ext M H M' H'->RS K H' σ ρ -> RM K M' H'->a.ct ρ M'->b.ct σ H'
noncomputable def lS (K:Frag) (T:TSd):TS:=fun D σ H => ∃ ρ M A,RS K H σ ρ /\ RM K M H/\Link K M H A D/\T A ρ M
theorem Link.ext {K:Frag} {M M':Mem} {H H':Hp} {a:bC} {b:bE} (l:Link K M H a b) (x:Ext M H M' H'):Link K M' H' a b :=
 ⟨fun ρ M2 σ H2 y=>l.nx ρ M2 σ H2 (x.trans y),fun d M2 v H2 y=>l.rt d M2 v H2 (x.trans y),fun ρ M2 σ H2 y=>l.bk ρ M2 σ H2 (x.trans y),fun ρ M2 σ H2 y=>l.ct ρ M2 σ H2 (x.trans y)⟩
theorem PE.imp {X:Cx} {e:Expr} {t t':TE} (h:PE X e t) (i:∀ σ H Q,t' σ H Q->t σ H Q):PE X e t':=fun pins s σ H Q I q=>h pins s σ H Q I (i _ _ _ q)
theorem PT.imp {X:Cx} {e:Expr} {t t':TT} (h:PT X e t) (i:∀ σ H Q,t' σ H Q->t σ H Q):PT X e t':=fun pins s σ H Q I q=>h pins s σ H Q I (i _ _ _ q)
theorem PW.imp {X:Cx} {e:Expr} {t t':TT} (h:PW X e t) (i:∀ σ H Q,t' σ H Q->t σ H Q):PW X e t':=fun wh pins s σ H Q I q=>h wh pins s σ H Q I (i _ _ _ q)
theorem PA.imp {X:Cx} {e:List Expr} {t t':TA} (h:PA X e t) (i:∀ σ H Q,t' σ H Q->t σ H Q):PA X e t':=fun p pins s σ H Q I q=>h p pins s σ H Q I (i _ _ _ q)
theorem PS.imp {X:Cx} {e:Stmt} {t t':TS} (h:PS X e t) (i:∀ D σ H,t' D σ H->t D σ H):PS X e t':=fun pins s σ H D I q=>h pins s σ H D I (i _ _ _ q)
theorem PSs.imp {X:Cx} {e:List Stmt} {t t':TS} (h:PSs X e t) (i:∀ D σ H,t' D σ H->t D σ H):PSs X e t':=fun pins s σ H D I q=>h pins s σ H D I (i _ _ _ q)
end
section
theorem KE'.ext {K:Frag} {M M2 M':Mem} {H H2:Hp} {Q:VK} {d:D} (x:Ext M H M2 H2) (h:KE' K M H Q d M'):KE' K M2 H2 Q d M':=fun v H' y=>h v H' (x.trans y)
theorem KT'.ext {K:Frag} {M M2 M':Mem} {H H2:Hp} {Q:Bool->Hp->Prop} {d:Bool} (x:Ext M H M2 H2) (h:KT' K M H Q d M'):KT' K M2 H2 Q d M':=fun H' y=>h H' (x.trans y)
noncomputable abbrev R2d:=D->D->Mem->QD->Prop
noncomputable abbrev R1d:=D->Mem->QD->Prop
noncomputable abbrev RAd:=List D->Mem->QD->Prop
def aJ (r:R2d):Prop := ∀ x y M Q Q',(∀ d M',Q d M'->Q' d M')->r x y M Q->r x y M Q'
def sj (r:R1d):Prop := ∀ x M Q Q',(∀ d M',Q d M'->Q' d M')->r x M Q->r x M Q'
def b9 (r:RAd):Prop := ∀ x M Q Q',(∀ d M',Q d M'->Q' d M')->r x M Q->r x M Q'
noncomputable def l2 (K:Frag) (rd:R2d):R2:=fun v u H Q => ∃ x y M,RM K M H/\RD K H x v/\RD K H y u/\rd x y M (KE' K M H Q)
noncomputable def l1 (K:Frag) (rd:R1d):V->Hp->VK->Prop:=fun v H Q => ∃ x M,RM K M H/\RD K H x v/\rd x M (KE' K M H Q)
noncomputable def lR (K:Frag) (rd:RAd):List V->Hp->VK->Prop:=fun vs H Q => ∃ ds M,RM K M H/\RDs K H ds vs/\rd ds M (KE' K M H Q)
noncomputable def lMt (K:Frag) (rd:D->List D->Mem->QD->Prop):V->List V->Hp->VK->Prop:=fun v vs H Q => ∃ x ds M,RM K M H/\RD K H x v/\RDs K H ds vs/\rd x ds M (KE' K M H Q)
noncomputable def bu (i:Nat):TEd:=fun ρ M Q => ∃ d, ρ[i]? = some (some d)/\Q d M
noncomputable def wC (d:D):TEd:=fun _ M Q=>Q d M
noncomputable def wOp (rd:R2d) (ta tb:TEd):TEd:=fun ρ M Q=>ta ρ M fun x M1=>tb ρ M1 fun y M2=>rd x y M2 Q
noncomputable def wUn (rd:R1d) (ta:TEd):TEd:=fun ρ M Q=>ta ρ M fun x M1=>rd x M1 Q
noncomputable def bv:TAd:=fun _ M Q=>Q [] M
noncomputable def ax (ta:TEd) (tr:TAd):TAd:=fun ρ M Q=>ta ρ M fun x M1=>tr ρ M1 fun xs M2=>Q (x::xs) M2
noncomputable def wAr (rd:RAd) (t:TAd):TEd:=fun ρ M Q=>t ρ M fun ds M1=>rd ds M1 Q
theorem xk {i:Nat}:ae (bu i):=fun _ _ _ _ h ⟨d,e,q⟩=>⟨d,e,h _ _ q⟩
theorem nB {d:D}:ae (wC d):=fun _ _ _ _ h q=>h _ _ q
theorem eW {rd:R2d} {ta tb:TEd} (j:aJ rd) (z:ae ta) (hb:ae tb):ae (wOp rd ta tb):=fun ρ M Q Q' h q =>
 z _ _ _ _ (fun x G B=>hb _ _ _ _ (fun y M2 F=>j _ _ _ _ _ h F) B) q
theorem Ad {rd:R1d} {ta:TEd} (j:sj rd) (z:ae ta):ae (wUn rd ta):=fun ρ M Q Q' h q=>z _ _ _ _ (fun x F B=>j _ _ _ _ h B) q
theorem aq:bp bv:=fun _ _ _ _ h q=>h _ _ q
theorem aj {ta:TEd} {tr:TAd} (j:ae ta) (z:bp tr):bp (ax ta tr):=fun ρ M Q Q' h q =>
 j _ _ _ _ (fun x G B=>z _ _ _ _ (fun xs M2 F=>h _ _ F) B) q
theorem gQ {rd:RAd} {t:TAd} (j:b9 rd) (z:bp t):ae (wAr rd t):=fun ρ M Q Q' h q=>z _ _ _ _ (fun ds F B=>j _ _ _ _ h B) q
section
variable {X:Cx} {a b:Expr} {ta tb:TEd} {pos:Pos}
theorem Cp {i:Nat} {x:Str} (B:X.N[i]? = some x) (j:Vis X.env.scope x) (hd:(x==("__debug__":Str))=false) (z:(x==("__classdict__":Str))=false):PE X (.Name x pos) (lE X.K (bu i)):=by
 refine PE.imp (BK B j hd z) fun σ H Q h => ?_;obtain ⟨ρ,M,rs,rm,d,e,q⟩:=h;obtain ⟨v,j,rd⟩:=rs.2 i d e;exact ⟨v,j,q v H Ext.refl rm rd⟩
theorem Cq {i:Int} {j:Nat}:PE X (.Constant (.int i) j pos) (lE X.K (wC (.int i))) :=
 PE.imp BL fun σ H Q ⟨ρ,M,rs,rm,q⟩=>q _ H Ext.refl rm (Rt.mpr rfl)
theorem DV {i:Bool} {j:Nat}:PE X (.Constant (.bool i) j pos) (lE X.K (wC (.bl i))) :=
 PE.imp DA fun σ H Q ⟨ρ,M,rs,rm,q⟩=>q _ H Ext.refl rm (Rx.mpr rfl)
theorem Cr {j:Nat}:PE X (.Constant .none j pos) (lE X.K (wC .non)) :=
 PE.imp BM fun σ H Q ⟨ρ,M,rs,rm,q⟩=>q _ H Ext.refl rm (RB.mpr rfl)
theorem gR {K:Frag} {rd:R2d} (L:aJ rd) (ma:ae ta) (mb:ae tb) (σ:St) (H:Hp) (Q:VK) (h:lE K (wOp rd ta tb) σ H Q):tOp (l2 K rd) (lE K ta) (lE K tb) σ H Q:=by
 obtain ⟨ρ,M,rs,rm,q⟩:=h;refine ⟨ρ,M,rs,rm,ma _ _ _ _ (fun x O U v H1 G j z => ?_) q⟩;refine ⟨ρ,O,rs.mono (G.stab rm),j,mb _ _ _ _ (fun y M2 Y u H2 J B F => ?_) U⟩;exact ⟨x,y,M2,B,z.mono (J.stab j),F,L _ _ _ _ _ (fun d M' k=>k.ext (G.trans J)) Y⟩
theorem DW {op:LJ} {rd:R2d} (ho:OpR X (J0 op) (l2 X.K rd)) (j:aJ rd) (ma:ae ta) (mb:ae tb) (q:PE X a (lE X.K ta)) (hb:PE X b (lE X.K tb)):PE X (.BinOp a op b pos) (lE X.K (wOp rd ta tb)) :=
 PE.imp (DJ ho q hb) (gR j ma mb)
theorem Ct {op:CmpOp} {rd:R2d} (ho:OpR X (J6 op) (l2 X.K rd)) (j:aJ rd) (ma:ae ta) (mb:ae tb) (q:PE X a (lE X.K ta)) (hb:PE X b (lE X.K tb)) (hm:Lj op b=false) :
 PE X (.Compare a [op] [b] pos) (lE X.K (wOp rd ta tb)):=PE.imp (zY ho q hb hm) (gR j ma mb)
noncomputable def iB (t:TEd):TTd:=fun ρ M Q=>t ρ M fun x M1 => ∃ k,x = .bl k/\Q k M1
theorem xm {t:TEd} (h:ae t):aH (iB t):=fun ρ M Q Q' i q=>h _ _ _ _ (fun x z ⟨k,e,j⟩=>⟨k,e,i _ _ j⟩) q
theorem xo {K:Frag} {t:TEd} (m:ae t) (σ:St) (H:Hp) (Q:Bool->Hp->Prop) (h:lT K (iB t) σ H Q):yT (lE K t) σ H Q:=by
 obtain ⟨ρ,M,rs,rm,q⟩:=h;refine ⟨ρ,M,rs,rm,m _ _ _ _ (fun x G ⟨k,e,B⟩ v H1 F j z => ?_) q⟩;subst e;exact ⟨k,Rx.mp z,B H1 F j⟩
theorem Cu {op:CmpOp} {rd:R2d} (ho:OpR X (J6 op) (l2 X.K rd)) (j:aJ rd) (ma:ae ta) (mb:ae tb) (q:PE X a (lE X.K ta)) (hb:PE X b (lE X.K tb)) (hm:Lj op b=false) :
 PT X (.Compare a [op] [b] pos) (lT X.K (iB (wOp rd ta tb))) :=
 PT.imp (zZ ho q hb hm) fun σ H Q h=>by
  have h1:=xo (eW j ma mb) σ H Q h;exact gR j ma mb σ H _ h1
theorem DX {op:UnaryOp} {rd:R1d} (ho:UnR X (unaryOp op) (l1 X.K rd)) (B:sj rd) (ma:ae ta) (F:PE X a (lE X.K ta)):PE X (.UnaryOp op a pos) (lE X.K (wUn rd ta)) :=
 PE.imp (DK ho F) fun σ H Q ⟨ρ,M,rs,rm,q⟩=>⟨ρ,M,rs,rm,ma _ _ _ _ (fun x G J v H1 L j z=>⟨x,G,j,z,B _ _ _ _ (fun d M' k=>k.ext L) J⟩) q⟩
theorem DY {rd:R2d} (ho:IxR X (l2 X.K rd)) (j:aJ rd) (ma:ae ta) (mb:ae tb) (q:PE X a (lE X.K ta)) (hb:PE X b (lE X.K tb)) (hs:kh b):PE X (.Subscript a b pos) (lE X.K (wOp rd ta tb)) :=
 PE.imp (DQ ho q hb hs) (gR j ma mb)
theorem cJ:PA X [] (lA X.K bv):=PA.imp j8 fun σ H Q ⟨ρ,M,rs,rm,q⟩=>q _ H Ext.refl rm RDs.nil
theorem uq {K:Frag} {tr:TAd} (ma:ae ta) (mr:bp tr) (σ:St) (H:Hp) (Q:List V->Hp->Prop) (h:lA K (ax ta tr) σ H Q):yU (lE K ta) (lA K tr) σ H Q:=by
 obtain ⟨ρ,M,rs,rm,q⟩:=h;refine ⟨ρ,M,rs,rm,ma _ _ _ _ (fun x L O v H1 G j z => ?_) q⟩;refine ⟨ρ,L,rs.mono (G.stab rm),j,mr _ _ _ _ (fun xs M2 U vs H2 J B F => ?_) O⟩;exact U (v::vs) H2 (G.trans J) B (RDs.cons (z.mono (J.stab j)) F)
theorem aV {e:Expr} {es:List Expr} {tr:TAd} (ma:ae ta) (mr:bp tr) (j:PE X e (lE X.K ta)) (q:PA X es (lA X.K tr)) (hs:HG (e::es) X.env=(false,eval e X.env)::HG es X.env) :
 PA X (e::es) (lA X.K (ax ta tr)):=PA.imp (cT j q hs) (uq ma mr)
theorem bS {K:Frag} {rd:RAd} {t:TAd} (B:b9 rd) (mt:bp t) (σ:St) (H:Hp) (Q:VK) (h:lE K (wAr rd t) σ H Q):tCB (lR K rd) (lA K t) σ H Q:=by
 obtain ⟨ρ,M,rs,rm,q⟩:=h;exact ⟨ρ,M,rs,rm,mt _ _ _ _ (fun ds F G vs H1 J j z=>⟨ds,F,j,z,B _ _ _ _ (fun d M' k=>k.ext J) G⟩) q⟩
noncomputable def nC:RAd:=fun ds M Q=>ds.length<=Hh/\Q (.tup ds) M
noncomputable def nD:RAd:=fun ds M Q=>ds.length<=Hh /\ ∀ p,M p=none->Q (.ref p) (ah M p (.lst ds))
theorem ut:b9 nC:=fun _ _ _ _ h ⟨z,q⟩=>⟨z,h _ _ q⟩
theorem uu:b9 nD:=fun _ _ _ _ h ⟨z,q⟩=>⟨z,fun p n=>h _ _ (q p n)⟩
theorem dP {K:Frag} {M:Mem} {H:Hp} {Q:VK} {ds:List D} {vs:List V} {p:Addr} (rm:RM K M H) (rd:RDs K H ds vs) (q:KE' K M H Q (.tup ds) M) (n:H p=none):Q (.ref p) (upd H p (.tup vs)):=by
 have x:Ext M H M (upd H p (.tup vs)):=RE n;exact q (.ref p) _ x (rm.new n) (RF ⟨p,vs,rfl,aw,rd.mono (x.stab rm)⟩)
theorem cD {K:Frag} {M:Mem} {H:Hp} {Q:VK} {ds:List D} {vs:List V} {p:Addr} (rm:RM K M H) (rd:RDs K H ds vs) (q:∀ p,M p=none->KE' K M H Q (.ref p) (ah M p (.lst ds))) (n:H p=none):Q (.ref p) (upd H p (.lst vs)):=by
 have x:Ext M H (ah M p (.lst ds)) (upd H p (.lst vs)):=Ext.lay n;have x0:Ext M H M (upd H p (.lst vs)):=RE n;exact q p (rm.out n) (.ref p) _ x (rm.lay n ⟨vs,aw,rd.mono (x0.stab rm)⟩) (Ru.mpr rfl)
theorem Cv {es:List Expr} {t:TAd} {k:Nat} (mt:bp t) (h:PA X es (lA X.K t)):PE X (.Tuple es k pos) (lE X.K (wAr nC t)) :=
 PE.imp (u7 h) fun σ H Q ⟨ρ,M,rs,rm,q⟩=>⟨ρ,M,rs,rm,mt _ _ _ _ (fun ds J ⟨z,F⟩ vs H1 G B j=>⟨by rw [j.length];exact z,fun p n=>dP B j (F.ext G) n⟩) q⟩
theorem Cw {es:List Expr} {t:TAd} (mt:bp t) (h:PA X es (lA X.K t)):PE X (.List es pos) (lE X.K (wAr nD t)) :=
 PE.imp (Cb h) fun σ H Q ⟨ρ,M,rs,rm,q⟩=>⟨ρ,M,rs,rm,mt _ _ _ _ (fun ds J ⟨z,F⟩ vs H1 G B j=>⟨by rw [j.length];exact z,fun p n=>cD B j (fun p' n'=>(F p' n').ext G) n⟩) q⟩
end
end
end Mi
end L2
namespace L2
open PySem PySem.Spec PyProof.Rows
section
section
variable {X:Cx}
theorem gh:∀ {ns:List Int} {ys:List h6},CarriedAll ys (ns.map PyData.int)->Vals (ns.map V.int) ys
 | [],ys,h=>by cases h;exact .nil
 | n::ns,ys,h=>by
   rw [Hs] at h
   cases h with
   | cons h1 h2 =>
     refine .cons ?_ (gh h2)
     cases h1
     exact ⟨_,rfl⟩
theorem Ae {e:Expr} {te:TE} {p p2 pos j:Pos} (O:X.calm=true) (he:PE X e te) (U:Gl X "list") (hm:X.mg "list" = none) (G:Gl X "range") (J:X.mg "range" = none)
 (hs:HG [e] X.env=[(false,eval e X.env)]) :
 PE X (.Call (.Name "list" p) [.Call (.Name "range" p2) [e] [] j] [] pos) (fun σ H Q=>te σ H fun x H1 => ∃ n:Nat,x = .int (n:Nat)/\n<=1000000 /\ ∀ q,H1 q=none->Q (.ref q) (upd H1 q (.lst ((B0 n).map fun i=>V.int (i:Nat))))):=by
 intro pins s σ H Q I h;refine JY (cG I U hm (u := .type "list") (by decide +kernel) ?_ (by decide) (by decide))
 refine IE ?_ rfl rfl;refine Kx ?_;refine JY (cG I G J (u := .type "range") boot_range ?_ (by decide) (by decide))
 refine IE ?_ (by rw [hs];rfl) rfl
 rw [hs];refine Kx (thn (he pins s σ H _ I h) fun u s1 ⟨x,H1,B,Y,Z⟩ => ?_);obtain ⟨n,rfl,hn,q⟩:=Z;obtain ⟨t,rfl⟩:=Y;refine LP ?_;refine call_range_1 (LP ?_);have I2:Inv X pins σ H1 { s1 with heap:=s1.heap.push { cls := .type "range",data := .fields #[.int 0 s1.toks, .int (n:Nat) t, .int 1 (s1.toks+1)] },toks:=s1.toks+1+1 }:=B.kept (t':=s1.toks+1+1) fun b ob q=>hH _ q
 obtain ⟨m,F⟩:=I2.fr;have hsz:LD 0 (n:Nat) 1=((n:Nat):Int):=by
  unfold LD;rw [if_pos (by decide)]
  by_cases h0:(0:Int) < (n:Nat)
  ·rw [if_pos h0];lia
  ·rw [if_neg h0];lia
 refine list_rangeD (news := []) (B.ok.hd O) F (fun _ hp=>by cases hp) (D1 _ rfl) ?_ hsz (by lia) fun h' tk ys _ _ kp _ _ np car => ?_
 ·unfold Builtin.Range.small;rw [hsz];have f:∀ z:Int,0<=z->z<=1000001->Na z=true:=fun z h1 h2=>by
   unfold Na;simp only [tv,decide_eq_true_eq];lia
  rw [f 0 (by lia) (by lia),f (n:Nat) (by lia) (by lia),f 1 (by lia) (by lia),if_pos (by decide),f ((n:Nat)+(1 - 1)) (by lia) (by lia)]
  simp
 ·have L:=gh car;have er:(rangeInts 0 1 n).map V.int=(B0 n).map fun i=>V.int (i:Nat):=by
   unfold rangeInts;rw [Im];exact HK fun i _=>by simp
  rw [er] at L;obtain ⟨⟨c',e'⟩,_⟩:=np;have e2:(s1.heap.push { cls := .type "range",data := .fields #[.int 0 s1.toks, .int (n:Nat) t, .int 1 (s1.toks+1)] }).objs.size=s1.heap.objs.size+1:=Io ..;have kp':∀ b o,s1.heap.get? b=some o->h'.get? b=some o:=fun b o e=>kp b o (hH _ e);refine ⟨.ref (s1.heap.push { cls := .type "range",data := .fields #[.int 0 s1.toks, .int (n:Nat) t, .int 1 (s1.toks+1)] }).objs.size,_,B.laid (t':=tk) (o := .lst ((B0 n).map fun i=>V.int (i:Nat))) kp' (by rw [e2];lia) ?_,rfl,q _ (B.hok.fresh (by rw [e2];lia))⟩
  exact ⟨by rw [A0,HD,B2];lia,ys,c',L,e'⟩
end
namespace Mi
section
variable {X:Cx}
noncomputable def ji (ta:TEd):TEd:=fun ρ M Q=>ta ρ M fun x M1 => ∃ n:Nat,x = .int (n:Nat)/\n<=1000000 /\ ∀ p,M1 p=none->Q (.ref p) (ah M1 p (.lst ((B0 n).map fun i=>D.int (i:Nat))))
theorem uw {ta:TEd} (h:ae ta):ae (ji ta):=fun ρ M Q Q' i q=>h _ _ _ _ (fun x z ⟨n,e,e1,j⟩=>⟨n,e,e1,fun p n=>i _ _ (j p n)⟩) q
theorem uA {K:Frag} {H:Hp} (n:Nat):RDs K H ((B0 n).map fun i=>D.int (i:Nat)) ((B0 n).map fun i=>V.int (i:Nat)):=by
 have:=RN (K:=K) (H:=H) ((B0 n).map fun i=>((i:Nat):Int));rw [Im,Im] at this;exact this
theorem Af {e:Expr} {ta:TEd} {p p2 pos j:Pos} (m:ae ta) (J:X.calm=true) (he:PE X e (lE X.K ta)) (L:Gl X "list") (hm:X.mg "list" = none) (B:Gl X "range") (F:X.mg "range" = none) (hs:HG [e] X.env=[(false,eval e X.env)]) :
 PE X (.Call (.Name "list" p) [.Call (.Name "range" p2) [e] [] j] [] pos) (lE X.K (ji ta)):=by
 refine PE.imp (Ae J he L hm B F hs) fun σ H Q h => ?_;obtain ⟨ρ,M,rs,rm,q⟩:=h;refine ⟨ρ,M,rs,rm,m _ _ _ _ (fun x Y ⟨n,e,hn,O⟩ v H1 U G rd1 => ?_) q⟩;subst e
 cases Rt.mp rd1
 exact ⟨n,rfl,hn,fun p z=>cD G (uA n) (fun p' n'=>(O p' n').ext U) z⟩
end
end Mi
end
section
theorem iC:fillsNumberSlot (.type "tuple") "mul" = pure false :=
 PyProof.Rows.fillsNumberSlot_seq (id := "tuple.__mul__") (r:=some (.builtin "tuple.__rmul__")) F.slot_tuple_mul.lookup (by decide +kernel) F.slot_tuple_rmul.lookup (by decide +kernel)
theorem nE:seqRepeat? (.type "tuple")=pure (some (.builtin "tuple.__mul__")):=by
 unfold seqRepeat?;rw [Oa (T := "tuple") (name := "__mul__") (id := "tuple.__mul__") F.slot_tuple_mul.lookup (by decide +kernel),Oa (T := "tuple") (name := "__rmul__") (id := "tuple.__rmul__") F.slot_tuple_rmul.lookup (by decide +kernel)]
 rfl
theorem kx (a:Int) (t:Tok) (l:Addr) (items:Array h6) (n:Nat) (d:Option Addr) (sl:Array (Option h6)) :
 Meets (Jy.«int.__rmul__» ⟨[.int a t, .ref l],[]⟩) (fun _ R s=>s.heap.get? l=some { cls := .type "tuple",dict:=d,data := .seq items n,slots:=sl }/\R (.ok (.ret Value.notImplemented)) s) :=
 .of_wp fun prog w A R s h=>by obtain ⟨j,g,d,tk,os⟩:=s;obtain ⟨q,h⟩:=h;wp_walk;exact ⟨_,rfl,h⟩
open AutoSeq1 (wpAny_loadPart') in
theorem uB (l:Addr) (items:Array h6) (n:Nat) (dd:Option Addr) (sl:Array (Option h6)) (x:Int) (u:Tok) (h1 : -(2 ^ 63)<=x) (h2:x < 2 ^ 63) (z:items.size*x.toNat<=Hh) :
 Meets (Jy.«tuple.__mul__» ⟨[.ref l, .int x u],[]⟩) (fun _ R s=>s.heap.get? l=some { cls := .type "tuple",dict:=dd,data := .seq items n,slots:=sl } /\
  (if items.isEmpty || x==1 then R (.ok (.ret (.ref l))) s else R (.ok (.ret (.ref s.heap.objs.size))) { s with heap:=s.heap.push { cls := .type "tuple",data := .seq ((Ho x.toNat items).foldl (· ++ ·) #[]) } })) :=
 .of_wp fun prog w A R s h=>by
  obtain ⟨O,g,d,tk,os⟩:=s;obtain ⟨j,h⟩:=h;have f1:=AutoSeq1.idx_int;have B:(decide (x < -(2 ^ 63)) || decide (x≥2 ^ 63))=false:=by
   rw [decide_eq_false (by lia),decide_eq_false (by lia)];rfl
  wp_walk using KN j
  refine OE (decide_eq_false (by rw [B];decide)) ?_
  dsimp only
  by_cases e1:(items.isEmpty || x==1)=true
  ·rw [if_pos e1] at h
   wp_walk using KN j
   exact ⟨_,rfl,h⟩
  ·rw [if_neg e1] at h
   wp_walk using KN j
   simp only [OF,not_or] at e1
   by_cases e2:x<=0
   ·have q:(decide (x<=0) || items.isEmpty)=true:=by rw [decide_eq_true e2];rfl
    rw [if_pos q];have F:x.toNat=0:=by lia
    rw [F] at h
    wp_walk
    exact ⟨_,rfl,h⟩
   ·have q : ¬ (decide (x<=0) || items.isEmpty)=true:=by simp;exact ⟨by lia,by simpa using e1.1⟩
    rw [if_neg q];have hx:((items.size:Nat):Int)*x=((items.size*x.toNat:Nat):Int):=by
     rw [HV,Jg (by lia)]
    have hs:Hh=16777216:=B2;have G : ¬ ((items.size:Nat):Int)*x > (2 ^ 63 - 1) / 8:=by rw [hx];lia
    rw [if_neg G];have J : ¬ Nv (((items.size:Nat):Int)*x)=true:=by
     rw [hx];unfold Nv;intro L;have U:=of_decide_eq_true L;lia
    rw [if_neg J]
    wp_walk
    have hsz:((Ho x.toNat items).foldl (· ++ ·) #[]).size<=Hh:=by
     have:∀ (k:Nat) (a:Array h6),((Ho k items).foldl (· ++ ·) a).size=a.size+items.size*k:=by
      intro k;induction k with
      | zero=>intro a;simp
      | succ k ih=>intro a;rw [IK,Lq,ih,KZ,Nat.mul_succ];lia
     rw [this];simpa using z
    refine OE (decide_eq_false (Ra.mpr hsz)) ?_
    wp_walk
    exact ⟨_,rfl,h⟩
end
section
section
variable {X:Cx}
noncomputable def zf (K:Frag):R2:=fun x y H Q => ∃ l k xs,x = .ref l/\y = .int k/\SqT K H l xs /\ -(2 ^ 63)<=k/\k < 2 ^ 63/\xs.length*k.toNat<=Hh /\
 ((xs=[]∨k=1)->Q (.ref l) H)/\(¬ (xs=[]∨k=1) -> ∀ p,H p=none->Q (.ref p) (upd H p (.tup (Ho k.toNat xs).flatten)))
theorem Ag:OpR X (J0 .Mult) (zf X.K):=by
 intro pins s σ H x y v u Q I rx ry h;obtain ⟨l,k,xs,rfl,rfl,G,h1,h2,j,J,L⟩:=h
 cases rx
 obtain ⟨t,rfl⟩:=ry;obtain ⟨its,r,O,_⟩:=I.tuple G;have Y:=r.length;obtain ⟨⟨cls,dd,dat,sl⟩,e,B,n,hd⟩:=O;dsimp only at B hd;subst B hd;have hlen:its.toArray.size*k.toNat<=Hh:=by rw [Hj, <- Y];exact j
 have f0:∀ m:Nat,Mp (fun Z x2=>Z++x2) #[] (Ho m its.toArray)=(Ho m its).flatten.toArray:=fun m=>by
  have:=gb its m [];rw [MV] at this;exact this
 refine NG (T := "tuple") (U := "int") (by decide) ⟨_,e,rfl⟩ (fun s'=>Ov s' k t) iC QX MW nE F.slot_int_index.lookup
  (Lv MW (Ov s k t) Qr (Q8 _ _) (kx k t l its.toArray n dd sl)
    ⟨e,rfl,⟨_,e,rfl⟩,Lv F.slot_tuple_mul ⟨_,e,rfl⟩ F.entry_tuple_mul (F.args_tuple_mul_2 _ _) (uB l its.toArray n dd sl k t h1 h2 hlen) ⟨e, ?_⟩⟩)
 have hi:(its.toArray.isEmpty || k==1)=true↔(xs=[]∨k=1):=by
  rw [<- r.nil_iff];simp
 split
 ·next c=>exact ⟨.ref l,H,I,rfl,J (hi.mp c)⟩
 ·next c =>
  rw [f0];refine ⟨.ref s.heap.objs.size,_,I.laid (t':=s.toks) (o := .tup (Ho k.toNat xs).flatten) (fun b ob q=>hH _ q) (Hk _) ?_,rfl,L (fun z=>c (hi.mpr z)) _ (I.hok.fresh (Hk _))⟩;exact ⟨by rw [qr,LV];exact j,_,r.rep k.toNat,LC _ _⟩
end
end
section
section
variable {X:Cx}
theorem Ah:OpR X (J0 .Add) (fun x y H Q => ∃ a b ys,x = .ref a/\y = .ref b/\SqT X.K H a []/\SqT X.K H b ys/\Q (.ref b) H):=by
 intro pins s σ H x y v u Q I rx ry h;obtain ⟨a,b,ys,rfl,rfl,U,hb,q⟩:=h
 cases rx
 cases ry
 obtain ⟨its,Y,Z,_⟩:=I.tuple U;obtain ⟨j,r2,p2,_⟩:=I.tuple hb;have e0:its=[]:=Y.nil_iff.mpr rfl;obtain ⟨⟨cls,dd,data,sl⟩,ho,L,n,hd⟩:=id Z;obtain ⟨⟨O,G,data2,J⟩,z,B,n2,hd2⟩:=id p2;simp only at L hd B hd2;subst L hd B hd2;exact Q6 ⟨_,ho,rfl⟩ ⟨_,z,rfl⟩ O0 Pp LS LG (Ll _ _)
  (tuple_addW0 a b its.toArray j.toArray n n2 dd G sl J (by simp [e0])) ⟨ho,z,⟨.ref b,H,I,rfl,q⟩⟩
end
end
end L2
namespace L2
namespace Mi
open PySem PySem.Spec PyProof.Rows
section
def MulOk (i j:Int):Prop:=(-(2 ^ 64) < i/\i < 2 ^ 64)∨(-(2 ^ 64) < j/\j < 2 ^ 64)∨(Pn i<=2 ^ 20/\Pn j<=2 ^ 20)
theorem MulOk.ok {i j:Int} (h:MulOk i j):IntMulOk i j:=by
 rcases h with h | h | h
 ·exact IntMulOk.of_left (intBits_le_64 h.1 h.2)
 ·exact IntMulOk.of_right (intBits_le_64 h.1 h.2)
 ·exact IntMulOk.of_bits h.1 h.2
noncomputable def iD:R2d
 | .int i, .int j,M,Q=>Q (.int (i+j)) M
 | .tup a, .tup b,M,Q=>(a≠[]∨True)/\a.length+b.length<=Hh/\Q (.tup (a++b)) M
 | .ref a, .ref b,M,Q => ∃ xs ys,M a=some (.lst xs)/\M b=some (.lst ys)/\xs.length+ys.length<=Hh /\ ∀ p,M p=none->Q (.ref p) (ah M p (.lst (xs++ys)))
 | .str x, .str y,M,Q=>x.length+y.length<=Hh/\Q (.str (x++y)) M
 | _,_,_,_=>False
noncomputable def ky:R2d
 | .int i, .int j,M,Q=>Q (.int (i - j)) M
 | _,_,_,_=>False
noncomputable def gi:R2d
 | .int i, .int j,M,Q=>MulOk i j/\Q (.int (i*j)) M
 | .ref a, .int k,M,Q => ∃ xs,M a=some (.lst xs) /\ -(2 ^ 63)<=k/\k < 2 ^ 63/\xs.length*k.toNat<=Hh /\ ∀ p,M p=none->Q (.ref p) (ah M p (.lst (Ho k.toNat xs).flatten))
 | .tup ds, .int k,M,Q => -(2 ^ 63)<=k/\k < 2 ^ 63/\ds.length*k.toNat<=Hh/\Q (.tup (Ho k.toNat ds).flatten) M
 | _,_,_,_=>False
noncomputable def jj:R2d
 | .int i, .int j,M,Q => 0 < j/\j < 2 ^ 256/\Q (.int (i / j)) M
 | _,_,_,_=>False
noncomputable def nF:R2d
 | .int i, .int j,M,Q => 0 < j/\Q (.int (i % j)) M
 | _,_,_,_=>False
noncomputable def sk:R2d
 | .int i, .int j,M,Q => 0<=j/\j<=1000000/\i.natAbs < 2 ^ 64/\Q (.int (i ^ j.toNat)) M
 | _,_,_,_=>False
theorem xq:aJ iD:=by
 intro x y M Q Q' h q
 cases x <;> cases y <;> first
  | exact q.elim
  | exact h _ _ q
  | exact ⟨q.1,h _ _ q.2⟩
  | exact ⟨q.1,q.2.1,h _ _ q.2.2⟩
  | (obtain ⟨xs,ys,e1,e2,z,q⟩:=q;exact ⟨xs,ys,e1,e2,z,fun p n=>h _ _ (q p n)⟩)
theorem xr:aJ ky:=by
 intro x y M Q Q' h q
 cases x <;> cases y <;> first | exact q.elim | exact h _ _ q
theorem xt:aJ gi:=by
 intro x y M Q Q' h q
 cases x <;> cases y <;> first
  | exact q.elim
  | exact ⟨q.1,h _ _ q.2⟩
  | exact ⟨q.1,q.2.1,q.2.2.1,h _ _ q.2.2.2⟩
  | (obtain ⟨xs,e1,j,z,B,q⟩:=q;exact ⟨xs,e1,j,z,B,fun p n=>h _ _ (q p n)⟩)
theorem uC:aJ jj:=by
 intro x y M Q Q' h q
 cases x <;> cases y <;> first | exact q.elim | exact ⟨q.1,q.2.1,h _ _ q.2.2⟩
theorem xu:aJ nF:=by
 intro x y M Q Q' h q
 cases x <;> cases y <;> first | exact q.elim | exact ⟨q.1,h _ _ q.2⟩
theorem xv:aJ sk:=by
 intro x y M Q Q' h q
 cases x <;> cases y <;> first | exact q.elim | exact ⟨q.1,q.2.1,q.2.2.1,h _ _ q.2.2.2⟩
section
variable {X:Cx}
theorem OpR.of {f:h6->h6->Sem h6} {r r':R2} (h:OpR X f r) (i:∀ v u H Q,r' v u H Q->r v u H Q):OpR X f r':=fun pins s σ H x y v u Q I rx ry q=>h pins s σ H x y v u Q I rx ry (i _ _ _ _ q)
theorem IxR.of {r r':R2} (h:IxR X r) (i:∀ v u H Q,r' v u H Q->r v u H Q):IxR X r':=fun a b pins s σ H x y v u Q I rx ry q=>h a b pins s σ H x y v u Q I rx ry (i _ _ _ _ q)
theorem CallR.of {f:h6} {r r':List V->Hp->VK->Prop} (h:CallR X f r) (i:∀ vs H Q,r' vs H Q->r vs H Q):CallR X f r':=fun pins s σ H xs us Q I rx q=>h pins s σ H xs us Q I rx (i _ _ _ q)
theorem DZ {K:Frag} {M:Mem} {H:Hp} {Q:VK} {a b:List D} {v u:V} (rm:RM K M H) (rx:RD K H (.tup a) v) (ry:RD K H (.tup b) u) (q:iD (.tup a) (.tup b) M (KE' K M H Q)):yW K v u H Q ∨ ∃ a b ys,v = .ref a/\u = .ref b/\SqT K H a []/\SqT K H b ys/\Q (.ref b) H:=by
 obtain ⟨a',vs,rfl,z,j⟩:=Ry rx;obtain ⟨b',us,rfl,hb,B⟩:=Ry ry;obtain ⟨_,G,q⟩:=q;have l1:=j.length;have l2:=B.length
 by_cases F:a=[]
 ·subst F;have:vs=[]:=RDs.nil_iff.mp j;subst this;exact .inr ⟨a',b',us,rfl,rfl,z,hb,q _ H Ext.refl rm ry⟩
 refine .inl ⟨a',b',vs,us,rfl,rfl,z,hb,fun e=>F (Ij.mp (by rw [<- l1,e];rfl)),by lia,fun e => ?_,fun _ p n=>dP rm (j.append B) q n⟩
 have eb:b=[]:=Ij.mp (by rw [<- l2,e];rfl)
 subst eb;rw [Jl] at q;exact q _ H Ext.refl rm rx
theorem xw:OpR X (J0 .Add) (l2 X.K iD):=by
 refine OpR.of (op_add.or ((op_catT.or Ah).or (op_cat.or rW))) fun v u H Q h => ?_;obtain ⟨x,y,M,rm,rx,ry,q⟩:=h
 cases x <;> cases y <;> first
  | exact q.elim
  | (cases Rt.mp rx;cases Rt.mp ry;exact .inl ⟨_,_,rfl,rfl,q _ H Ext.refl rm (Rt.mpr rfl)⟩)
  | exact .inr (.inl (DZ rm rx ry q))
  | (cases Ru.mp rx;cases Ru.mp ry
     obtain ⟨xs,ys,e1,e2,z,q⟩:=q;obtain ⟨vs,h1,j⟩:=rm _ _ e1;obtain ⟨us,h2,B⟩:=rm _ _ e2;have l1:=j.length;have l2:=B.length;refine .inr (.inr (.inl ⟨_,_,vs,us,rfl,rfl,h1,h2,by lia,fun p n=>cD rm (j.append B) q n⟩)))
  | (cases RC.mp rx;cases RC.mp ry;exact .inr (.inr (.inr ⟨_,_,rfl,rfl,q.1,q.2 _ H Ext.refl rm (RC.mpr rfl)⟩)))
theorem xx:OpR X (J0 .Sub) (l2 X.K ky):=by
 refine OpR.of C5 fun v u H Q h => ?_;obtain ⟨x,y,M,rm,rx,ry,q⟩:=h
 cases x <;> cases y <;> first
  | exact q.elim
  | (cases Rt.mp rx;cases Rt.mp ry;exact ⟨_,_,rfl,rfl,q _ H Ext.refl rm (Rt.mpr rfl)⟩)
theorem op_mul_i:OpR X (J0 .Mult) (rI MulOk fun i j => .int (i*j)):=opI fun _ _ _ _ _ _ _ z q=>mul_int q z.ok
theorem E1 {K:Frag} {M:Mem} {H:Hp} {Q:VK} {a:List D} {k:Int} {v u:V} (rm:RM K M H) (rx:RD K H (.tup a) v) (ry:RD K H (.int k) u) (q:gi (.tup a) (.int k) M (KE' K M H Q)):zf K v u H Q:=by
 obtain ⟨a',vs,rfl,z,j⟩:=Ry rx
 cases Rt.mp ry
 obtain ⟨B,F,G,q⟩:=q;have l1:=j.length;refine ⟨a',k,vs,rfl,rfl,z,B,F,by rw [l1];exact G,fun e => ?_,fun _ p n=>dP rm (j.rep _) q n⟩
 have ea:(Ho k.toNat a).flatten=a:=by
  rcases e with e | e
  ·have:a=[]:=Ij.mp (by rw [<- l1,e];rfl)
   subst this;simp
  ·subst e;simp
 rw [ea] at q;exact q _ H Ext.refl rm rx
theorem xz:OpR X (J0 .Mult) (l2 X.K gi):=by
 refine OpR.of (op_mul_i.or (op_rep.or Ag)) fun v u H Q h => ?_;obtain ⟨x,y,M,rm,rx,ry,q⟩:=h
 cases x <;> cases y <;> first
  | exact q.elim
  | (cases Rt.mp rx;cases Rt.mp ry;exact .inl ⟨_,_,rfl,rfl,q.1,q.2 _ H Ext.refl rm (Rt.mpr rfl)⟩)
  | (cases Ru.mp rx;cases Rt.mp ry
     obtain ⟨xs,e1,z,B,F,q⟩:=q;obtain ⟨vs,h1,j⟩:=rm _ _ e1;have l1:=j.length;exact .inr (.inl ⟨_,_,vs,rfl,rfl,h1,z,B,by rw [l1];exact F,fun p n=>cD rm (j.rep _) q n⟩))
  | exact .inr (.inr (E1 rm rx ry q))
theorem xA:OpR X (J0 .FloorDiv) (rI (fun _ j => 0 < j/\j < 2 ^ 256) fun i j => .int (i / j)):=L2.opI fun i j _ _ _ _ _ z q=>by
 have h1:(0:Int) < j:=z.1;have h2:j < 2 ^ 256:=z.2;have B:j.natAbs.log2 < 256:=(Nat.log2_lt (by lia)).mpr (by lia)
 exact floordiv_int (by lia) (by rw [Int.fdiv_eq_ediv_of_nonneg i (by lia)];exact q) (.inl (PyProof.noPylong_of_log2 (by lia)))
theorem uD:OpR X (J0 .FloorDiv) (l2 X.K jj):=by
 refine OpR.of xA fun v u H Q h => ?_;obtain ⟨x,y,M,rm,rx,ry,q⟩:=h
 cases x <;> cases y <;> first
  | exact q.elim
  | (cases Rt.mp rx;cases Rt.mp ry;exact ⟨_,_,rfl,rfl,⟨q.1,q.2.1⟩,q.2.2 _ H Ext.refl rm (Rt.mpr rfl)⟩)
theorem xB:OpR X (J0 .Mod) (l2 X.K nF):=by
 refine OpR.of C6 fun v u H Q h => ?_;obtain ⟨x,y,M,rm,rx,ry,q⟩:=h
 cases x <;> cases y <;> first
  | exact q.elim
  | (cases Rt.mp rx;cases Rt.mp ry;exact ⟨_,_,rfl,rfl,q.1,q.2 _ H Ext.refl rm (Rt.mpr rfl)⟩)
theorem xC:OpR X (J0 .Pow) (l2 X.K sk):=by
 refine OpR.of C7 fun v u H Q h => ?_;obtain ⟨x,y,M,rm,rx,ry,q⟩:=h
 cases x <;> cases y <;> first
  | exact q.elim
  | (cases Rt.mp rx;cases Rt.mp ry;exact ⟨_,_,rfl,rfl,⟨q.1,q.2.1,q.2.2.1⟩,q.2.2.2 _ H Ext.refl rm (Rt.mpr rfl)⟩)
noncomputable def sn:R1d
 | .int i,M,Q=>Q (.int (-i)) M
 | _,_,_=>False
theorem nG:sj sn:=by
 intro x M Q Q' h q
 cases x <;> first | exact q.elim | exact h _ _ q
theorem UnR.of {f:h6->Sem h6} {r r':V->Hp->VK->Prop} (h:UnR X f r) (i:∀ v H Q,r' v H Q->r v H Q):UnR X f r':=fun pins s σ H x v Q I rx q=>h pins s σ H x v Q I rx (i _ _ _ q)
theorem xD:UnR X (unaryOp .USub) (l1 X.K sn):=by
 refine UnR.of C8 fun v H Q h => ?_;obtain ⟨x,M,rm,rx,q⟩:=h
 cases x <;> first
  | exact q.elim
  | (cases Rt.mp rx;exact ⟨_,rfl,q _ H Ext.refl rm (Rt.mpr rfl)⟩)
noncomputable def aN {α β:Type} (f : α -> Option β):List α -> Option (List β)
 | [] => some []
 | x::xs=>(f x).bind fun y=>(aN f xs).map (y :: ·)
noncomputable def rb:Nat->Mem->D->Option IJ
 | _,_, .non=>some .none
 | _,_, .bl b=>some (.bool b)
 | _,_, .int i=>some (.int i)
 | _,_, .str x=>if PyData.strOk x=true then some (.str x) else none
 | n+1,M, .tup ds=>(aN (rb n M) ds).map PyData.tuple
 | n+1,M, .con ds=>(aN (rb n M) ds).map QN
 | n+1,M, .ref a=>match M a with
   | some (.lst ds)=>(aN (rb n M) ds).map QN
   | _=>none
 | 0,_, .tup _=>none
 | 0,_, .con _=>none
 | 0,_, .ref _=>none
theorem dG {n:Nat} {M:Mem} (ih:∀ d p,rb n M d=some p->p.depth<=n/\p.canLay0=true):∀ {ds:List D} {ps:List IJ},aN (rb n M) ds=some ps->JK ps<=n/\IS ps=true
 | [],ps,h=>by
  simp [aN] at h;subst h;exact ⟨J9 _,rfl⟩
 | d::ds,ps,h=>by
   simp only [aN] at h
   cases e1:rb n M d with
   | none=>rw [e1] at h;cases h
   | some p =>
     rw [e1] at h
     cases e2:aN (rb n M) ds with
     | none=>simp [e2] at h
     | some qs =>
       simp [e2] at h;subst h;obtain ⟨a1,a2⟩:=ih d p e1;obtain ⟨b1,b2⟩:=dG ih e2;refine ⟨?_, ?_⟩
       ·show max p.depth (JK qs)<=n;lia
       ·show (p.canLay0&&IS qs)=true;rw [a2,b2];rfl
theorem cA {M:Mem}:∀ (n:Nat) (d:D) (p:IJ),rb n M d=some p->p.depth<=n/\p.canLay0=true
 | n, .non,p,h=>by simp [rb] at h;subst h;exact ⟨J9 _,rfl⟩
 | n, .bl b,p,h=>by simp [rb] at h;subst h;exact ⟨J9 _,rfl⟩
 | n, .int b,p,h=>by simp [rb] at h;subst h;exact ⟨J9 _,rfl⟩
 | n, .str x,p,h=>by
   simp [rb] at h;obtain ⟨h1,h2⟩:=h;subst h2;exact ⟨J9 _,h1⟩
 | 0, .tup _,p,h=>by simp [rb] at h
 | 0, .con _,p,h=>by simp [rb] at h
 | 0, .ref _,p,h=>by simp [rb] at h
 | n+1, .tup ds,p,h=>by
   simp only [rb] at h
   cases e:aN (rb n M) ds with
   | none=>rw [e] at h;cases h
   | some ps =>
     rw [e] at h;cases h;obtain ⟨a,b⟩:=dG (cA n) e;exact ⟨Ob a,b⟩
 | n+1, .con ds,p,h=>by
   simp only [rb] at h
   cases e:aN (rb n M) ds with
   | none=>rw [e] at h;cases h
   | some ps =>
     rw [e] at h;cases h;obtain ⟨a,b⟩:=dG (cA n) e;exact ⟨Ob a,b⟩
 | n+1, .ref a,p,h=>by
   simp only [rb] at h
   cases e0:M a with
   | none=>rw [e0] at h;cases h
   | some o =>
     rw [e0] at h
     cases o with
     | dct _ _=>cases h
     | fdc _=>cases h
     | lst ds =>
       simp only at h
       cases e:aN (rb n M) ds with
       | none=>rw [e] at h;cases h
       | some ps =>
         rw [e] at h;cases h;obtain ⟨a,b⟩:=dG (cA n) e;exact ⟨Ob a,b⟩
theorem dH {K:Frag} {H:Hp} {n:Nat} {M:Mem} {h:Heap} (ih:∀ d p v u,rb n M d=some p->RD K H d v->RelV v u -> ∃ as,LZ h u p as) :
 ∀ {ds:List D} {ps:List IJ} {vs:List V} {us:List h6},aN (rb n M) ds=some ps->RDs K H ds vs->Vals vs us -> ∃ as,OW h us ps as
 | [],ps,vs,us,hm,r,rv=>by
  simp [aN] at hm;subst hm;rw [RDs.nil_iff.mp r] at rv
  cases rv
  exact ⟨_, .nil⟩
 | d::ds,ps,vs,us,hm,r,rv=>by
   obtain ⟨v,vr,rfl,j,q⟩:=Rw.mp r
   cases rv with
   | cons z B =>
     simp only [aN] at hm
     cases e1:rb n M d with
     | none=>rw [e1] at hm;cases hm
     | some p =>
       rw [e1] at hm
       cases e2:aN (rb n M) ds with
       | none=>simp [e2] at hm
       | some qs =>
         simp [e2] at hm;subst hm;obtain ⟨as,ra⟩:=ih d p v _ e1 j z;obtain ⟨bs,rbs⟩:=dH ih e2 q B;exact ⟨_, .cons ra rbs⟩
theorem bX {pins:List (Addr×Obj)} {σ:St} {H:Hp} {s:z4} {M:Mem} (I:Inv X pins σ H s) (rm:RM X.K M H):∀ (n:Nat) (d:D) (p:IJ) (v:V) (u:h6),rb n M d=some p->RD X.K H d v->RelV v u -> ∃ as,LZ s.heap u p as
 | n, .non,p,v,u,h,r,q=>by simp [rb] at h;subst h;cases RB.mp r;cases q;exact ⟨_, .none⟩
 | n, .bl b,p,v,u,h,r,q=>by simp [rb] at h;subst h;cases Rx.mp r;cases q;exact ⟨_, .bool b⟩
 | n, .int b,p,v,u,h,r,q=>by simp [rb] at h;subst h;cases Rt.mp r;obtain ⟨t,rfl⟩:=q;exact ⟨_, .int b t⟩
 | n, .str x,p,v,u,h,r,q=>by
   simp [rb] at h;obtain ⟨_,h2⟩:=h;subst h2;cases RC.mp r;obtain ⟨t,rfl⟩:=q;exact ⟨_, .str x t⟩
 | 0, .tup _,p,_,_,h,_,_=>by simp [rb] at h
 | 0, .con _,p,_,_,h,_,_=>by simp [rb] at h
 | 0, .ref _,p,_,_,h,_,_=>by simp [rb] at h
 | n+1, .tup ds,p,v,u,h,r,q=>by
   simp only [rb] at h
   cases e:aN (rb n M) ds with
   | none=>rw [e] at h;cases h
   | some ps =>
     rw [e] at h;cases h;obtain ⟨a,vs,rfl,j,rs⟩:=Ry r
     cases q
     obtain ⟨its,rv,⟨o,ho,z,k,hd⟩,_⟩:=I.tuple j;obtain ⟨as,ra⟩:=dH (bX I rm n) e rs rv;exact ⟨_, .tuple ho z hd (by simpa using ra)⟩
 | n+1, .con ds,p,v,u,h,r,q=>by
   simp only [rb] at h
   cases e:aN (rb n M) ds with
   | none=>rw [e] at h;cases h
   | some ps =>
     rw [e] at h;cases h;obtain ⟨a,vs,rfl,j,rs⟩:=RA.mp r
     cases q
     obtain ⟨its,rv,⟨o,k,ho,z,_,hd⟩,_⟩:=I.list j.sq;obtain ⟨as,ra⟩:=dH (bX I rm n) e rs rv;exact ⟨_, .list ho z hd (by simpa using ra)⟩
 | n+1, .ref a,p,v,u,h,r,q=>by
   simp only [rb] at h
   cases e0:M a with
   | none=>rw [e0] at h;cases h
   | some o =>
     rw [e0] at h
     cases o with
     | dct _ _=>cases h
     | fdc _=>cases h
     | lst ds =>
       simp only at h
       cases e:aN (rb n M) ds with
       | none=>rw [e] at h;cases h
       | some ps =>
         rw [e] at h;cases h
         cases Ru.mp r
         cases q
         obtain ⟨vs,j,rs⟩:=rm _ _ e0;obtain ⟨its,rv,⟨o,k,ho,z,_,hd⟩,_⟩:=I.list (SqL.of j);obtain ⟨as,ra⟩:=dH (bX I rm n) e rs rv;exact ⟨_, .list ho z hd (by simpa using ra)⟩
noncomputable def wEq:R2d:=fun x y M Q => ∃ p q,rb 16 M x=some p/\rb 16 M y=some q/\Q (.bl (IP p q)) M
noncomputable def wNe:R2d:=fun x y M Q => ∃ p q,rb 16 M x=some p/\rb 16 M y=some q/\Q (.bl (!PyData.eqv p q)) M
theorem Ai:aJ wEq:=fun _ _ _ _ _ h ⟨p,q,a,b,c⟩=>⟨p,q,a,b,h _ _ c⟩
theorem Aj:aJ wNe:=fun _ _ _ _ _ h ⟨p,q,a,b,c⟩=>⟨p,q,a,b,h _ _ c⟩
theorem Ak (F:X.A.units+16 < JS):OpR X (J6 .Eq) (l2 X.K wEq):=by
 intro pins s σ H x y v u Q I rx ry h;obtain ⟨d,e,M,rm,rd,re,p,q,j,z,k⟩:=h;obtain ⟨as,ra⟩:=bX I rm _ _ _ _ _ j rd rx;obtain ⟨bs,rb'⟩:=bX I rm _ _ _ _ _ z re ry;obtain ⟨G,p2⟩:=cA _ _ _ j;obtain ⟨J,B⟩:=cA _ _ _ z;exact SeqAt.compareEq_reads ra rb' p2 B (by lia) ⟨.bl _,H,I,rfl,k _ H Ext.refl rm (Rx.mpr rfl)⟩
theorem Al (F:X.A.units+16 < JS):OpR X (J6 .NotEq) (l2 X.K wNe):=by
 intro pins s σ H x y v u Q I rx ry h;obtain ⟨d,e,M,rm,rd,re,p,q,j,z,k⟩:=h;obtain ⟨as,ra⟩:=bX I rm _ _ _ _ _ j rd rx;obtain ⟨bs,rb'⟩:=bX I rm _ _ _ _ _ z re ry;obtain ⟨G,p2⟩:=cA _ _ _ j;obtain ⟨J,B⟩:=cA _ _ _ z;exact SeqAt.compareNe_reads ra rb' p2 B (by lia) ⟨.bl _,H,I,rfl,k _ H Ext.refl rm (Rx.mpr rfl)⟩
noncomputable def wLt:R2d
 | .int i, .int j,M,Q=>Q (.bl (decide (i < j))) M
 | _,_,_,_=>False
noncomputable def wLe:R2d
 | .int i, .int j,M,Q=>Q (.bl (decide (i<=j))) M
 | _,_,_,_=>False
noncomputable def wGt:R2d
 | .int i, .int j,M,Q=>Q (.bl (decide (j < i))) M
 | _,_,_,_=>False
noncomputable def wGe:R2d
 | .int i, .int j,M,Q=>Q (.bl (decide (j<=i))) M
 | _,_,_,_=>False
theorem Am:aJ wLt:=by
 intro x y M Q Q' h q
 cases x <;> cases y <;> first | exact q.elim | exact h _ _ q
theorem An:aJ wGt:=by
 intro x y M Q Q' h q
 cases x <;> cases y <;> first | exact q.elim | exact h _ _ q
theorem Ao:aJ wGe:=by
 intro x y M Q Q' h q
 cases x <;> cases y <;> first | exact q.elim | exact h _ _ q
theorem Ap:OpR X (J6 .Lt) (l2 X.K wLt):=by
 refine OpR.of DL fun v u H Q h => ?_;obtain ⟨x,y,M,rm,rx,ry,q⟩:=h
 cases x <;> cases y <;> first
  | exact q.elim
  | (cases Rt.mp rx;cases Rt.mp ry;exact ⟨_,_,rfl,rfl,q _ H Ext.refl rm (Rx.mpr rfl)⟩)
theorem Aq:OpR X (J6 .Gt) (l2 X.K wGt):=by
 refine OpR.of DM fun v u H Q h => ?_;obtain ⟨x,y,M,rm,rx,ry,q⟩:=h
 cases x <;> cases y <;> first
  | exact q.elim
  | (cases Rt.mp rx;cases Rt.mp ry;exact ⟨_,_,rfl,rfl,q _ H Ext.refl rm (Rx.mpr rfl)⟩)
theorem Ar:OpR X (J6 .GtE) (l2 X.K wGe):=by
 refine OpR.of DN fun v u H Q h => ?_;obtain ⟨x,y,M,rm,rx,ry,q⟩:=h
 cases x <;> cases y <;> first
  | exact q.elim
  | (cases Rt.mp rx;cases Rt.mp ry;exact ⟨_,_,rfl,rfl,q _ H Ext.refl rm (Rx.mpr rfl)⟩)
end
end
section
noncomputable def wIx:R2d:=fun x y M Q=>match x with
 | .tup ds => ∃ i d,y = .int i/\atI ds i=some d/\Q d M
 | .con ds => ∃ i d,y = .int i/\atI ds i=some d/\Q d M
 | .ref a=>(∃ ds i d,M a=some (.lst ds)/\y = .int i/\atI ds i=some d/\Q d M)∨(∃ t kvs d,M a=some (.dct t kvs)/\gP t y=true/\dget kvs y=some d/\Q d M) ∨ ∃ kvs d,M a=some (.fdc kvs)/\bW y=true/\dget kvs y=some d/\Q d M
 | _=>False
theorem qu:aJ wIx:=by
 intro x y M Q Q' h q
 cases x with
 | tup ds=>obtain ⟨i,d,e,e2,q⟩:=q;exact ⟨i,d,e,e2,h _ _ q⟩
 | con ds=>obtain ⟨i,d,e,e2,q⟩:=q;exact ⟨i,d,e,e2,h _ _ q⟩
 | ref a =>
   rcases q with ⟨ds,i,d,e1,e2,j,q⟩ | ⟨t,kvs,d,e1,e2,j,q⟩ | ⟨kvs,d,e1,e2,j,q⟩
   ·exact .inl ⟨ds,i,d,e1,e2,j,h _ _ q⟩
   ·exact .inr (.inl ⟨t,kvs,d,e1,e2,j,h _ _ q⟩)
   ·exact .inr (.inr ⟨kvs,d,e1,e2,j,h _ _ q⟩)
 | _=>exact q.elim
theorem jk {K:Frag} {H:Hp} {ds:List D} {vs:List V} {i:Int} {d:D} (r:RDs K H ds vs) (e:atI ds i=some d):∃ v,atI vs i=some v/\RD K H d v:=by
 unfold atI at e ⊢;rw [r.length]
 cases q:ixN ds.length i with
 | none=>rw [q] at e;cases e
 | some j =>
   rw [q] at e;exact r.get e
theorem kz {K:Frag} {H:Hp} {k:D} {q:Key} {v:V} (r:RKey k q) (h:RD K H k v):v=kV q:=by
 cases k <;> first
  | exact r.elim
  | (cases (show q=_ from r);first | exact Rt.mp h | exact RC.mp h)
theorem fH {K:Frag} {H:Hp}:∀ {ds:List D} {ks:List Key} {vs:List V},Ih RKey ds ks->RDs K H ds vs->vs=ks.map kV
 | _,_,vs, .nil,h=>by rw [RDs.nil_iff.mp h];rfl
 | _,_,vs, .cons r t,h=>by
   obtain ⟨v,vr,rfl,h1,h2⟩:=Rw.mp h;rw [kz r h1,fH t h2];rfl
theorem RKey.inj {d e:D} {k:Key} (a:RKey d k) (b:RKey e k):d=e:=by
 cases d <;> first
  | exact a.elim
  | (cases e <;> first | exact b.elim | (cases (show k=_ from a);injection (show _=_ from b) with z;rw [z]) | (cases (show k=_ from a);cases (show _=_ from b)))
theorem RKeysP.inj:∀ {d e:List D} {k:List Key},Ih RKey d k->Ih RKey e k->d=e
 | _,_,_, .nil, .nil=>rfl
 | _,_,_, .cons r t, .cons r' t'=>by rw [r.inj r',RKeysP.inj t t']
theorem RKeys.inj {d e:D} {k:List Key} (a:RKeys d k) (b:RKeys e k):d=e:=by
 cases d <;> first
  | exact a.elim
  | (cases e <;> first | exact b.elim | exact congrArg D.tup (RKeysP.inj a b))
theorem RKey.fun {d:D} {k k':Key} (a:RKey d k) (b:RKey d k'):k=k':=by
 cases d <;> first
  | exact a.elim
  | (cases (show k=_ from a);cases (show k'=_ from b);rfl)
theorem RKeysP.fun:∀ {d:List D} {k k':List Key},Ih RKey d k->Ih RKey d k'->k=k'
 | _,_,_, .nil, .nil=>rfl
 | _,_,_, .cons r t, .cons r' t'=>by rw [r.fun r',RKeysP.fun t t']
theorem RKeys.fun {d:D} {k k':List Key} (a:RKeys d k) (b:RKeys d k'):k=k':=by
 cases d <;> first
  | exact a.elim
  | exact RKeysP.fun a b
section
variable {κ:Type} [DecidableEq κ] {K:Frag} {H:Hp} {RK:D -> κ -> Prop} (inj:∀ {d e:D} {k : κ},RK d k->RK e k->d=e) (fn:∀ {d:D} {k k' : κ},RK d k->RK d k'->k=k')
include inj fn
theorem fI {k:D} {q : κ} (j:RK k q):∀ {kvs:List (D×D)} {ps:List (κ × V)},Ih (fun p r=>RK p.1 r.1/\RD K H p.2 r.2) kvs ps ->
 (∀ d,dget kvs k=some d -> ∃ v,bV ps q=some v/\RD K H d v)/\(dget kvs k=none->bV ps q=none)
 | _,_, .nil=>⟨fun d e=>by simp [dget] at e,fun _=>rfl⟩
 | _,_, .cons (a:=p) (b:=r) (l₂ := ps) B t=>by
   obtain ⟨F,G⟩:=fI j t
   by_cases e:p.1=k
   ·have e':r.1=q:=by
     have h1:=B.1;rw [e] at h1;exact fn h1 j
    refine ⟨fun d he => ?_,fun he => ?_⟩
    ·simp [dget,Jn,e] at he;subst he;exact ⟨r.2,fE e',B.2⟩
    ·simp [dget,Jn,e] at he
   ·have e' : ¬ r.1=q:=fun z=>e (by
     have h1:=B.1;rw [z] at h1;exact inj h1 j)
    have eq1:∀ l:List (D×D),dget (p::l) k=dget l k:=fun l=>by simp [dget,Jn,e]
    have eq2:bV (r::ps) q=bV ps q:=fF e';refine ⟨fun d he => ?_,fun he => ?_⟩
    ·rw [eq1] at he;rw [eq2];exact F d he
    ·rw [eq1] at he;rw [eq2];exact G he
end
section
variable {X:Cx}
theorem uE {K:Frag} {H:Hp} {a:Addr} {ps:List (List Key×V)} {kvs:List (D×D)} {k:D} {v:V} (z:Rd H a (.dT ps)) (pr:Ih (fun (p:D×D) (q:List Key×V)=>RKeys p.1 q.1/\RD K H p.2 q.2) kvs ps) (ok:bW k=true) (rk:RD K H k v) :
 ∃ o,DGet H a v o/\(∀ d,dget kvs k=some d -> ∃ w,o=some w/\RD K H d w)/\(dget kvs k=none->o=none):=by
 obtain ⟨q,j⟩:=ko ok;obtain ⟨g1,g2⟩:=fI (RK:=RKeys) RKeys.inj RKeys.fun j pr;refine ⟨bV ps q, ?_,g1,g2⟩
 cases k <;> first
  | exact j.elim
  | (obtain ⟨b,us,rfl,hb,ru⟩:=RL (ku ok) rk
     rw [fH j ru] at hb;exact .inr ⟨ps,q,b,z,rfl,hb,rfl⟩)
theorem qv {K:Frag} {M:Mem} {H:Hp} {a:Addr} {t:Bool} {kvs:List (D×D)} {k:D} {v:V} (rm:RM K M H) (e:M a=some (.dct t kvs)) (ok:gP t k=true) (rk:RD K H k v) :
 ∃ o,DGet H a v o/\(∀ d,dget kvs k=some d -> ∃ w,o=some w/\RD K H d w)/\(dget kvs k=none->o=none):=by
 have ro:=rm a _ e
 cases t with
 | false =>
   obtain ⟨ps,j,pr⟩:=ro;obtain ⟨q,z⟩:=nA (show fG k=true from ok);obtain ⟨g1,g2⟩:=fI (RK:=RKey) RKey.inj RKey.fun z pr;refine ⟨bV ps q, ?_,g1,g2⟩;rw [kz z rk];exact DGet.k j
 | true =>
   obtain ⟨ps,j,pr⟩:=ro;exact uE (.inl j) pr ok rk
theorem As (j:X.A.units+1 < JS):IxR X (fun x y H Q => ∃ a v,x = .ref a/\DGet H a y (some v)/\Q v H):=by
 intro value slice pins s σ H x y v u Q I rx ry h hs;obtain ⟨a,w,rfl,g,q⟩:=h
 cases rx
 have hd:IsD H a:=by
  rcases g with ⟨kvs,k,e,_⟩ | ⟨kvs,k,b,e,_⟩
  ·exact .inl ⟨kvs,e⟩
  ·exact .inr ⟨kvs,e⟩
 obtain ⟨z,_⟩:=jc I hd;exact tail_any z PySem.F.slot_dict_getitem.lookup (uh j I g ry fun w' s' I' r'=>⟨w,H,I',r',q⟩) hs
theorem ER (B:X.A.units+1 < JS):IxR X (l2 X.K wIx):=by
 refine IxR.of (ix_list.or (ix_tup.or (As B))) fun v u H Q h => ?_;obtain ⟨x,y,M,rm,rx,ry,q⟩:=h
 cases x with
 | tup ds =>
   obtain ⟨i,d,rfl,e,q⟩:=q;obtain ⟨a,vs,rfl,j,rs⟩:=Ry rx
   cases Rt.mp ry
   obtain ⟨w,hw,rw'⟩:=jk rs e;exact .inr (.inl ⟨a,vs,i,w,rfl,rfl,j,hw,q w H Ext.refl rm rw'⟩)
 | con ds =>
   obtain ⟨i,d,rfl,e,q⟩:=q;obtain ⟨a,vs,rfl,j,rs⟩:=RA.mp rx
   cases Rt.mp ry
   obtain ⟨w,hw,rw'⟩:=jk rs e;exact .inl ⟨a,vs,i,w,rfl,rfl,j.sq,hw,q w H Ext.refl rm rw'⟩
 | ref a =>
   cases Ru.mp rx
   rcases q with ⟨ds,i,d,e1,rfl,z,q⟩ | ⟨t,kvs,d,e1,e2,z,q⟩ | ⟨kvs,d,e1,e2,z,q⟩
   ·cases Rt.mp ry
    obtain ⟨vs,j,rs⟩:=rm _ _ e1;obtain ⟨w,hw,rw'⟩:=jk rs z;exact .inl ⟨a,vs,i,w,rfl,rfl,SqL.of j,hw,q w H Ext.refl rm rw'⟩
   ·obtain ⟨o,g,g1,_⟩:=qv rm e1 e2 ry;obtain ⟨w,rfl,rw'⟩:=g1 d z;exact .inr (.inr ⟨a,w,rfl,g,q w H Ext.refl rm rw'⟩)
   ·obtain ⟨ob,ps,F,pr⟩:=rm _ _ e1;obtain ⟨o,g,g1,_⟩:=uE (.inr ⟨ob,F⟩) pr e2 ry;obtain ⟨w,rfl,rw'⟩:=g1 d z;exact .inr (.inr ⟨a,w,rfl,g,q w H Ext.refl rm rw'⟩)
 | _=>exact q.elim
noncomputable def iE (M:Mem):D->Option Nat
 | .tup ds=>some ds.length
 | .con ds=>some ds.length
 | .ref a=>match M a with
  | some (.lst ds)=>some ds.length
  | _=>none
 | _=>none
noncomputable def fJ:RAd:=fun xs M Q => ∃ x n,xs=[x]/\iE M x=some n/\Q (.int n) M
theorem nH:b9 fJ:=fun _ _ _ _ h ⟨x,n,e,l,q⟩=>⟨x,n,e,l,h _ _ q⟩
theorem RDs.one {K:Frag} {H:Hp} {d:D} {vs:List V} (h:RDs K H [d] vs):∃ v,vs=[v]/\RD K H d v:=by
 obtain ⟨v,r,rfl,h1,h2⟩:=Rw.mp h;rw [RDs.nil_iff.mp h2];exact ⟨v,rfl,h1⟩
theorem RDs.two {K:Frag} {H:Hp} {d e:D} {vs:List V} (h:RDs K H [d,e] vs):∃ v u,vs=[v,u]/\RD K H d v/\RD K H e u:=by
 obtain ⟨v,r,rfl,h1,h2⟩:=Rw.mp h;obtain ⟨u,rfl,j⟩:=RDs.one h2;exact ⟨v,u,rfl,h1,j⟩
theorem so:CallR X (.builtin "len") (lR X.K fJ):=by
 refine CallR.of wN fun vs H Q h => ?_;obtain ⟨ds,M,rm,rs,x,n,rfl,l,q⟩:=h;obtain ⟨v,rfl,r⟩:=rs.one;refine ⟨v,n,rfl, ?_,q _ H Ext.refl rm (Rt.mpr rfl)⟩
 cases x with
 | tup ds =>
   cases l
   obtain ⟨a,us,rfl,j,ru⟩:=Ry r;exact .inr ⟨us,j,ru.length.symm⟩
 | con ds =>
   cases l
   obtain ⟨a,us,rfl,j,ru⟩:=RA.mp r;exact .inl ⟨us,j.sq,ru.length.symm⟩
 | ref a =>
   cases Ru.mp r
   simp only [iE] at l
   cases e:M a with
   | none=>rw [e] at l;cases l
   | some o =>
     rw [e] at l
     cases o with
     | dct _ _=>cases l
     | fdc _=>cases l
     | lst ds =>
       cases l
       obtain ⟨us,j,ru⟩:=rm _ _ e;exact .inl ⟨us,SqL.of j,ru.length.symm⟩
 | _=>cases l
noncomputable def nI:RAd:=fun xs M Q => ∃ i,xs=[.int i]/\Q (.int (if i < 0 then -i else i)) M
noncomputable def mU:RAd:=fun xs M Q => ∃ i j,xs=[.int i, .int j]/\Q (.int (if j < i then j else i)) M
noncomputable def nJ:RAd:=fun xs M Q=>(∃ i,xs=[.int i]/\Q (.int i) M) ∨ ∃ k,xs=[.bl k]/\Q (.int (if k then 1 else 0)) M
theorem nK:b9 nI:=fun _ _ _ _ h ⟨i,e,q⟩=>⟨i,e,h _ _ q⟩
theorem lB:b9 mU:=fun _ _ _ _ h ⟨i,j,e,q⟩=>⟨i,j,e,h _ _ q⟩
theorem nL:b9 nJ:=fun _ _ _ _ h q=>q.elim (fun ⟨i,e,q⟩ => .inl ⟨i,e,h _ _ q⟩) fun ⟨i,e,q⟩ => .inr ⟨i,e,h _ _ q⟩
theorem sr:CallR X (.builtin "abs") (lR X.K nI):=by
 refine CallR.of wM fun vs H Q h => ?_;obtain ⟨ds,M,rm,rs,i,rfl,q⟩:=h;obtain ⟨v,rfl,r⟩:=rs.one
 cases Rt.mp r
 exact ⟨i,rfl,q _ H Ext.refl rm (Rt.mpr rfl)⟩
theorem q9 (z:X.calm=true):CallR X (.builtin "min") (lR X.K mU):=by
 refine CallR.of (tY z) fun vs H Q h => ?_;obtain ⟨ds,M,rm,rs,i,j,rfl,q⟩:=h;obtain ⟨v,u,rfl,B,F⟩:=rs.two
 cases Rt.mp B
 cases Rt.mp F
 exact ⟨i,j,rfl,q _ H Ext.refl rm (Rt.mpr rfl)⟩
theorem su:CallR X (.type "int") (lR X.K nJ):=by
 refine CallR.of tZ fun vs H Q h => ?_;obtain ⟨ds,M,rm,rs,⟨i,rfl,q⟩ | ⟨i,rfl,q⟩⟩:=h
 ·obtain ⟨v,rfl,r⟩:=rs.one
  cases Rt.mp r
  exact .inl ⟨i,rfl,q _ H Ext.refl rm (Rt.mpr rfl)⟩
 ·obtain ⟨v,rfl,r⟩:=rs.one
  cases Rx.mp r
  exact .inr ⟨i,rfl,q _ H Ext.refl rm (Rt.mpr rfl)⟩
noncomputable def ar (M:Mem):D->Option (List D)
 | .tup ds=>some ds
 | .con ds=>some ds
 | .ref a=>match M a with
  | some (.lst ds)=>some ds
  | _=>none
 | _=>none
theorem nM {K:Frag} {M:Mem} {H:Hp} {x:D} {ds:List D} {v:V} (rm:RM K M H) (r:RD K H x v) (e:ar M x=some ds):∃ p vs,v = .ref p/\(SqL K H p vs∨SqT K H p vs)/\RDs K H ds vs:=by
 cases x with
 | tup es =>
   cases e
   obtain ⟨a,us,rfl,j,ru⟩:=Ry r;exact ⟨a,us,rfl, .inr j,ru⟩
 | con es =>
   cases e
   obtain ⟨a,us,rfl,j,ru⟩:=RA.mp r;exact ⟨a,us,rfl, .inl j.sq,ru⟩
 | ref a =>
   cases Ru.mp r
   simp only [ar] at e
   cases e0:M a with
   | none=>rw [e0] at e;cases e
   | some o =>
     rw [e0] at e
     cases o with
     | dct _ _=>cases e
     | fdc _=>cases e
     | lst es =>
       cases e
       obtain ⟨us,j,ru⟩:=rm _ _ e0;exact ⟨a,us,rfl, .inl (SqL.of j),ru⟩
 | _=>cases e
noncomputable def sv:RAd:=fun xs M Q => ∃ x ds,xs=[x]/\ar M x=some ds /\ ∀ p,M p=none->Q (.ref p) (ah M p (.lst ds))
noncomputable def nN:RAd:=fun xs M Q => ∃ x ds,xs=[x]/\ar M x=some ds/\Q (.tup ds) M
theorem lD:b9 sv:=fun _ _ _ _ h ⟨x,ds,e,l,q⟩=>⟨x,ds,e,l,fun p n=>h _ _ (q p n)⟩
theorem jm:b9 nN:=fun _ _ _ _ h ⟨x,ds,e,l,q⟩=>⟨x,ds,e,l,h _ _ q⟩
theorem qa:CallR X (.type "list") (lR X.K sv):=by
 refine CallR.of ni fun vs H Q h => ?_;obtain ⟨ds,M,rm,rs,x,es,rfl,l,q⟩:=h;obtain ⟨v,rfl,r⟩:=rs.one;obtain ⟨p,us,rfl,sq,ru⟩:=nM rm r l;exact ⟨p,us,rfl,sq,fun l' n=>cD rm ru q n⟩
theorem nO:CallR X (.type "tuple") (lR X.K nN):=by
 refine CallR.of mK fun vs H Q h => ?_;obtain ⟨ds,M,rm,rs,x,es,rfl,l,q⟩:=h;obtain ⟨v,rfl,r⟩:=rs.one
 cases x with
 | tup ds' =>
   cases l
   obtain ⟨a,us,rfl,j,ru⟩:=Ry r;exact ⟨a,us,rfl, .inr ⟨j,q _ H Ext.refl rm r⟩⟩
 | con ds' =>
   cases l
   obtain ⟨a,us,rfl,j,ru⟩:=RA.mp r;exact ⟨a,us,rfl, .inl ⟨j.sq,fun l' n=>dP rm ru q n⟩⟩
 | ref a =>
   cases Ru.mp r
   simp only [ar] at l
   cases e0:M a with
   | none=>rw [e0] at l;cases l
   | some o =>
     rw [e0] at l
     cases o with
     | dct _ _=>cases l
     | fdc _=>cases l
     | lst es' =>
       cases l
       obtain ⟨us,j,ru⟩:=rm _ _ e0;exact ⟨a,us,rfl, .inl ⟨SqL.of j,fun l' n=>dP rm ru q n⟩⟩
 | _=>cases l
end
end
section
section
variable {X:Cx}
theorem RDs.ints_eq {K:Frag} {H:Hp}:∀ {ns:List Int} {vs:List V},RDs K H (ns.map D.int) vs->vs=ns.map V.int
 | [],_,h=>RDs.nil_iff.mp h
 | n::ns,_,h=>by
   obtain ⟨v,r,rfl,h1,h2⟩:=Rw.mp h;rw [Rt.mp h1,RDs.ints_eq h2];rfl
noncomputable def xE (M:Mem):D->Option Bool
 | .non=>some false
 | .bl b=>some b
 | .int i=>some (i != 0)
 | .tup ds=>some (!ds.isEmpty)
 | .con ds=>some (!ds.isEmpty)
 | .ref a=>match M a with
  | some (.lst ds)=>some (!ds.isEmpty)
  | _=>none
 | _=>none
noncomputable def nP (t:TEd):TTd:=fun ρ M Q=>t ρ M fun x M1 => ∃ b,xE M1 x=some b/\Q b M1
theorem xF {t:TEd} (h:ae t):aH (nP t):=fun ρ M Q Q' i q=>h _ _ _ _ (fun x z ⟨k,e,j⟩=>⟨k,e,i _ _ j⟩) q
theorem Cy {K:Frag} {M:Mem} {H:Hp} {x:D} {b:Bool} {v:V} (rm:RM K M H) (r:RD K H x v) (e:xE M x=some b):wK K v H b:=by
 have emp:∀ {ds:List D} {vs:List V},RDs K H ds vs->(!ds.isEmpty) = !vs.isEmpty:=fun {ds vs} h=>by
  have l:=h.length
  cases ds <;> cases vs <;> first | rfl | (simp at l)
 cases x with
 | non=>cases e;cases RB.mp r;rfl
 | bl k=>cases e;cases Rx.mp r;rfl
 | int i=>cases e;cases Rt.mp r;rfl
 | tup ds =>
   cases e
   obtain ⟨a,vs,rfl,j,rs⟩:=Ry r;exact .inr (.inl ⟨vs,j,emp rs⟩)
 | con ds =>
   cases e
   obtain ⟨a,vs,rfl,j,rs⟩:=RA.mp r;exact .inl ⟨vs,j.sq,emp rs⟩
 | ref a =>
   cases Ru.mp r
   simp only [xE] at e
   cases e0:M a with
   | none=>rw [e0] at e;cases e
   | some o =>
     rw [e0] at e
     cases o with
     | dct _ _=>cases e
     | fdc _=>cases e
     | lst ds =>
       cases e
       obtain ⟨vs,j,rs⟩:=rm _ _ e0;exact .inl ⟨vs,SqL.of j,emp rs⟩
 | str _=>cases e
variable {a b:Expr} {ta tb:TEd} {pos:Pos}
theorem Cz (m:ae ta) (B:PE X a (lE X.K ta)) (he:∀ whole,isTrue a X.env whole=(do let v <- whole;NM a.pos;holding [v] (truthy v))):PT X a (lT X.K (nP ta)):=by
 refine PT.imp (wL B he) fun σ H Q h => ?_;obtain ⟨ρ,M,rs,rm,q⟩:=h;exact ⟨ρ,M,rs,rm,m _ _ _ _ (fun x J ⟨k,e,F⟩ v H1 G j z=>⟨k,Cy j z e,F H1 G j⟩) q⟩
noncomputable def jn (t:TTd):TTd:=fun ρ M Q=>t ρ M fun c M1=>Q (!c) M1
theorem uF {t:TTd} (h:aH t):aH (jn t):=fun ρ M Q Q' i q=>h _ _ _ _ (fun c z j=>i _ _ j) q
theorem CA {tA:TTd} (m:aH tA) (j:PT X a (lT X.K tA)):PT X (.UnaryOp .Not a pos) (lT X.K (jn tA)):=by
 refine PT.imp (BP j) fun σ H Q h => ?_;obtain ⟨ρ,M,rs,rm,q⟩:=h;exact ⟨ρ,M,rs,rm,m _ _ _ _ (fun c B z=>z) q⟩
noncomputable def jo (t u:TTd):TTd:=fun ρ M Q=>t ρ M fun c M1=>if c=true then u ρ M1 Q else Q false M1
noncomputable def nQ (t u:TTd):TTd:=fun ρ M Q=>t ρ M fun c M1=>if c=true then Q true M1 else u ρ M1 Q
theorem uG {t u:TTd} (h:aH t) (k:aH u):aH (jo t u):=fun ρ M Q Q' i q=>h _ _ _ _ (fun c z j=>by
 cases c with
 | true=>rw [if_pos rfl] at j ⊢;exact k _ _ _ _ i j
 | false=>rw [if_neg He] at j ⊢;exact i _ _ j) q
theorem xG {t u:TTd} (h:aH t) (k:aH u):aH (nQ t u):=fun ρ M Q Q' i q=>h _ _ _ _ (fun c z j=>by
 cases c with
 | true=>rw [if_pos rfl] at j ⊢;exact i _ _ j
 | false=>rw [if_neg He] at j ⊢;exact k _ _ _ _ i j) q
theorem Au {tA:TTd} (j:PT X a (lT X.K tA)):PW X (.BoolOp .And [a] pos) (lT X.K tA):=zQ j
theorem CB {tA:TTd} (j:PT X a (lT X.K tA)):PW X (.BoolOp .Or [a] pos) (lT X.K tA):=BN j
theorem CC {tA tB:TTd} {rest:List Expr} (mA:aH tA) (mB:aH tB) (F:PT X a (lT X.K tA)) (hb:PW X (.BoolOp .And (b::rest) pos) (lT X.K tB)):PW X (.BoolOp .And (a::b::rest) pos) (lT X.K (jo tA tB)):=by
 refine PW.imp (BO F hb) fun σ H Q h => ?_;obtain ⟨ρ,M,rs,rm,q⟩:=h;refine ⟨ρ,M,rs,rm,mA _ _ _ _ (fun c G z H1 B j => ?_) q⟩
 cases c with
 | true=>rw [if_pos rfl] at z ⊢;exact ⟨ρ,G,rs.mono (B.stab rm),j,mB _ _ _ _ (fun d M2 k=>k.ext B) z⟩
 | false=>rw [if_neg He] at z ⊢;exact z H1 B j
theorem E2 {tA tB:TTd} {rest:List Expr} (mA:aH tA) (mB:aH tB) (F:PT X a (lT X.K tA)) (hb:PW X (.BoolOp .Or (b::rest) pos) (lT X.K tB)):PW X (.BoolOp .Or (a::b::rest) pos) (lT X.K (nQ tA tB)):=by
 refine PW.imp (DB F hb) fun σ H Q h => ?_;obtain ⟨ρ,M,rs,rm,q⟩:=h;refine ⟨ρ,M,rs,rm,mA _ _ _ _ (fun c G z H1 B j => ?_) q⟩
 cases c with
 | true=>rw [if_pos rfl] at z ⊢;exact z H1 B j
 | false=>rw [if_neg He] at z ⊢;exact ⟨ρ,G,rs.mono (B.stab rm),j,mB _ _ _ _ (fun d M2 k=>k.ext B) z⟩
noncomputable def jq (ta tb:TEd):TEd:=fun ρ M Q=>ta ρ M fun x M1 => ∃ c,x = .bl c/\if c=true then tb ρ M1 Q else Q (.bl false) M1
noncomputable def nR (ta tb:TEd):TEd:=fun ρ M Q=>ta ρ M fun x M1 => ∃ c,x = .bl c/\if c=true then Q (.bl true) M1 else tb ρ M1 Q
noncomputable def jr (ta:TEd):TEd:=fun ρ M Q=>ta ρ M fun x M1 => ∃ c,x = .bl c/\Q (.bl (!c)) M1
theorem uH (h:ae ta) (k:ae tb):ae (jq ta tb):=fun ρ M Q Q' i q=>h _ _ _ _ (fun x z ⟨c,e,j⟩=>⟨c,e,by
 cases c with
 | true=>rw [if_pos rfl] at j ⊢;exact k _ _ _ _ i j
 | false=>rw [if_neg He] at j ⊢;exact i _ _ j⟩) q
theorem xH (h:ae ta) (k:ae tb):ae (nR ta tb):=fun ρ M Q Q' i q=>h _ _ _ _ (fun x z ⟨c,e,j⟩=>⟨c,e,by
 cases c with
 | true=>rw [if_pos rfl] at j ⊢;exact i _ _ j
 | false=>rw [if_neg He] at j ⊢;exact k _ _ _ _ i j⟩) q
theorem uI (h:ae ta):ae (jr ta):=fun ρ M Q Q' i q=>h _ _ _ _ (fun x z ⟨c,e,j⟩=>⟨c,e,i _ _ j⟩) q
theorem uJ {op:BoolOp} {t:TEd} (h:PE X a (lE X.K t)):PE X (.BoolOp op [a] pos) (lE X.K t):=BQ h
theorem CD {rest:List Expr} (ma:ae ta) (mb:ae tb) (G:PE X a (lE X.K ta)) (hb:PE X (.BoolOp .And (b::rest) pos) (lE X.K tb)):PE X (.BoolOp .And (a::b::rest) pos) (lE X.K (jq ta tb)):=by
 refine PE.imp (BR G hb) fun σ H Q h => ?_;obtain ⟨ρ,M,rs,rm,q⟩:=h;refine ⟨ρ,M,rs,rm,ma _ _ _ _ (fun x J ⟨c,e,z⟩ v H1 B j F => ?_) q⟩;subst e;refine ⟨c,Rx.mp F, ?_⟩
 cases c with
 | true=>rw [if_pos rfl] at z ⊢;exact ⟨ρ,J,rs.mono (B.stab rm),j,mb _ _ _ _ (fun d M2 k=>k.ext B) z⟩
 | false=>rw [if_neg He] at z ⊢;exact z _ H1 B j (Rx.mpr rfl)
theorem E3 {rest:List Expr} (ma:ae ta) (mb:ae tb) (G:PE X a (lE X.K ta)) (hb:PE X (.BoolOp .Or (b::rest) pos) (lE X.K tb)):PE X (.BoolOp .Or (a::b::rest) pos) (lE X.K (nR ta tb)):=by
 refine PE.imp (DE G hb) fun σ H Q h => ?_;obtain ⟨ρ,M,rs,rm,q⟩:=h;refine ⟨ρ,M,rs,rm,ma _ _ _ _ (fun x J ⟨c,e,z⟩ v H1 B j F => ?_) q⟩;subst e;refine ⟨c,Rx.mp F, ?_⟩
 cases c with
 | true=>rw [if_pos rfl] at z ⊢;exact z _ H1 B j (Rx.mpr rfl)
 | false=>rw [if_neg He] at z ⊢;exact ⟨ρ,J,rs.mono (B.stab rm),j,mb _ _ _ _ (fun d M2 k=>k.ext B) z⟩
theorem CF (ma:ae ta) (B:PE X a (lE X.K ta)):PE X (.UnaryOp .Not a pos) (lE X.K (jr ta)):=by
 refine PE.imp (BS B) fun σ H Q h => ?_;obtain ⟨ρ,M,rs,rm,q⟩:=h;refine ⟨ρ,M,rs,rm,ma _ _ _ _ (fun x J ⟨c,e,F⟩ v H1 G j z => ?_) q⟩;subst e;exact ⟨c,Rx.mp z,F _ H1 G j (Rx.mpr rfl)⟩
noncomputable def wIf (t:TTd) (ta tb:TEd):TEd:=fun ρ M Q=>t ρ M fun c M1=>if c=true then ta ρ M1 Q else tb ρ M1 Q
theorem Av {t:TTd} (h:aH t) (z:ae ta) (hb:ae tb):ae (wIf t ta tb):=fun ρ M Q Q' i q=>h _ _ _ _ (fun c B j=>by
 cases c with
 | true=>rw [if_pos rfl] at j ⊢;exact z _ _ _ _ i j
 | false=>rw [if_neg He] at j ⊢;exact hb _ _ _ _ i j) q
theorem E4 {c:Expr} {t:TTd} (mt:aH t) (ma:ae ta) (mb:ae tb) (G:PT X c (lT X.K t)) (J:PE X a (lE X.K ta)) (hb:PE X b (lE X.K tb)):PE X (.IfExp c a b pos) (lE X.K (wIf t ta tb)):=by
 refine PE.imp (wy G J hb) fun σ H Q h => ?_;obtain ⟨ρ,M,rs,rm,q⟩:=h;refine ⟨ρ,M,rs,rm,mt _ _ _ _ (fun x F z H1 B j => ?_) q⟩
 cases x with
 | true=>rw [if_pos rfl] at z ⊢;exact ⟨ρ,F,rs.mono (B.stab rm),j,ma _ _ _ _ (fun d M2 k=>k.ext B) z⟩
 | false=>rw [if_neg He] at z ⊢;exact ⟨ρ,F,rs.mono (B.stab rm),j,mb _ _ _ _ (fun d M2 k=>k.ext B) z⟩
noncomputable def iF (xs:List D) (lo hi:Option Int):List D:=(xs.drop (HT.sIx xs.length 0 lo)).take (HT.sIx xs.length xs.length hi - HT.sIx xs.length 0 lo)
theorem nS {K:Frag} {H:Hp} {ds:List D} {vs:List V} (r:RDs K H ds vs) (lo hi:Option Int):RDs K H (iF ds lo hi) (ga vs lo hi):=by
 unfold iF ga;rw [r.length];exact (r.drop _).take _
noncomputable abbrev TOd:=av->Mem->(Option Int->Mem->Prop)->Prop
def fK (T:TOd):Prop := ∀ ρ M Q Q',(∀ d M',Q d M'->Q' d M')->T ρ M Q->T ρ M Q'
noncomputable def eX:TOd:=fun _ M Q=>Q none M
noncomputable def jt (t:TEd):TOd:=fun ρ M Q=>t ρ M fun x M1 => ∃ i,x = .int i/\Q (some i) M1
theorem qb:fK eX:=fun _ _ _ _ h q=>h _ _ q
theorem uK (h:ae ta):fK (jt ta):=fun ρ M Q Q' i q=>h _ _ _ _ (fun x z ⟨c,e,j⟩=>⟨c,e,i _ _ j⟩) q
noncomputable def lO (K:Frag) (T:TOd):TO:=fun σ H Q => ∃ ρ M,RS K H σ ρ /\ RM K M H/\T ρ M (fun o M' => ∀ H',Ext M H M' H'->RM K M' H'->Q o H')
theorem Aw:PO X none (lO X.K eX):=fun pins s σ H Q I h=>by
 obtain ⟨ρ,M,rs,rm,q⟩:=h;exact A6 pins s σ H Q I (q H Ext.refl rm)
theorem Ax {e:Expr} (m:ae ta) (h:PE X e (lE X.K ta)):PO X (some e) (lO X.K (jt ta)):=fun pins s σ H Q I hq=>by
 obtain ⟨ρ,M,rs,rm,q⟩:=hq;refine A7 h pins s σ H Q I ⟨ρ,M,rs,rm,m _ _ _ _ (fun x G ⟨i,e,B⟩ v H1 F j z => ?_) q⟩;subst e;exact ⟨i,Rt.mp z,B H1 F j⟩
noncomputable def ee:D->Option Int->Option Int->Mem->QD->Prop:=fun x lo hi M Q=>match x with
 | .tup ds=>Q (.tup (iF ds lo hi)) M
 | .ref a => ∃ ds,M a=some (.lst ds) /\ ∀ p,M p=none->Q (.ref p) (ah M p (.lst (iF ds lo hi)))
 | .con ds => ∀ p,M p=none->Q (.ref p) (ah M p (.lst (iF ds lo hi)))
 | _=>False
noncomputable def wSl (te:TEd) (tl th:TOd):TEd:=fun ρ M Q=>te ρ M fun x M1=>tl ρ M1 fun l M2=>th ρ M2 fun u M3=>ee x l u M3 Q
theorem sx {x:D} {lo hi:Option Int} {M:Mem} {Q Q':QD} (h:∀ d M',Q d M'->Q' d M') (q:ee x lo hi M Q):ee x lo hi M Q':=by
 cases x with
 | tup ds=>exact h _ _ q
 | ref a=>obtain ⟨ds,e,q⟩:=q;exact ⟨ds,e,fun p n=>h _ _ (q p n)⟩
 | con ds=>exact fun p n=>h _ _ (q p n)
 | _=>exact q.elim
theorem Ay {tl th:TOd} (m:ae ta) (ml:fK tl) (mh:fK th):ae (wSl ta tl th):=fun ρ M Q Q' i q =>
 m _ _ _ _ (fun x F j=>ml _ _ _ _ (fun l M2 z=>mh _ _ _ _ (fun u G B=>sx i B) z) j) q
theorem E5 {e:Expr} {lo hi:Option Expr} {tl th:TOd} {p2:Pos} (m:ae ta) (ml:fK tl) (mh:fK th) (he:PE X e (lE X.K ta)) (hl:PO X lo (lO X.K tl)) (hu:PO X hi (lO X.K th)) :
 PE X (.Subscript e (.Slice lo hi none p2) pos) (lE X.K (wSl ta tl th)):=by
 refine PE.imp (wR (sl_tup.or (sl_list.or wX)) he hl hu) fun σ H Q h => ?_;obtain ⟨ρ,M,rs,rm,q⟩:=h;refine ⟨ρ,M,rs,rm,m _ _ _ _ (fun x M1 q1 v H1 O G U => ?_) q⟩;refine ⟨ρ,M1,rs.mono (O.stab rm),G,ml _ _ _ _ (fun l M2 q2 H2 Y L => ?_) q1⟩;refine ⟨ρ,M2,(rs.mono (O.stab rm)).mono (Y.stab G),L,mh _ _ _ _ (fun u M3 z H3 Z j => ?_) q2⟩;have B:=O.trans (Y.trans Z);have F:=(U.mono (Y.stab G)).mono (Z.stab L)
 cases x with
 | tup ds =>
   obtain ⟨a,vs,rfl,J,r⟩:=Ry F
   by_cases hw:HT.sIx vs.length 0 l=0/\HT.sIx vs.length vs.length u=vs.length
   ·refine .inr (.inr ⟨a,vs,rfl,J,hw, ?_⟩);have e:iF ds l u=ds:=by
     unfold iF;rw [<- r.length,hw.1,hw.2,r.length];simp
    simp only [ee] at z;rw [e] at z;exact z.ext B _ H3 Ext.refl j F
   ·simp only [ee] at z;exact .inl ⟨a,vs,rfl,J,hw,fun p n=>dP j (nS r l u) (z.ext B) n⟩
 | ref a =>
   cases Ru.mp F
   obtain ⟨ds,e,z⟩:=z;obtain ⟨vs,J,r⟩:=j _ _ e;exact .inr (.inl ⟨a,vs,rfl,SqL.of J,fun p n=>cD j (nS r l u) (fun p' n'=>(z p' n').ext B) n⟩)
 | con ds =>
   obtain ⟨a,vs,rfl,J,r⟩:=RA.mp F;exact .inr (.inl ⟨a,vs,rfl,J.sq,fun p n=>cD j (nS r l u) (fun p' n'=>(z p' n').ext B) n⟩)
 | _=>exact z.elim
end
end
section
section
variable {X:Cx}
noncomputable def tyN (M:Mem):D->Option String
 | .non=>some "NoneType"
 | .bl _=>some "bool"
 | .int _=>some "int"
 | .str _=>some "str"
 | .tup _=>some "tuple"
 | .ref a=>match M a with
  | some (.lst _)=>some "list"
  | some (.dct _ _)=>some "dict"
  | _=>none
 | .con _=>none
noncomputable def eh (T t:String):Bool:=t==T || (t == "bool" && T == "int")
theorem zg {K:Frag} {M:Mem} {H:Hp} {x:D} {t:String} {v:V} (rm:RM K M H) (r:RD K H x v) (e:tyN M x=some t):ck K H v (.type t):=by
 cases x with
 | non=>cases e;cases RB.mp r;exact .non
 | bl k=>cases e;cases Rx.mp r;exact .bl k
 | int i=>cases e;cases Rt.mp r;exact .int i
 | str i=>cases e;cases RC.mp r;exact .str i
 | tup ds =>
   cases e
   obtain ⟨a,vs,rfl,j,rs⟩:=Ry r;exact .tup j
 | con ds=>cases e
 | ref a =>
   cases Ru.mp r
   simp only [tyN] at e
   cases e0:M a with
   | none=>rw [e0] at e;cases e
   | some o =>
     rw [e0] at e
     cases o with
     | lst ds =>
       cases e
       obtain ⟨vs,j,rs⟩:=rm _ _ e0;exact .lst j
     | dct t kvs =>
       cases e
       have ro:=rm _ _ e0
       cases t with
       | false=>obtain ⟨ps,j,_⟩:=ro;exact .dK j
       | true=>obtain ⟨ps,j,_⟩:=ro;exact .dT j
     | fdc kvs=>cases e
noncomputable def cE:List String := ["NoneType", "bool", "int", "str", "tuple", "list", "dict"]
theorem kA (K:Frag):∀ T∈["bool", "int", "str", "tuple", "list", "dict"], ∀ t∈cE,PySem.W.kitOne K (.type t) (.type T)=some (eh T t):=by
 intro T j t q;simp only [cE,Hg,HE,or_false] at j q
 rcases j with rfl | rfl | rfl | rfl | rfl | rfl <;> rcases q with rfl | rfl | rfl | rfl | rfl | rfl | rfl <;> rfl
noncomputable def ju (T:String) (ta:TEd):TEd:=fun ρ M Q=>ta ρ M fun x M1 => ∃ t,tyN M1 x=some t/\Q (.bl (eh T t)) M1
theorem uL {T:String} {ta:TEd} (h:ae ta):ae (ju T ta):=fun ρ M Q Q' i q=>h _ _ _ _ (fun x z ⟨t,e,j⟩=>⟨t,e,i _ _ j⟩) q
theorem qw {M:Mem} {x:D} {t:String} (e:tyN M x=some t):t∈cE:=by
 cases x with
 | ref a =>
   simp only [tyN] at e
   cases e0:M a with
   | none=>rw [e0] at e;cases e
   | some o=>rw [e0] at e;cases o <;> cases e <;> simp [cE]
 | con _=>cases e
 | _=>cases e;simp [cE]
theorem uM (T:String) (j:T∈["bool", "int", "str", "tuple", "list", "dict"]):CallR X (.builtin "isinstance") (fun vs H Q => ∃ v t,vs=[v, .ty T]/\ck X.K H v (.type t)/\t∈cE/\Q (.bl (eh T t)) H):=by
 intro pins s σ H xs us Q I r h;obtain ⟨v,t,rfl,ty,z,q⟩:=h;obtain ⟨u,c,rfl,ru,rc⟩:=mP r
 cases rc
 exact u6 I ru ty (kA X.K T j t z) fun tk=>⟨.bl _,H,I.tok tk,rfl,q⟩
theorem Az {e:Expr} {ta:TEd} {T:String} {y:Str} {p p2 pos:Pos} (L:T∈["bool", "int", "str", "tuple", "list", "dict"]) (m:ae ta) (he:PE X e (lE X.K ta)) (O:Gl X "isinstance") (hm:X.mg "isinstance" = none)
 (z:Gl X y) (B:X.mg y=none) (U:JO y=some (.type T)) (hn:y ≠ "__name__") (F:(y==("__debug__":Str))=false)
 (hs:HG [e, .Name y p2] X.env=(false,eval e X.env)::HG [.Name y p2] X.env) (G:(Li pos (HG [.Name y p2] X.env)).any (·.1)=false) :
 PE X (.Call (.Name "isinstance" p) [e, .Name y p2] [] pos) (lE X.K (ju T ta)):=by
 have h2:PE X (.Name y p2) (tC (.ty T)):=ke z B U rfl hn F;refine PE.imp (cy (uM T L) O hm (by decide +kernel) (cT he (cT h2 j8 rfl) hs) (by decide) (by decide) hs G) fun σ H Q h => ?_
 obtain ⟨ρ,M,rs,rm,q⟩:=h;exact ⟨ρ,M,rs,rm,m _ _ _ _ (fun x M1 ⟨t,e,Y⟩ v H1 Z j J=>⟨v,t,rfl,zg j J e,qw e,Y _ H1 Z j (Rx.mpr rfl)⟩) q⟩
noncomputable def wBM (rd:D->List D->Mem->QD->Prop) (to:TEd) (t:TAd):TEd:=fun ρ M Q=>to ρ M fun x M1=>(∃ a xs,x = .ref a/\M1 a=some (.lst xs))/\t ρ M1 fun ds M2=>rd x ds M2 Q
def dJ (rd:D->List D->Mem->QD->Prop):Prop := ∀ x ds M Q Q',(∀ d M',Q d M'->Q' d M')->rd x ds M Q->rd x ds M Q'
theorem kB {rd:D->List D->Mem->QD->Prop} {to:TEd} {t:TAd} (j:dJ rd) (mo:ae to) (mt:bp t):ae (wBM rd to t):=fun ρ M Q Q' i q =>
 mo _ _ _ _ (fun x F ⟨e,z⟩=>⟨e,mt _ _ _ _ (fun ds M2 B=>j _ _ _ _ _ i B) z⟩) q
theorem zh {K:Frag} {M:Mem} {H:Hp} {x:D} {v:V} (rm:RM K M H) (r:RD K H x v) (h:∃ a xs,x = .ref a/\M a=some (.lst xs)):tyV K "list" v H:=by
 obtain ⟨a,xs,rfl,e⟩:=h
 cases Ru.mp r
 obtain ⟨vs,j,_⟩:=rm _ _ e;exact .inl ⟨rfl,vs,SqL.of j⟩
theorem qA {K:Frag} {rd:D->List D->Mem->QD->Prop} {r:V->List V->Hp->VK->Prop} {to:TEd} {t:TAd} (L:dJ rd) (mo:ae to) (mt:bp t)
 (O:∀ v vs H Q,lMt K rd v vs H Q->r v vs H Q) (σ:St) (H:Hp) (Q:VK) (h:lE K (wBM rd to t) σ H Q):tBM K "list" r (lE K to) (lA K t) σ H Q:=by
 obtain ⟨ρ,M,rs,rm,q⟩:=h;refine ⟨ρ,M,rs,rm,mo _ _ _ _ (fun x U ⟨e,Y⟩ v H1 G j z=>⟨zh j z e, ?_⟩) q⟩;refine ⟨ρ,U,rs.mono (G.stab rm),j,mt _ _ _ _ (fun ds M2 Z vs H2 J B F => ?_) Y⟩;exact O v vs H2 Q ⟨x,ds,M2,B,z.mono (J.stab j),F,L _ _ _ _ _ (fun d M' k=>k.ext (G.trans J)) Z⟩
theorem nT {K:Frag} {rd:D->List D->Mem->QD->Prop} {r:V->List V->Hp->VK->Prop} {to:TEd} (B:dJ rd) (mo:ae to)
 (F:∀ v vs H Q,lMt K rd v vs H Q->r v vs H Q) (σ:St) (H:Hp) (Q:VK) (h:lE K (wBM rd to bv) σ H Q):Ce K "list" r (lE K to) σ H Q:=by
 obtain ⟨ρ,M,rs,rm,q⟩:=h;refine ⟨ρ,M,rs,rm,mo _ _ _ _ (fun x G ⟨e,J⟩ v H1 L j z=>⟨zh j z e, ?_⟩) q⟩;exact F v [] H1 Q ⟨x,[],G,j,z,RDs.nil,B _ _ _ _ _ (fun d M' k=>k.ext L) J⟩
noncomputable def kC:D->List D->Mem->QD->Prop:=fun x ds M Q => ∃ a xs y,x = .ref a/\ds=[y]/\M a=some (.lst xs)/\xs.length < Hh/\Q .non (ah M a (.lst (xs++[y])))
noncomputable def nU:D->List D->Mem->QD->Prop:=fun x ds M Q => ∃ a xs,x = .ref a/\ds=[]/\M a=some (.lst xs)/\Q .non (ah M a (.lst []))
noncomputable def iG:D->List D->Mem->QD->Prop:=fun x ds M Q => ∃ a xs,x = .ref a/\ds=[]/\M a=some (.lst xs)/\Q .non (ah M a (.lst xs.reverse))
theorem im:dJ kC:=fun _ _ _ _ _ h ⟨a,xs,y,e1,e2,j,z,q⟩=>⟨a,xs,y,e1,e2,j,z,h _ _ q⟩
theorem jv:dJ nU:=fun _ _ _ _ _ h ⟨a,xs,e1,e2,j,q⟩=>⟨a,xs,e1,e2,j,h _ _ q⟩
theorem gj:dJ iG:=fun _ _ _ _ _ h ⟨a,xs,e1,e2,j,q⟩=>⟨a,xs,e1,e2,j,h _ _ q⟩
theorem gS {K:Frag} {M:Mem} {H:Hp} {Q:VK} {d:D} {v:V} {a:Addr} {o0:O} {ds:List D} {vs:List V} (rm:RM K M H) (m:M a=some o0) (rd:RDs K H ds vs) (r:RD K H d v) (q:KE' K M H Q d (ah M a (.lst ds))) (w:fz (some o0)=false:=by rfl) :
 Q v (upd H a (.lst vs)):=by
 have st:Stab H (upd H a (.lst vs)):=rm.stabPut m w;exact q v _ (Ext.put m w) (rm.put m ⟨vs,aw,rd.mono st⟩ w) (r.mono st)
theorem xI {K:Frag} (v:V) (vs:List V) (H:Hp) (Q:VK) (h:lMt K kC v vs H Q):qq v vs H Q:=by
 obtain ⟨x,ds,M,rm,rx,rs,a,xs,y,rfl,rfl,e,z,q⟩:=h
 cases Ru.mp rx
 obtain ⟨w,rfl,rw'⟩:=rs.one;obtain ⟨us,j,ru⟩:=rm _ _ e;exact ⟨a,us,w,rfl,rfl,j,by rw [ru.length];exact z,gS rm e (ru.append (RDs.cons rw' RDs.nil)) (RB.mpr rfl) q⟩
theorem AA {K:Frag} (v:V) (vs:List V) (H:Hp) (Q:VK) (h:lMt K nU v vs H Q):ue v vs H Q:=by
 obtain ⟨x,ds,M,rm,rx,rs,a,xs,rfl,rfl,e,q⟩:=h
 cases Ru.mp rx
 obtain ⟨us,j,ru⟩:=rm _ _ e;exact ⟨a,us,rfl,RDs.nil_iff.mp rs,j,gS rm e RDs.nil (RB.mpr rfl) q⟩
theorem uN {K:Frag} (v:V) (vs:List V) (H:Hp) (Q:VK) (h:lMt K iG v vs H Q):nj v vs H Q:=by
 obtain ⟨x,ds,M,rm,rx,rs,a,xs,rfl,rfl,e,q⟩:=h
 cases Ru.mp rx
 obtain ⟨us,j,ru⟩:=rm _ _ e;exact ⟨a,us,rfl,RDs.nil_iff.mp rs,j,gS rm e ru.reverse (RB.mpr rfl) q⟩
noncomputable abbrev BT:=D->av->Option av
noncomputable abbrev BTs:=List D->av->Option av
noncomputable def aQ (i:Nat):BT:=fun d ρ => some (ρ.set i (some d))
noncomputable def dz:BTs:=fun ds ρ => match ds with | [] => some ρ | _=>none
noncomputable def aX (b:BT) (bs:BTs):BTs:=fun ds ρ => match ds with | d::r=>(b d ρ).bind fun ρ'=>bs r ρ' | [] => none
noncomputable def kD (bs:BTs):BT:=fun d ρ => match d with | .tup ds=>bs ds ρ | _=>none
noncomputable def lG (K:Frag) (b:BT):TG:=fun v σ H Q => ∃ d ρ ρ',RD K H d v/\RS K H σ ρ /\ b d ρ = some ρ' /\ ∀ σ',RS K H σ' ρ'->Q σ' H
noncomputable def lGs (K:Frag) (b:BTs):TGs:=fun vs σ H Q => ∃ ds ρ ρ',RDs K H ds vs/\RS K H σ ρ /\ b ds ρ = some ρ' /\ ∀ σ',RS K H σ' ρ'->Q σ' H
theorem PG.imp {e:Expr} {t t':TG} (h:PG X e t) (i:∀ v σ H Q,t' v σ H Q->t v σ H Q):PG X e t':=fun pins s σ H v u Q I r q=>h pins s σ H v u Q I r (i _ _ _ _ q)
theorem PGs.imp {e:List Expr} {t t':TGs} (h:PGs X e t) (i:∀ v σ H Q,t' v σ H Q->t v σ H Q):PGs X e t':=fun pins s σ H v u Q I r q=>h pins s σ H v u Q I r (i _ _ _ _ q)
theorem AB {i:Nat} {x:Str} {pos:Pos} (j:X.N.Nodup) (hi:X.N[i]? = some x) (hx:Loc X.env.scope x) (hf:X.fn x=true∨X.env.scope.names.lookup x=some .local):PG X (.Name x pos) (lG X.K (aQ i)) :=
 PG.imp (qm j hi hx hf) fun v σ H Q ⟨d, ρ, ρ',r,rs,e,q⟩=>by
  cases e
  exact q _ (rs.set i r)
theorem AC:PGs X [] (lGs X.K dz):=PGs.imp zU fun vs σ H Q ⟨ds, ρ, ρ',r,rs,e,q⟩=>by
 cases ds with
 | nil=>cases e;exact ⟨RDs.nil_iff.mp r,q σ rs⟩
 | cons _ _=>cases e
theorem xJ {e:Expr} {es:List Expr} {b:BT} {bs:BTs} (h1:PG X e (lG X.K b)) (h2:PGs X es (lGs X.K bs)) (hs:(Js (e::es) X.env).map (·.2)=assign e X.env::(Js es X.env).map (·.2)) :
 PGs X (e::es) (lGs X.K (aX b bs)):=PGs.imp (wD h1 h2 hs) fun vs σ H Q ⟨ds, ρ, ρ',r,rs,e,q⟩=>by
 cases ds with
 | nil=>cases e
 | cons d ds =>
   obtain ⟨v,vr,rfl,j,z⟩:=Rw.mp r;simp only [aX] at e
   cases e1:b d ρ with
   | none=>rw [e1] at e;cases e
   | some ρ1 =>
     rw [e1] at e;exact ⟨v,vr,rfl,d, ρ, ρ1,j,rs,e1,fun σ' rs'=>⟨ds, ρ1, ρ',z,rs',e,q⟩⟩
theorem CG {es:List Expr} {k:Nat} {bs:BTs} {n:Nat} {pos:Pos} (z:X.calm=true) (hlen:∀ ds ρ ρ',bs ds ρ = some ρ'->ds.length=n) (h:PGs X es (lGs X.K bs)) (hn:(Js es X.env).length=n) (j:(Js es X.env).findIdx? (·.1)=none) :
 PG X (.Tuple es k pos) (lG X.K (kD bs)):=PG.imp (BY z h hn j) fun v σ H Q ⟨d, ρ, ρ',r,rs,e,q⟩=>by
 cases d with
 | tup ds =>
   obtain ⟨a,vs,rfl,B,rv⟩:=Ry r;exact ⟨a,vs,rfl,B,by rw [rv.length];exact hlen _ _ _ e,ds, ρ, ρ',rv,rs,e,q⟩
 | _=>cases e
noncomputable abbrev TId:=av->Mem->(List D->(Mem->Prop)->Mem->Prop)->Prop
def ce (T:TId):Prop := ∀ ρ M Q Q',(∀ xs c M',Q xs c M'->Q' xs c M')->T ρ M Q->T ρ M Q'
def Yl (H H':Hp):Prop:=H'=H ∨ ∃ q vs,H q=none/\H'=upd H q (.tup vs)
def fL (K:Frag) (H1:Hp) (xs:List D) (chk:Mem->Prop) (J:It):Prop := ∀ M H,Stab H1 H->RM K M H->chk M -> ∀ i,(xs.length<=i->J.stop i H)/\(i < xs.length->J.go i H /\
 ∀ x H',J.yld i H x H'->Yl H H' /\ ∃ d,xs[i]? = some d/\RD K H' d x)
noncomputable def lI (K:Frag) (T:TId):TI:=fun σ H R => ∃ ρ M,RS K H σ ρ /\ RM K M H/\T ρ M (fun xs chk M1 => ∀ J H1,Ext M H M1 H1->RM K M1 H1->fL K H1 xs chk J->R J H1)
theorem PI.imp {tg e:Expr} {t t':TI} (h:PI X tg e t) (i:∀ σ H Q,t' σ H Q->t σ H Q):PI X tg e t':=fun pins s σ H Q I q=>h pins s σ H Q I (i _ _ _ q)
theorem Yl.ext {K:Frag} {M:Mem} {H H':Hp} (rm:RM K M H) (y:Yl H H'):Ext M H M H'/\RM K M H':=by
 rcases y with rfl | ⟨q,vs,n,rfl⟩
 ·exact ⟨Ext.refl,rm⟩
 ·exact ⟨RE n,rm.new n⟩
noncomputable def ES (K:Frag) (tl:TE):TI:=fun σ H R=>tl σ H fun x H1 => ∃ a,x = .ref a/\(((∃ xs,SqL K H1 a xs)/\R (Itl K a) H1)∨((∃ xs,SqT K H1 a xs)/\R (Itt K a) H1))
theorem CH {tg l:Expr} {tl:TE} (B:PE X l tl):PI X tg l (ES X.K tl):=by
 intro pins s σ H R I h;refine thn (B pins s σ H _ I h) fun v s1 ⟨x,H1,j,F,G⟩ => ?_;obtain ⟨a,e,q⟩:=G;subst e
 cases F
 rcases q with ⟨⟨xs,z⟩,q⟩ | ⟨⟨xs,z⟩,q⟩
 ·obtain ⟨its,rv,p,J⟩:=j.list z;refine Jb p.isList ?_;refine ⟨s1.heap.objs.size,[s1.heap.objs.size],_,_,H1,rfl,j.kept (t':=s1.toks) fun b o e=>hH _ e,tV a _,⟨_,D1 _ rfl,rfl,rfl⟩,fun b hb => ?_,q⟩;have e:b=s1.heap.objs.size:=by simpa using hb
  subst e;exact j.fpOk (Hk _) (j.hok.fresh (Hk _))
 ·obtain ⟨its,rv,p,J⟩:=j.tuple z;refine II (show s1.heap.IsTuple a its.toArray from p) ?_;refine ⟨s1.heap.objs.size,[s1.heap.objs.size],_,_,H1,rfl,j.kept (t':=s1.toks) fun b o e=>hH _ e,rR a _,⟨_,D1 _ rfl,rfl,rfl⟩,fun b hb => ?_,q⟩;have e:b=s1.heap.objs.size:=by simpa using hb
  subst e;exact j.fpOk (Hk _) (j.hok.fresh (Hk _))
noncomputable def kE (ta:TEd):TId:=fun ρ M R=>ta ρ M fun x M1 => ∃ ds,ar M1 x=some ds/\R ds (fun M=>ar M x=some ds) M1
theorem xK {ta:TEd} (h:ae ta):ce (kE ta):=fun ρ M Q Q' i q=>h _ _ _ _ (fun x z ⟨ds,e,j⟩=>⟨ds,e,i _ _ _ j⟩) q
theorem uO {K:Frag} {H1:Hp} {a:Addr} {ds:List D} {chk:Mem->Prop} (h:∀ M H,Stab H1 H->RM K M H->chk M -> ∃ vs,SqL K H a vs/\RDs K H ds vs):fL K H1 ds chk (Itl K a):=fun M H st rm c i=>by
 obtain ⟨vs,sq,r⟩:=h M H st rm c;have l:=r.length;refine ⟨fun hi=>⟨vs,sq,by lia⟩,fun hi=>⟨⟨vs,vs[i]'(by lia),sq,A2 (by lia)⟩,fun x H' y => ?_⟩⟩
 obtain ⟨e,y⟩:=y;subst e;exact ⟨.inl rfl,r.getV (y vs sq)⟩
theorem CI {K:Frag} {H1:Hp} {a:Addr} {ds:List D} {chk:Mem->Prop} (h:∀ M H,Stab H1 H->RM K M H->chk M -> ∃ vs,SqT K H a vs/\RDs K H ds vs):fL K H1 ds chk (Itt K a):=fun M H st rm c i=>by
 obtain ⟨vs,sq,r⟩:=h M H st rm c;have l:=r.length;refine ⟨fun hi=>⟨vs,sq,by lia⟩,fun hi=>⟨⟨vs,vs[i]'(by lia),sq,A2 (by lia)⟩,fun x H' y => ?_⟩⟩
 obtain ⟨e,y⟩:=y;subst e;exact ⟨.inl rfl,r.getV (y vs sq)⟩
theorem CJ {tg l:Expr} {ta:TEd} (m:ae ta) (G:PE X l (lE X.K ta)):PI X tg l (lI X.K (kE ta)):=by
 refine PI.imp (CH G) fun σ H R h => ?_;obtain ⟨ρ,M,rs,rm,q⟩:=h;refine ⟨ρ,M,rs,rm,m _ _ _ _ (fun x J ⟨ds,e,B⟩ v H1 F j rd1 => ?_) q⟩
 cases x with
 | tup es =>
   cases e
   obtain ⟨a,vs,rfl,z,rv⟩:=Ry rd1;exact ⟨a,rfl, .inr ⟨⟨vs,z⟩,B _ H1 F j (CI fun M' H' st _ _=>⟨vs,st.sqT z,rv.mono st⟩)⟩⟩
 | con es =>
   cases e
   obtain ⟨a,vs,rfl,z,rv⟩:=RA.mp rd1;exact ⟨a,rfl, .inl ⟨⟨vs,z.sq⟩,B _ H1 F j (uO fun M' H' st _ _=>⟨vs,(st.sqF z).sq,rv.mono st⟩)⟩⟩
 | ref a =>
   cases Ru.mp rd1
   have get:∀ {M':Mem} {es:List D},ar M' (.ref a)=some es->M' a=some (.lst es):=fun {M' es} e=>by
    simp only [ar] at e
    cases e0:M' a with
    | none=>rw [e0] at e;cases e
    | some o =>
      rw [e0] at e
      cases o with
      | dct _ _=>cases e
      | fdc _=>cases e
      | lst es'=>cases e;rfl
   obtain ⟨vs,z,rv⟩:=j _ _ (get e);exact ⟨a,rfl, .inl ⟨⟨vs,SqL.of z⟩,B _ H1 F j (uO fun M' H' st rm' c=>by
    obtain ⟨us,hb,ru⟩:=rm' _ _ (get c);exact ⟨us,SqL.of hb,ru⟩)⟩⟩
 | _=>cases e
noncomputable def cK (lo:Int) (n:Nat):List D:=(B0 n).map fun i => .int (lo+(i:Nat))
theorem CK {K:Frag} {H1:Hp} {lo:Int} {n:Nat}:fL K H1 (cK lo n) (fun _=>True) (Itr lo n):=fun M H st rm c i=>by
 have l:(cK lo n).length=n:=by simp [cK]
 refine ⟨fun hi=>by show n<=i;lia,fun hi=>⟨by show i < n;lia,fun x H' y => ?_⟩⟩
 obtain ⟨e,y⟩:=y;subst e y;refine ⟨.inl rfl, .int (lo+i), ?_,Rt.mpr rfl⟩;simp only [cK,HC,Jh (show i < n by lia),KL]
noncomputable def jw (ta:TAd):TId:=fun ρ M R=>ta ρ M fun ds M1 => ∃ j:Int,ds=[.int j] /\ -(2 ^ 62)<=j/\j < 2 ^ 62/\R (cK 0 j.toNat) (fun _=>True) M1
theorem uP {ta:TAd} (h:bp ta):ce (jw ta):=fun ρ M Q Q' i q=>h _ _ _ _ (fun x B ⟨j,e,a,b,z⟩=>⟨j,e,a,b,i _ _ _ z⟩) q
theorem AD {tg a:Expr} {ta:TAd} {p pos:Pos} (m:bp ta) (B:Gl X "range") (hm:X.mg "range" = none) (F:PA X [a] (lA X.K ta)) (hs:HG [a] X.env=[(false,eval a X.env)]):PI X tg (.Call (.Name "range" p) [a] [] pos) (lI X.K (jw ta)):=by
 refine PI.imp (tW B hm F hs) fun σ H R h => ?_;obtain ⟨ρ,M,rs,rm,q⟩:=h;refine ⟨ρ,M,rs,rm,m _ _ _ _ (fun ds U ⟨j,e,G,J,L⟩ vs H1 O z rd1 => ?_) q⟩;subst e;obtain ⟨v,rfl,r⟩:=rd1.one
 cases Rt.mp r
 exact ⟨j,rfl,G,J,L _ H1 O z CK⟩
end
end
section
section
variable {X:Cx}
noncomputable def isT:D->Bool | .tup _=>true | _=>false
theorem dk {K:Frag} {M:Mem} {H:Hp} {x:D} {ds:List D} {v:V} (rm:RM K M H) (r:RD K H x v) (e:ar M x=some ds):∃ p vs,v = .ref p/\SqV K (isT x) H p vs/\RDs K H ds vs:=by
 cases x with
 | tup es =>
   cases e
   obtain ⟨a,vs,rfl,j,rv⟩:=Ry r;exact ⟨a,vs,rfl,j,rv⟩
 | con es =>
   cases e
   obtain ⟨a,vs,rfl,j,rv⟩:=RA.mp r;exact ⟨a,vs,rfl,j.sq,rv⟩
 | ref a =>
   cases Ru.mp r
   simp only [ar] at e
   cases e0:M a with
   | none=>rw [e0] at e;cases e
   | some o =>
     rw [e0] at e
     cases o with
     | dct _ _=>cases e
     | fdc _=>cases e
     | lst es =>
       cases e
       obtain ⟨vs,j,rv⟩:=rm _ _ e0;exact ⟨a,vs,rfl,SqL.of j,rv⟩
 | _=>cases e
noncomputable def fM (x y:D):D := .tup [x,y]
noncomputable def nV (ta tb:TEd):TId:=fun ρ M R=>ax ta (ax tb bv) ρ M fun ds M1 => ∃ x y xs ys,ds=[x,y]/\ar M1 x=some xs/\ar M1 y=some ys/\R (K9 fM xs ys) (fun M=>ar M x=some xs/\ar M y=some ys) M1
theorem xL {ta tb:TEd} (j:ae ta) (hb:ae tb):ce (nV ta tb):=fun ρ M Q Q' i q=>aj j (aj hb aq) _ _ _ _ (fun ds B ⟨x,y,xs,ys,e,e1,e2,z⟩=>⟨x,y,xs,ys,e,e1,e2,i _ _ _ z⟩) q
theorem iH {H:Hp} {p:Addr} {o:HO} (n:H p=none):Stab H (upd H p o):=⟨fun a xs e=>by rw [ak (fun z=>by rw [z,n] at e;cases e)];exact e,fun a o u e=>by rw [ak (fun z=>by rw [z,n] at e;cases e)];exact e⟩
theorem CL {K:Frag} {H1:Hp} {x y:D} {xs ys:List D} {a b:Addr} (rx:RD K H1 x (.ref a)) (ry:RD K H1 y (.ref b)):fL K H1 (K9 fM xs ys) (fun M=>ar M x=some xs/\ar M y=some ys) (Itz K (isT x) (isT y) a b):=fun M H st rm c i=>by
 obtain ⟨O,vs,e1,j,G⟩:=dk rm (rx.mono st) c.1;obtain ⟨p2,us,e2,q,J⟩:=dk rm (ry.mono st) c.2
 cases e1
 cases e2
 have l1:=G.length;have l2:=J.length;have lz:(K9 fM xs ys).length=min xs.length ys.length:=Po;refine ⟨fun hi=>⟨vs,us,j,q,by lia⟩,fun hi=>⟨⟨vs,us,vs[i]'(by lia),us[i]'(by lia),j,q,A2 (by lia),A2 (by lia)⟩,fun v H' L => ?_⟩⟩
 obtain ⟨p,v1,v2,n,rfl,rfl,g⟩:=L;obtain ⟨g1,g2⟩:=g vs us j q;obtain ⟨d1,z,B⟩:=G.getV g1;obtain ⟨d2,hd2,F⟩:=J.getV g2;have sb:=iH (o := .tup [v1,v2]) n;refine ⟨.inr ⟨p,[v1,v2],n,rfl⟩, .tup [d1,d2], ?_,RF ⟨p,[v1,v2],rfl,aw,RDs.cons (B.mono sb) (RDs.cons (F.mono sb) RDs.nil)⟩⟩;rw [Mn,z,hd2];rfl
theorem CM {elts:List Expr} {cx} {pos p pos':Pos} {a b:Expr} {ta tb:TEd} (ma:ae ta) (mb:ae tb) (G:Gl X "zip") (hm:X.mg "zip" = none) (J:PA X [a,b] (lA X.K (ax ta (ax tb bv)))) (hs:HG [a,b] X.env=[(false,eval a X.env),(false,eval b X.env)]) (z:HG [b] X.env=[(false,eval b X.env)]) :
 PI X (.Tuple elts cx pos) (.Call (.Name "zip" p) [a,b] [] pos') (lI X.K (nV ta tb)):=by
 refine PI.imp (Cl G hm J hs z) fun σ H R h => ?_;obtain ⟨ρ,M,rs,rm,q⟩:=h;refine ⟨ρ,M,rs,rm,aj ma (aj mb aq) _ _ _ _ (fun ds Y ⟨x,y,xs,ys,e,e1,e2,L⟩ vs H1 O j rd1 => ?_) q⟩;subst e;obtain ⟨v,u,rfl,B,F⟩:=rd1.two;obtain ⟨U,vs,rfl,s1,_⟩:=dk j B e1;obtain ⟨p2,us,rfl,s2,_⟩:=dk j F e2;exact ⟨U,p2,isT x,isT y,vs,us,rfl,s1,s2,L _ H1 O j (CL B F)⟩
noncomputable def z3D (xs ys zs:List D):List D:=K9 (fun x p => .tup [x,p.1,p.2]) xs (ys.zip zs)
noncomputable def jx (ta tb tc:TEd):TId:=fun ρ M R=>ax ta (ax tb (ax tc bv)) ρ M fun ds M1 => ∃ xs y ys zs,ds=[.tup xs,y, .tup zs]/\isT y=false/\ar M1 y=some ys/\R (z3D xs ys zs) (fun M=>ar M y=some ys) M1
theorem uQ {ta tb tc:TEd} (j:ae ta) (hb:ae tb) (z:ae tc):ce (jx ta tb tc):=fun ρ M Q Q' i q=>aj j (aj hb (aj z aq)) _ _ _ _ (fun ds F ⟨xs,y,ys,zs,e,e1,e2,B⟩=>⟨xs,y,ys,zs,e,e1,e2,i _ _ _ B⟩) q
theorem AE {K:Frag} {H1:Hp} {y:D} {xs ys zs:List D} {a b c:Addr} (q:isT y=false) (rx:RD K H1 (.tup xs) (.ref a)) (ry:RD K H1 y (.ref b)) (rz:RD K H1 (.tup zs) (.ref c)):fL K H1 (z3D xs ys zs) (fun M=>ar M y=some ys) (xj K true false true a b c):=fun M H st rm cc i=>by
 obtain ⟨p1,vs,e1,z,Y⟩:=Ry (rx.mono st);obtain ⟨p2,us,e2,j,Z⟩:=dk rm (ry.mono st) cc;obtain ⟨p3,ws,e3,B,r3⟩:=Ry (rz.mono st)
 cases e1
 cases e2
 cases e3
 rw [q] at j;have l1:=Y.length;have l2:=Z.length;have l3:=r3.length;have lz:(z3D xs ys zs).length=min xs.length (min ys.length zs.length):=by unfold z3D;rw [Po,OG]
 refine ⟨fun hi=>⟨vs,us,ws,z,j,B,by lia⟩,fun hi=>⟨⟨vs,us,ws,vs[i]'(by lia),us[i]'(by lia),ws[i]'(by lia),z,j,B,A2 (by lia),A2 (by lia),A2 (by lia)⟩,fun v H' q => ?_⟩⟩
 obtain ⟨p,v1,v2,F,n,rfl,rfl,g⟩:=q;obtain ⟨g1,g2,g3⟩:=g vs us ws z j B;obtain ⟨d1,G,J⟩:=Y.getV g1;obtain ⟨d2,hd2,L⟩:=Z.getV g2;obtain ⟨d3,O,U⟩:=r3.getV g3;have sb:=iH (o := .tup [v1,v2,F]) n;refine ⟨.inr ⟨p,[v1,v2,F],n,rfl⟩, .tup [d1,d2,d3], ?_,RF ⟨p,[v1,v2,F],rfl,aw,RDs.cons (J.mono sb) (RDs.cons (L.mono sb) (RDs.cons (U.mono sb) RDs.nil))⟩⟩;unfold z3D;rw [Mn,G,List.zip,Mn,hd2,O]
theorem RDs.three {K:Frag} {H:Hp} {x y z:D} {vs:List V} (h:RDs K H [x,y,z] vs):∃ a b c,vs=[a,b,c]/\RD K H x a/\RD K H y b/\RD K H z c:=by
 obtain ⟨a,r,rfl,h1,h⟩:=Rw.mp h;obtain ⟨b,r,rfl,h2,h⟩:=Rw.mp h;obtain ⟨c,r,rfl,j,h⟩:=Rw.mp h
 cases RDs.nil_iff.mp h
 exact ⟨a,b,c,rfl,h1,h2,j⟩
theorem AF {elts:List Expr} {cx} {pos p pos':Pos} {a b c:Expr} {ta tb tc:TEd} (ma:ae ta) (mb:ae tb) (mc:ae tc) (J:Gl X "zip") (hm:X.mg "zip" = none) (L:PA X [a,b,c] (lA X.K (ax ta (ax tb (ax tc bv))))) (hs:HG [a,b,c] X.env=[(false,eval a X.env),(false,eval b X.env),(false,eval c X.env)]) (z:HG [b,c] X.env=[(false,eval b X.env),(false,eval c X.env)]) :
 PI X (.Tuple elts cx pos) (.Call (.Name "zip" p) [a,b,c] [] pos') (lI X.K (jx ta tb tc)):=by
 refine PI.imp (Aa J hm L hs z) fun σ H R h => ?_;obtain ⟨ρ,M,rs,rm,q⟩:=h;refine ⟨ρ,M,rs,rm,aj ma (aj mb (aj mc aq)) _ _ _ _ (fun ds M1 ⟨xs,y,ys,zs,e,e1,e2,O⟩ vs H1 U j rd1 => ?_) q⟩;subst e;obtain ⟨v,u,t,rfl,B,F,G⟩:=rd1.three;obtain ⟨Y,vs,rfl,s1,_⟩:=Ry B;obtain ⟨p2,us,rfl,s2,_⟩:=dk j F e2;obtain ⟨Z,ws,rfl,s3,_⟩:=Ry G;rw [e1] at s2;exact ⟨Y,p2,Z,vs,us,ws,rfl,s1,s2,s3,O _ H1 U j (AE e1 B F G)⟩
end
end
section
section
variable {X:Cx}
noncomputable def fN (xs:List D):List D:=xs.mapIdx fun i x => .tup [.int (i:Nat),x]
noncomputable def jy (ta:TEd):TId:=fun ρ M R=>ta ρ M fun x M1 => ∃ xs,ar M1 x=some xs/\R (fN xs) (fun M=>ar M x=some xs) M1
theorem uR {ta:TEd} (h:ae ta):ce (jy ta):=fun ρ M Q Q' i q=>h _ _ _ _ (fun x z ⟨ds,e,j⟩=>⟨ds,e,i _ _ _ j⟩) q
theorem CN {K:Frag} {H1:Hp} {x:D} {xs:List D} {a:Addr} (rx:RD K H1 x (.ref a)):fL K H1 (fN xs) (fun M=>ar M x=some xs) (Ite K (isT x) a):=fun M H st rm c i=>by
 obtain ⟨G,vs,e1,j,B⟩:=dk rm (rx.mono st) c
 cases e1
 have l1:=B.length;have lz:(fN xs).length=xs.length:=by simp [fN]
 refine ⟨fun hi=>⟨vs,j,by lia⟩,fun hi=>⟨⟨vs,vs[i]'(by lia),j,A2 (by lia)⟩,fun v H' F => ?_⟩⟩
 obtain ⟨p,v1,n,rfl,rfl,g⟩:=F;obtain ⟨d1,q,z⟩:=B.getV (g vs j);have sb:=iH (o := .tup [.int (i:Nat),v1]) n;refine ⟨.inr ⟨p,[.int (i:Nat),v1],n,rfl⟩, .tup [.int (i:Nat),d1], ?_,RF ⟨p,[.int (i:Nat),v1],rfl,aw,RDs.cons (Rt.mpr rfl) (RDs.cons (z.mono sb) RDs.nil)⟩⟩;simp [fN,OX,q]
theorem AG {elts:List Expr} {cx} {pos p pos':Pos} {a:Expr} {ta:TEd} (ma:ae ta) (B:Gl X "enumerate") (hm:X.mg "enumerate" = none) (F:PA X [a] (lA X.K (ax ta bv))) (hs:HG [a] X.env=[(false,eval a X.env)]) :
 PI X (.Tuple elts cx pos) (.Call (.Name "enumerate" p) [a] [] pos') (lI X.K (jy ta)):=by
 refine PI.imp (Ac B hm F hs) fun σ H R h => ?_;obtain ⟨ρ,M,rs,rm,q⟩:=h;refine ⟨ρ,M,rs,rm,ma _ _ _ _ (fun x O ⟨xs,e1,G⟩ vs H1 J j rd1 => ?_) q⟩;obtain ⟨v,rfl,z⟩:=rd1.one;obtain ⟨L,us,rfl,s1,_⟩:=dk j z e1;exact ⟨L,isT x,us,rfl,s1,G _ H1 J j (CN z)⟩
end
end
section
noncomputable abbrev NC:=av->Mem->List D->Prop
noncomputable abbrev TCd:=av->Mem->List D->NC->Prop
def cg (T:TCd):Prop := ∀ ρ M acc N N',(∀ ρ' M' acc',N ρ' M' acc'->N' ρ' M' acc')->T ρ M acc N->T ρ M acc N'
structure ExtP (p:Addr) (M:Mem) (H:Hp) (M':Mem) (H':Hp):Prop where
 kp:∀ a o,a≠p->fz (M a)=true->H a=some o->H' a=some o
 nw:∀ a o,fz (M a)=true->H a=some o->M' a=M a
section
variable {K:Frag} {M M' M'':Mem} {H H' H'':Hp} {p:Addr}
theorem ExtP.new (x:ExtP p M H M' H') (a:Addr) (o:HO) (n:M a=none) (e:H a=some o):M' a=none:=(x.nw a o (by rw [n];rfl) e).trans n
theorem Ext.toP (x:Ext M H M' H'):ExtP p M H M' H':=⟨fun a o _=>x.kp a o,x.nw⟩
theorem ExtP.refl:ExtP p M H M H:=⟨fun _ _ _ _ h=>h,fun _ _ _ _=>rfl⟩
theorem ExtP.trans {vs:List V} (a:ExtP p M H M' H') (q:H p=some (.lst vs)) (j:∃ vs',H' p=some (.lst vs')) (b:ExtP p M' H' M'' H''):ExtP p M H M'' H'' :=
 ⟨fun c o ne n h=>b.kp c o ne (by rw [a.nw c o n h];exact n) (a.kp c o ne n h),fun c o n h=>by
   have n':fz (M' c)=true:=by rw [a.nw c o n h];exact n
   refine Eq.trans ?_ (a.nw c o n h)
   by_cases z:c=p
   ·subst z;obtain ⟨vs',e⟩:=j;exact b.nw c _ n' e
   ·exact b.nw c o n' (a.kp c o z n h)⟩
theorem ExtP.stab {vs:List V} (r:RM K M H) (j:H p=some (.lst vs)) (x:ExtP p M H M' H'):Stab H H' where
 tup:=fun a xs e=>x.kp a _ (fun z=>by subst z;rw [j] at e;cases e) (by rw [r.fzT e];rfl) e
 frz:=fun a o u e=>x.kp a _ (fun z=>by subst z;rw [j] at e;cases e) (r.fzF e) e
theorem nW {vs:List V} {ho:HO} (j:H p=some (.lst vs)):Stab H (upd H p ho) :=
 ⟨fun a xs e=>by rw [ak (fun z=>by subst z;rw [j] at e;cases e)];exact e,fun a o u e=>by rw [ak (fun z=>by subst z;rw [j] at e;cases e)];exact e⟩
theorem RM.side {vs:List V} {ho:HO} (r:RM K M H) (n:M p=none) (j:H p=some (.lst vs)):RM K M (upd H p ho):=fun a o e=>by
 have ne:a≠p:=fun z=>by subst z;rw [n] at e;cases e
 exact (r a o e).mono (nW j) fun B q=>by rw [ak ne];exact q
end
def gT (K:Frag) (H:Hp) (p:Addr) (acc:List D):Prop := ∃ vs,H p=some (.lst vs)/\RDs K H acc vs
noncomputable def KC (K:Frag) (p:Addr) (M:Mem) (H:Hp) (N:St->Hp->Prop):NC:=fun ρ' M' acc' => ∀ σ' H',ExtP p M H M' H'->RS K H' σ' ρ'->RM K M' H'->gT K H' p acc'->N σ' H'
noncomputable def lC (K:Frag) (p:Addr) (T:TCd):TC:=fun σ H N => ∃ ρ M acc,RS K H σ ρ /\ RM K M H/\M p=none/\gT K H p acc/\T ρ M acc (KC K p M H N)
theorem KC.ext {K:Frag} {p:Addr} {M M2 M':Mem} {H H2:Hp} {N:St->Hp->Prop} {ρ:av} {acc:List D} {vs:List V} (q:H p=some (.lst vs)) (j:∃ vs',H2 p=some (.lst vs')) (x:ExtP p M H M2 H2) (h:KC K p M H N ρ M' acc):KC K p M2 H2 N ρ M' acc :=
 fun σ' H' y=>h σ' H' (x.trans q j y)
noncomputable def ci (te:TEd):TCd:=fun ρ M acc N=>te ρ M fun x M1=>acc.length < Hh/\N ρ M1 (acc++[x])
noncomputable def bw:List TTd->TCd->TCd
 | [],tb=>tb
 | t::r,tb=>fun ρ M acc N=>t ρ M fun b M1=>if b=true then bw r tb ρ M1 acc N else N ρ M1 acc
noncomputable def bK (b:BT) (tb:TCd) (chk:Mem->Prop) (N:NC):List D->NC
 | [] => fun ρ M acc=>chk M/\N ρ M acc
 | x::xs=>fun ρ M acc=>chk M /\ ∃ ρ',b x ρ = some ρ'/\tb ρ' M acc (bK b tb chk N xs)
noncomputable def cU (src:TId) (b:BT) (tb:TCd):TCd:=fun ρ M acc N=>src ρ M fun xs chk M1=>bK b tb chk N xs ρ M1 acc
noncomputable def gU (fr:List (Option Nat)) (src:TId) (b:BT) (tb:TCd):TEd:=fun ρ M Q=>src ρ M fun xs chk M1=>bK b tb chk (fun _ M' acc => ∀ p,M' p=none->Q (.ref p) (ah M' p (.lst acc))) xs (kw fr ρ) M1 []
theorem bI {te:TEd} (h:ae te):cg (ci te):=fun ρ M acc N N' i q=>h _ _ _ _ (fun x B ⟨z,j⟩=>⟨z,i _ _ _ j⟩) q
theorem aS {tb:TCd} (hb:cg tb):∀ {ts:List TTd},(∀ t∈ts,aH t)->cg (bw ts tb)
 | [],_=>hb
 | t::r,h=>fun ρ M acc N N' i q=>h t Ie _ _ _ _ (fun b B j=>by
   cases b with
   | true=>rw [if_pos rfl] at j ⊢;exact aS hb (fun t' z=>h t' (HF _ z)) _ _ _ _ _ i j
   | false=>rw [if_neg He] at j ⊢;exact i _ _ _ j) q
theorem gk {b:BT} {tb:TCd} (hb:cg tb) {chk:Mem->Prop} {N N':NC} (i:∀ ρ' M' acc',N ρ' M' acc'->N' ρ' M' acc'):∀ (xs:List D) (ρ:av) (M:Mem) (acc:List D),bK b tb chk N xs ρ M acc->bK b tb chk N' xs ρ M acc
 | [], ρ,M,acc,h=>⟨h.1,i _ _ _ h.2⟩
 | x::xs, ρ,M,acc,⟨c, ρ',e,q⟩=>⟨c, ρ',e,hb _ _ _ _ _ (fun ρ2 M2 j z=>gk hb i xs ρ2 M2 j z) q⟩
theorem io {src:TId} {b:BT} {tb:TCd} (hs:ce src) (hb:cg tb):cg (cU src b tb):=fun ρ M acc N N' i q=>hs _ _ _ _ (fun xs c z j=>gk hb i xs _ _ _ j) q
theorem lF {fr:List (Option Nat)} {src:TId} {b:BT} {tb:TCd} (hs:ce src) (hb:cg tb):ae (gU fr src b tb):=fun ρ M Q Q' i q =>
 hs _ _ _ _ (fun xs c B j=>gk hb (fun _ M' acc z p n=>i _ _ (z p n)) xs _ _ _ j) q
section
variable {K:Frag} {p:Addr}
theorem gm {te:TEd} (m:ae te) (σ:St) (H:Hp) (N:St->Hp->Prop) (h:lC K p (ci te) σ H N):ze p (lE K te) σ H N:=by
 obtain ⟨ρ,M,acc,rs,rm,n,⟨vs,L,ra⟩,q⟩:=h;refine ⟨ρ,M,rs,rm,m _ _ _ _ (fun x Y ⟨z,O⟩ v H1 F G J => ?_) q⟩;have j:=F.keep p _ n L;have U:=F.new p _ n L;have st:=F.stab rm;have B:Stab H1 (upd H1 p (.lst (vs++[v]))):=nW j;refine ⟨vs,j,by rw [ra.length];exact z,O σ _ ⟨fun a o ne m' e => ?_,F.nw⟩ ((rs.mono st).mono B) (G.side U j) ⟨vs++[v],aw,((ra.mono st).mono B).append (RDs.cons (J.mono B) RDs.nil)⟩⟩
 rw [ak ne];exact F.kp a o m' e
theorem jz {tb:TCd} (mb:cg tb):∀ {ts:List TTd},(∀ t∈ts,aH t) -> ∀ (σ:St) (H:Hp) (N:St->Hp->Prop),lC K p (bw ts tb) σ H N->jd (ts.map (lT K)) (lC K p tb) σ H N
 | [],_, σ,H,N,h=>h
 | t::r,hm, σ,H,N,h=>by
   obtain ⟨ρ,M,acc,rs,rm,n,⟨vs,G,ra⟩,q⟩:=h;refine ⟨ρ,M,rs,rm,hm t Ie _ _ _ _ (fun b L F H1 z B => ?_) q⟩;have j:=z.keep p _ n G;have O:=z.new p _ n G;have st:=z.stab rm
   cases b with
   | false =>
     rw [if_neg He] at F;dsimp only;rw [if_neg He];exact F σ H1 z.toP (rs.mono st) B ⟨vs,j,ra.mono st⟩
   | true =>
     rw [if_pos rfl] at F;dsimp only;rw [if_pos rfl];exact jz mb (fun t' J=>hm t' (HF _ J)) σ H1 N ⟨ρ,L,acc,rs.mono st,B,O,⟨vs,j,ra.mono st⟩,
      aS mb (fun t' J=>hm t' (HF _ J)) _ _ _ _ _ (fun ρ' M' acc' k=>k.ext G ⟨vs,j⟩ z.toP) F⟩
theorem lH {b:BT} {tb:TCd} (mb:cg tb) {xs:List D} {chk:Mem->Prop} {J:It} {H1:Hp} {B:Mem} {Nd:NC} {N:St->Hp->Prop} {σ:St} {ρ:av} {acc:List D} (it:fL K H1 xs chk J) (rs:RS K H1 σ ρ) (rm:RM K B H1) (n:B p=none)
 (ac:gT K H1 p acc) (q:bK b tb chk Nd xs ρ B acc) (hN:∀ ρ' M' acc' σ' H',ExtP p B H1 M' H'->RS K H' σ' ρ'->RM K M' H'->gT K H' p acc'->Nd ρ' M' acc'->N σ' H') :
 cH J (lG K b) (lC K p tb) N σ H1:=by
 obtain ⟨EX,F,_⟩:=id ac;refine ⟨fun i m σ H=>m=xs.length - i/\i<=xs.length /\ ∃ ρ M acc,RS K H σ ρ /\ RM K M H/\M p=none/\gT K H p acc/\ExtP p B H1 M H/\bK b tb chk Nd (xs.drop i) ρ M acc,⟨xs.length,by simp,J9 _, ρ,B,acc,rs,rm,n,ac,ExtP.refl,q⟩, ?_⟩
 rintro i m σ H ⟨rfl,hi, ρ,M,acc,rs,j,n,ac,x,q⟩;have st:=x.stab rm F;obtain ⟨vs,hp,ra⟩:=id ac
 by_cases z:i < xs.length
 ·rw [IG z] at q;obtain ⟨c, ρ',hb,q⟩:=q;obtain ⟨go,yl⟩:=(it M H st j c i).2 z;refine .inr ⟨go,fun σ' H' => ∃ m',m' < xs.length - i/\(m'=xs.length - (i+1)/\i+1<=xs.length /\ ∃ ρ M acc,RS K H' σ' ρ /\ RM K M H'/\M p=none/\gT K H' p acc/\ExtP p B H1 M H'/\bK b tb chk Nd (xs.drop (i+1)) ρ M acc),fun σ' H' h=>h,fun x' H' y => ?_⟩;obtain ⟨yy,d,hd,rd⟩:=yl x' H' y;rw [A2 z] at hd
  cases hd
  obtain ⟨xy,rmy⟩:=yy.ext j;have sty:=xy.stab j;have G:=xy.keep p _ n hp;refine ⟨_, ρ, ρ',rd,rs.mono sty,hb,fun σ2 O => ?_⟩;refine ⟨ρ',M,acc,O,rmy,n,⟨vs,G,ra.mono sty⟩,mb _ _ _ _ _ (fun ρ3 M3 L q3 σ3 H3 x3 U Y Z => ?_) q⟩;have n3:M3 p=none:=x3.new p _ n G;exact ⟨xs.length - (i+1),by lia,rfl,z, ρ3,M3,L,U,Y,n3,Z,(x.trans F ⟨vs,hp⟩ xy.toP).trans F ⟨vs,G⟩ x3,q3⟩
 ·have e:i=xs.length:=by lia
  subst e;rw [Oc] at q;exact .inl ⟨(it M H st j q.1 _).1 (Hk _),hN ρ M acc σ H x rs j ac q.2⟩
theorem iq {src:TId} {b:BT} {tb:TCd} (ms:ce src) (mb:cg tb) (σ:St) (H:Hp) (N:St->Hp->Prop) (h:lC K p (cU src b tb) σ H N):(lI K src) σ H fun J H1=>cH J (lG K b) (lC K p tb) N σ H1:=by
 obtain ⟨ρ,M,acc,rs,rm,n,⟨vs,B,ra⟩,q⟩:=h;refine ⟨ρ,M,rs,rm,ms _ _ _ _ (fun xs chk O G J H1 z F it => ?_) q⟩;have j:=z.keep p _ n B;have L:=z.new p _ n B;have st:=z.stab rm;exact lH mb it (rs.mono st) F L ⟨vs,j,ra.mono st⟩ G fun ρ' M' acc' σ' H' x2 rs' rm' ac' k=>k σ' H' (z.toP.trans B ⟨vs,j⟩ x2) rs' rm' ac'
theorem eL {fr:List (Option Nat)} {src:TId} {b:BT} {tb:TCd} (ms:ce src) (mb:cg tb) (σ:St) (H:Hp) (Q:VK) (h:lE K (gU fr src b tb) σ H Q):sg (lI K src) (lG K b) (fun p=>lC K p tb) fr σ H Q:=by
 obtain ⟨ρ,M,rs,rm,q⟩:=h;refine ⟨ρ,M,rs,rm,ms _ _ _ _ (fun xs chk F O J H1 B j it p n => ?_) q⟩;have st:=B.stab rm;have xn:Ext F H1 F (upd H1 p (.lst [])):=RE n;have stn:=xn.stab j;have L:F p=none:=j.out n;refine lH (p:=p) mb (xs:=xs) (chk:=chk) (fun M' H' st'=>it M' H' ⟨fun a xs e=>st'.tup _ _ (stn.tup _ _ e),fun a o u e=>st'.frz _ _ _ (stn.frz _ _ _ e)⟩) (((rs.mono st).mono stn).inh fr) (j.new n) L ⟨[],aw,RDs.nil⟩ O fun ρ' M' acc' σ' H' G rs' rm' ac' k => ?_;obtain ⟨vs,U,ra⟩:=ac';have n':M' p=none:=G.new p _ L aw;refine k p n' (.ref p) H' ⟨fun a o m e => ?_,fun a o m e => ?_⟩ (fun a o e => ?_) (Ru.mpr rfl)
 ·have e1:=B.kp a o m e;have ne:a≠p:=fun z=>by subst z;rw [n] at e1;cases e1
  exact G.kp a o ne (by rw [B.nw a o m e];exact m) (by rw [ak ne];exact e1)
 ·have e1:=B.kp a o m e;have ne:a≠p:=fun z=>by subst z;rw [n] at e1;cases e1
  rw [aR ne];exact (G.nw a o (by rw [B.nw a o m e];exact m) (by rw [ak ne];exact e1)).trans (B.nw a o m e)
 ·by_cases z:a=p
  ·subst z;rw [ad] at e;cases e;exact ⟨vs,U,ra⟩
  ·rw [aR z] at e;exact rm' a o e
end
end
section
noncomputable def gW:TSd:=fun D ρ M=>D.nx ρ M
noncomputable def nX (t u:TSd):TSd:=fun D ρ M=>t { D with nx:=u D } ρ M
noncomputable def gn:TSd:=fun D ρ M=>D.bk ρ M
noncomputable def jA:TSd:=fun D ρ M=>D.ct ρ M
noncomputable def jB (te:TEd):TSd:=fun D ρ M=>te ρ M fun _ M1=>D.nx ρ M1
noncomputable def nY (te:TEd):TSd:=fun D ρ M=>te ρ M D.rt
noncomputable def sIf (c:TTd) (t u:TSd):TSd:=fun D ρ M=>c ρ M fun b M1=>if b=true then t D ρ M1 else u D ρ M1
noncomputable def iI (te:TEd) (b:BT):TSd:=fun D ρ M=>te ρ M fun x M1 => ∃ ρ',b x ρ = some ρ'/\D.nx ρ' M1
noncomputable def iJ (ta:TAd) (bs:BTs):TSd:=fun D ρ M=>ta ρ M fun xs M1 => ∃ ρ',bs xs ρ = some ρ'/\D.nx ρ' M1
noncomputable def bT (b:BT) (tb:TSd) (chk:Mem->Prop) (D:bC):List Mi.D->av->Mem->Prop
 | [] => fun ρ M=>chk M/\D.nx ρ M
 | x::xs=>fun ρ M=>chk M /\ ∃ ρ',b x ρ = some ρ'/\tb { D with nx:=bT b tb chk D xs,ct:=bT b tb chk D xs,bk:=D.nx } ρ' M
noncomputable def nZ (src:TId) (b:BT) (tb:TSd):TSd:=fun D ρ M=>src ρ M fun xs chk M1=>bT b tb chk D xs ρ M1
noncomputable def bn (c:TTd) (tb:TSd) (D:bC):Nat->av->Mem->Prop
 | 0=>fun _ _=>False
 | n+1=>fun ρ M=>c ρ M fun b M1=>if b=true then tb { D with nx:=bn c tb D n,ct:=bn c tb D n,bk:=D.nx } ρ M1 else D.nx ρ M1
noncomputable def gp (c:TTd) (tb:TSd):TSd:=fun D ρ M => ∃ n,bn c tb D n ρ M
theorem lJ:aI gW:=fun _ _ _ _ h q=>h.nx _ _ q
theorem sy:aI gn:=fun _ _ _ _ h q=>h.bk _ _ q
theorem uS:aI jA:=fun _ _ _ _ h q=>h.ct _ _ q
theorem uT {t u:TSd} (j:aI t) (z:aI u):aI (nX t u):=fun a b ρ M h q=>j { a with nx:=u a } { b with nx:=u b } _ _ ⟨fun ρ' M' q'=>z _ _ _ _ h q',h.rt,h.bk,h.ct⟩ q
theorem uU {te:TEd} (h:ae te):aI (jB te):=fun a b ρ M i q=>h _ _ _ _ (fun _ z j=>i.nx _ _ j) q
theorem xM {te:TEd} (h:ae te):aI (nY te):=fun a b ρ M i q=>h _ _ _ _ (fun d z j=>i.rt _ _ j) q
theorem xN {c:TTd} {t u:TSd} (z:aH c) (B:aI t) (F:aI u):aI (sIf c t u):=fun a b ρ M i q=>z _ _ _ _ (fun k G j=>by
 cases k with
 | true=>rw [if_pos rfl] at j ⊢;exact B _ _ _ _ i j
 | false=>rw [if_neg He] at j ⊢;exact F _ _ _ _ i j) q
theorem xO {te:TEd} {bt:BT} (h:ae te):aI (iI te bt):=fun a b ρ M i q=>h _ _ _ _ (fun d z ⟨ρ',e,j⟩=>⟨ρ',e,i.nx _ _ j⟩) q
theorem og {ta:TAd} {bs:BTs} (h:bp ta):aI (iJ ta bs):=fun a b ρ M i q=>h _ _ _ _ (fun d z ⟨ρ',e,j⟩=>⟨ρ',e,i.nx _ _ j⟩) q
theorem gu {bt:BT} {tb:TSd} (hb:aI tb) {chk:Mem->Prop} {a b:bC} (i:LeD a b):∀ (xs:List D) (ρ:av) (M:Mem),bT bt tb chk a xs ρ M->bT bt tb chk b xs ρ M
 | [], ρ,M,h=>⟨h.1,i.nx _ _ h.2⟩
 | x::xs, ρ,M,⟨c, ρ',e,q⟩=>⟨c, ρ',e,hb { a with nx:=bT bt tb chk a xs,ct:=bT bt tb chk a xs,bk:=a.nx } { b with nx:=bT bt tb chk b xs,ct:=bT bt tb chk b xs,bk:=b.nx } _ _ ⟨fun ρ2 M2 j=>gu hb i xs ρ2 M2 j,i.rt,i.nx,fun ρ2 M2 j=>gu hb i xs ρ2 M2 j⟩ q⟩
theorem xP {src:TId} {bt:BT} {tb:TSd} (hs:ce src) (hb:aI tb):aI (nZ src bt tb):=fun a b ρ M i q=>hs _ _ _ _ (fun xs c z j=>gu hb i xs _ _ j) q
theorem eR {c:TTd} {tb:TSd} (q:aH c) (hb:aI tb) {a b:bC} (i:LeD a b):∀ (n:Nat) (ρ:av) (M:Mem),bn c tb a n ρ M->bn c tb b n ρ M
 | 0, ρ,M,h=>h
 | n+1, ρ,M,h=>q _ _ _ _ (fun k B j=>by
   cases k with
   | true=>rw [if_pos rfl] at j ⊢;exact hb { a with nx:=bn c tb a n,ct:=bn c tb a n,bk:=a.nx } { b with nx:=bn c tb b n,ct:=bn c tb b n,bk:=b.nx } _ _ ⟨fun ρ2 M2 z=>eR q hb i n ρ2 M2 z,i.rt,i.nx,fun ρ2 M2 z=>eR q hb i n ρ2 M2 z⟩ j
   | false=>rw [if_neg He] at j ⊢;exact i.nx _ _ j) h
theorem sB {c:TTd} {tb:TSd} (j:aH c) (hb:aI tb):aI (gp c tb):=fun a b ρ M i ⟨n,q⟩=>⟨n,eR j hb i n _ _ q⟩
section
variable {K:Frag}
theorem lK (D:bE) (σ:St) (H:Hp) (h:lS K gW D σ H):rP D σ H:=by
 obtain ⟨ρ,M,A,rs,rm,l,q⟩:=h;exact l.nx ρ M σ H Ext.refl rs rm q
theorem sC (D:bE) (σ:St) (H:Hp) (h:lS K gn D σ H):tS D σ H:=by
 obtain ⟨ρ,M,A,rs,rm,l,q⟩:=h;exact l.bk ρ M σ H Ext.refl rs rm q
theorem uV (D:bE) (σ:St) (H:Hp) (h:lS K jA D σ H):yR D σ H:=by
 obtain ⟨ρ,M,A,rs,rm,l,q⟩:=h;exact l.ct ρ M σ H Ext.refl rs rm q
theorem xQ {t u:TSd} (mt:aI t) (mu:aI u) (D:bE) (σ:St) (H:Hp) (h:lS K (nX t u) D σ H):BU (lS K t) (lS K u) D σ H:=by
 obtain ⟨ρ,M,A,rs,rm,l,q⟩:=h;exact ⟨ρ,M, { A with nx:=u A },rs,rm,⟨fun ρ' M' σ' H' x rs' rm' q'=>⟨ρ',M',A,rs',rm',l.ext x,q'⟩,l.rt,l.bk,l.ct⟩,q⟩
theorem uW {te:TEd} (m:ae te) (D:bE) (σ:St) (H:Hp) (h:lS K (jB te) D σ H):yS (lE K te) D σ H:=by
 obtain ⟨ρ,M,A,rs,rm,l,q⟩:=h;exact ⟨ρ,M,rs,rm,m _ _ _ _ (fun d B F v H1 z j G=>l.nx ρ B σ H1 z (rs.mono (z.stab rm)) j F) q⟩
theorem xR {te:TEd} (m:ae te) (D:bE) (σ:St) (H:Hp) (h:lS K (nY te) D σ H):BV (lE K te) D σ H:=by
 obtain ⟨ρ,M,A,rs,rm,l,q⟩:=h;exact ⟨ρ,M,rs,rm,m _ _ _ _ (fun d B F v H1 G j z=>l.rt d B v H1 G j z F) q⟩
theorem AH {c:TTd} {t u:TSd} (mc:aH c) (D:bE) (σ:St) (H:Hp) (h:lS K (sIf c t u) D σ H):BX (lT K c) (lS K t) (lS K u) D σ H:=by
 obtain ⟨ρ,M,A,rs,rm,l,q⟩:=h;refine ⟨ρ,M,rs,rm,mc _ _ _ _ (fun k F z H1 B j => ?_) q⟩
 cases k with
 | true=>rw [if_pos rfl] at z ⊢;exact ⟨ρ,F,A,rs.mono (B.stab rm),j,l.ext B,z⟩
 | false=>rw [if_neg He] at z ⊢;exact ⟨ρ,F,A,rs.mono (B.stab rm),j,l.ext B,z⟩
theorem xS {te:TEd} {b:BT} (m:ae te) (D:bE) (σ:St) (H:Hp) (h:lS K (iI te b) D σ H):rQ (lE K te) (lG K b) D σ H:=by
 obtain ⟨ρ,M,A,rs,rm,l,q⟩:=h;refine ⟨ρ,M,rs,rm,m _ _ _ _ (fun d F ⟨ρ',e,G⟩ v H1 B j z => ?_) q⟩;exact ⟨d, ρ, ρ',z,rs.mono (B.stab rm),e,fun σ' rs'=>l.nx ρ' F σ' H1 B rs' j G⟩
theorem lL {te:TEd} {i:Nat} (m:ae te) (D:bE) (σ:St) (H:Hp) (h:lS K (iI te (aQ i)) D σ H):rQ (lE K te) (j5 i) D σ H:=by
 obtain ⟨ρ,M,A,rs,rm,l,q⟩:=h;refine ⟨ρ,M,rs,rm,m _ _ _ _ (fun d z ⟨ρ',e,B⟩ v H1 j rm1 rd1 => ?_) q⟩
 cases e
 exact l.nx _ z _ H1 j ((rs.mono (j.stab rm)).set i rd1) rm1 B
theorem xT {src:TId} {b:BT} {tb:TSd} (ms:ce src) (mb:aI tb) (D:bE) (σ:St) (H:Hp) (h:lS K (nZ src b tb) D σ H):C3 (lI K src) (lG K b) (lS K tb) D σ H:=by
 obtain ⟨ρ,M,A,rs,rm,l,q⟩:=h;refine ⟨ρ,M,rs,rm,ms _ _ _ _ (fun xs chk M1 q1 J H1 x1 G it => ?_) q⟩;refine ⟨fun i m σ H'=>m=xs.length - i/\i<=xs.length /\ ∃ ρ M2,RS K H' σ ρ /\ RM K M2 H'/\Ext M1 H1 M2 H'/\bT b tb chk A (xs.drop i) ρ M2,⟨xs.length,by simp,J9 _, ρ,M1,rs.mono (x1.stab rm),G,Ext.refl,q1⟩, ?_⟩
 rintro i m σ2 H2 ⟨rfl,hi, ρ2,M2,L,j,x2,O⟩;have U:=x2.stab G
 by_cases B:i < xs.length
 ·rw [IG B] at O;obtain ⟨c, ρ',hb,q3⟩:=O;obtain ⟨go,yl⟩:=(it M2 H2 U j c i).2 B;refine .inr ⟨go,fun σ' H' => ∃ m',m' < xs.length - i/\(m'=xs.length - (i+1)/\i+1<=xs.length /\ ∃ ρ M,RS K H' σ' ρ /\ RM K M H'/\Ext M1 H1 M H'/\bT b tb chk A (xs.drop (i+1)) ρ M),fun σ' H' h=>h,fun x' H' y => ?_⟩;obtain ⟨yy,d,hd,rd⟩:=yl x' H' y;rw [A2 B] at hd
  cases hd
  obtain ⟨xy,rmy⟩:=yy.ext j;have Y:=x1.trans (x2.trans xy);refine ⟨_, ρ2, ρ',rd,L.mono (xy.stab j),hb,fun σ3 EX => ?_⟩;have nx:∀ ρ5 F σ5 z,Ext M2 H' F z->RS K z σ5 ρ5->RM K F z->bT b tb chk A (xs.drop (i+1)) ρ5 F -> ∃ m',m' < xs.length - i/\(m'=xs.length - (i+1)/\i+1<=xs.length /\ ∃ ρ M,RS K z σ5 ρ /\ RM K M z/\Ext M1 H1 M z/\bT b tb chk A (xs.drop (i+1)) ρ M) :=
   fun ρ5 F σ5 z Z EY EZ q5=>⟨xs.length - (i+1),by lia,rfl,B, ρ5,F,EY,EZ,(x2.trans xy).trans Z,q5⟩
  refine ⟨ρ',M2, { A with nx:=bT b tb chk A (xs.drop (i+1)),ct:=bT b tb chk A (xs.drop (i+1)),bk:=A.nx },EX,rmy,⟨nx,fun d F v z Z=>l.rt d F v z (Y.trans Z),fun ρ5 F σ5 z Z=>l.nx ρ5 F σ5 z (Y.trans Z),nx⟩,q3⟩
 ·have e:i=xs.length:=by lia
  subst e;rw [Oc] at O;exact .inl ⟨(it M2 H2 U j O.1 _).1 (Hk _),l.nx ρ2 M2 σ2 H2 (x1.trans x2) L j O.2⟩
theorem sD {c:TTd} {tb:TSd} (mc:aH c) (mb:aI tb) (D:bE) (σ:St) (H:Hp) (h:lS K (gp c tb) D σ H):tU (lT K c) (lS K tb) D σ H:=by
 obtain ⟨ρ,M,A,rs,rm,l,n,q⟩:=h;refine ⟨fun m σ' H' => ∃ ρ' M',RS K H' σ' ρ'/\RM K M' H'/\Ext M H M' H'/\bn c tb A m ρ' M',⟨n, ρ,M,rs,rm,Ext.refl,q⟩, ?_⟩;rintro m σ1 H1 ⟨ρ1,M1,J,L,x1,q1⟩
 cases m with
 | zero=>exact q1.elim
 | succ m =>
   refine ⟨ρ1,M1,J,L,mc _ _ _ _ (fun k M2 Z H2 x2 O => ?_) q1⟩;have j:=x1.trans x2;have U:=J.mono (x2.stab L)
   cases k with
   | false=>rw [if_neg He] at Z;dsimp only;rw [if_neg He];exact l.nx ρ1 M2 σ1 H2 j U O Z
   | true =>
     rw [if_pos rfl] at Z;dsimp only;rw [if_pos rfl];refine ⟨fun σ' H' => ∃ ρ' M',RS K H' σ' ρ'/\RM K M' H'/\Ext M H M' H'/\bn c tb A m ρ' M',fun σ' H' h=>⟨m,Nat.lt_succ_self m,h⟩, ρ1,M2, { A with nx:=bn c tb A m,ct:=bn c tb A m,bk:=A.nx },U,O,⟨?_,fun d z v Y B=>l.rt d z v Y (j.trans B),fun ρ5 z σ5 Y B=>l.nx ρ5 z σ5 Y (j.trans B), ?_⟩,Z⟩
     ·exact fun ρ5 z σ5 Y B F G q5=>⟨ρ5,z,F,G,j.trans B,q5⟩
     ·exact fun ρ5 z σ5 Y B F G q5=>⟨ρ5,z,F,G,j.trans B,q5⟩
end
noncomputable def fO:D->D->D->Mem->(Mem->Prop)->Prop:=fun o i v M Q => ∃ a,o = .ref a /\
 ((∃ xs k j,i = .int k/\M a=some (.lst xs)/\ixN xs.length k=some j/\Q (ah M a (.lst (xs.set j v)))) ∨
  ∃ t kvs,M a=some (.dct t kvs)/\gP t i=true/\kvs.length < Hh/\Q (ah M a (.dct t (cz kvs i v))))
noncomputable def oh (te to ti:TEd):TSd:=fun D ρ M=>te ρ M fun v M1=>to ρ M1 fun o M2=>ti ρ M2 fun i M3=>fO o i v M3 fun M4=>D.nx ρ M4
theorem lM {o i v:D} {M:Mem} {Q Q':Mem->Prop} (h:∀ M',Q M'->Q' M') (q:fO o i v M Q):fO o i v M Q':=by
 obtain ⟨a,e,⟨xs,k,j,e1,e2,z,q⟩ | ⟨t,kvs,e1,e2,z,q⟩⟩:=q
 ·exact ⟨a,e, .inl ⟨xs,k,j,e1,e2,z,h _ q⟩⟩
 ·exact ⟨a,e, .inr ⟨t,kvs,e1,e2,z,h _ q⟩⟩
theorem xU {te to ti:TEd} (he:ae te) (ho:ae to) (hi:ae ti):aI (oh te to ti):=fun a b ρ M i q =>
 he _ _ _ _ (fun v F j=>ho _ _ _ _ (fun o M2 z=>hi _ _ _ _ (fun k G B=>lM (fun M' q'=>i.nx _ _ q') B) z) j) q
section
variable {X:Cx} {K:Frag}
theorem oi (j:X.A.units+1 < JS):PSet X (fun o i v H Q => ∃ a H',o = .ref a/\DPut H a i v H'/\Q H'):=by
 intro pins s σ H o i v ov iv u Q I ro ri rv h;obtain ⟨a,H',rfl,g,q⟩:=h
 cases ro
 exact ui j I g ri rv fun s' I'=>⟨H',I',q⟩
theorem PSet.or {t t':kf} (h:PSet X t) (h':PSet X t'):PSet X (fun o i v H Q=>t o i v H Q∨t' o i v H Q):=by
 intro pins s σ H o i v ov iv u Q I ro ri rv q
 rcases q with q | q
 ·exact h pins s σ H o i v ov iv u Q I ro ri rv q
 ·exact h' pins s σ H o i v ov iv u Q I ro ri rv q
section
variable {κ:Type} [DecidableEq κ] {H:Hp} {RK:D -> κ -> Prop} (inj:∀ {d e:D} {k : κ},RK d k->RK e k->d=e) (fn:∀ {d:D} {k k' : κ},RK d k->RK d k'->k=k')
include inj fn
theorem qB {k:D} {q : κ} (j:RK k q):∀ {kvs:List (D×D)} {ps:List (κ × V)},Ih (fun p r=>RK p.1 r.1/\RD K H p.2 r.2) kvs ps ->
 (kvs.any fun p=>decide (p.1=k))=(ps.any fun p=>decide (p.1=q))
 | _,_, .nil=>rfl
 | _,_, .cons (a:=p) (b:=r) hr t=>by
   rw [Jw,Jw,qB j t];congr 1
   by_cases e:p.1=k
   ·have e':r.1=q:=by have h1:=hr.1;rw [e] at h1;exact fn h1 j
    rw [decide_eq_true e,decide_eq_true e']
   ·have e' : ¬ r.1=q:=fun z=>e (by have h1:=hr.1;rw [z] at h1;exact inj h1 j)
    rw [decide_eq_false e,decide_eq_false e']
theorem qC {k:D} {q : κ} (B:RK k q) {d:D} {v:V} (F:RD K H d v):∀ {kvs:List (D×D)} {ps:List (κ × V)},Ih (fun p r=>RK p.1 r.1/\RD K H p.2 r.2) kvs ps ->
 Ih (fun p r=>RK p.1 r.1/\RD K H p.2 r.2) (kvs.map fun p=>if p.1=k then (p.1,d) else p) (ps.map fun p=>if p.1=q then (p.1,v) else p)
 | _,_, .nil => .nil
 | _,_, .cons (a:=p) (b:=r) j t=>by
   refine .cons ?_ (qC B F t)
   by_cases e:p.1=k
   ·have e':r.1=q:=by have h1:=j.1;rw [e] at h1;exact fn h1 B
    dsimp only;rw [if_pos e,if_pos e'];exact ⟨j.1,F⟩
   ·have e' : ¬ r.1=q:=fun z=>e (by have h1:=j.1;rw [z] at h1;exact inj h1 B)
    dsimp only;rw [if_neg e,if_neg e'];exact j
theorem iK {k:D} {q : κ} (j:RK k q) {d:D} {v:V} (z:RD K H d v) {kvs:List (D×D)} {ps:List (κ × V)} (r:Ih (fun p r=>RK p.1 r.1/\RD K H p.2 r.2) kvs ps) :
 Ih (fun p r=>RK p.1 r.1/\RD K H p.2 r.2) (cz kvs k d) (bq ps q v):=by
 unfold cz bq;rw [qB (K:=K) (H:=H) (RK:=RK) inj fn j r]
 by_cases e:(ps.any fun p=>decide (p.1=q))=true
 ·rw [if_pos e,if_pos e];exact qC (RK:=RK) inj fn j z r
 ·rw [if_neg e,if_neg e];exact r.snoc ⟨j,z⟩
end
theorem oj {M:Mem} {H:Hp} {o i v:D} {ov iv vv:V} {Qd:Mem->Prop} {Q:Hp->Prop} (rm:RM K M H) (ro:RD K H o ov) (ri:RD K H i iv) (rv:RD K H v vv) (h:fO o i v M Qd) (J:∀ M' H',Ext M H M' H'->RM K M' H'->Qd M'->Q H') :
 yX ov iv vv H Q ∨ ∃ a H',ov = .ref a/\DPut H a iv vv H'/\Q H':=by
 obtain ⟨a,rfl,⟨xs,k,j,rfl,e2,G,q⟩ | ⟨t,kvs,e1,e2,G,q⟩⟩:=h
 ·cases Ru.mp ro
  cases Rt.mp ri
  obtain ⟨vs,O,rs⟩:=rm _ _ e2;have st:Stab H (upd H a (.lst (vs.set j vv))):=rm.stabPut e2;exact .inl ⟨a,vs,k,j,rfl,rfl,O,by rw [rs.length];exact G,J _ _ (Ext.put e2) (rm.put (o := .lst (xs.set j v)) e2 ⟨_,aw,(rs.set j rv).mono st⟩) q⟩
 ·cases Ru.mp ro
  have ro':=rm _ _ e1
  cases t with
  | false =>
    obtain ⟨ps,L,pr⟩:=ro';obtain ⟨kq,F⟩:=nA (show fG i=true from e2);have st:Stab H (upd H a (.dK (bq ps kq vv))):=rm.stabPut e1;have B:=iK (RK:=RKey) RKey.inj RKey.fun F rv pr;rw [kz F ri];refine .inr ⟨a,_,rfl,DPut.k L (by rw [<- Kh pr];exact G),J _ _ (Ext.put e1) (rm.put (o := .dct false (cz kvs i v)) e1 ⟨_,aw,Rz B fun _ _ z=>⟨z.1,z.2.mono st⟩⟩) q⟩
  | true =>
    obtain ⟨ps,L,pr⟩:=ro';obtain ⟨kq,F⟩:=ko (show bW i=true from e2);have st:Stab H (upd H a (.dT (bq ps kq vv))):=rm.stabPut e1;have B:=iK (RK:=RKeys) RKeys.inj RKeys.fun F rv pr
    cases i <;> first
     | exact F.elim
     | (obtain ⟨b,us,rfl,hb,ru⟩:=RL (ku e2) ri
        rw [fH F ru] at hb;exact .inr ⟨a,_,rfl,DPut.t L hb (by rw [<- Kh pr];exact G),J _ _ (Ext.put e1) (rm.put (o := .dct true (cz kvs _ v)) e1 ⟨_,aw,Rz B fun _ _ z=>⟨z.1,z.2.mono st⟩⟩) q⟩)
theorem CO {o i e:Expr} {te to ti:TEd} {pos tpos:Pos} (hu:X.A.units+1 < JS) (me:ae te) (mo:ae to) (mi:ae ti) (he:PE X e (lE X.K te)) (ho:PE X o (lE X.K to)) (hi:PE X i (lE X.K ti))
 (hs:KP [.Subscript o i tpos] e pos.line X.env=pure false) (hw:JR [.Subscript o i tpos] e X.env=pure none)
 (ha:∀ v,assign (.Subscript o i tpos) X.env v=(do
   let ov <- holding [v] (eval o X.env)
   let iv <- holding [v,ov] (eval i X.env)
   NM tpos
   holding [v,ov,iv] (Ph ov iv v)
   release [v,ov,iv] [])):PS X (.Assign [.Subscript o i tpos] e pos) (lS X.K (oh te to ti)):=by
 refine PS.imp (tT he (BZ ho hi (PSet.or ng (oi hu)) ha) hs hw rfl) fun D σ H h => ?_;obtain ⟨ρ,M,A,rs,rm,l,q⟩:=h;refine ⟨ρ,M,rs,rm,me _ _ _ _ (fun v M1 q1 vv H1 F j G => ?_) q⟩;refine ⟨ρ,M1,rs.mono (F.stab rm),j,mo _ _ _ _ (fun ov M2 q2 vo H2 J z L => ?_) q1⟩;refine ⟨ρ,M2,(rs.mono (F.stab rm)).mono (J.stab j),z,mi _ _ _ _ (fun iv M3 q3 vi H3 O U Y => ?_) q2⟩;have B:=F.trans (J.trans O);exact oj U (L.mono (O.stab z)) Y ((G.mono (J.stab j)).mono (O.stab z)) q3 fun M' H' x4 Z q4=>l.nx ρ M' σ H' (B.trans x4) (rs.mono ((B.trans x4).stab rm)) Z q4
noncomputable def mV:R2d
 | .int i, .int j,M,Q=>Q (.int (i+j)) M
 | _,_,_,_=>False
noncomputable def mW:R2d
 | .int i, .int j,M,Q=>Q (.int (i - j)) M
 | _,_,_,_=>False
noncomputable def mX:R2d
 | .int i, .int j,M,Q=>MulOk i j/\Q (.int (i*j)) M
 | _,_,_,_=>False
theorem lN:aJ mV:=by
 intro x y M Q Q' h q
 cases x <;> cases y <;> first | exact q.elim | exact h _ _ q
theorem lP:aJ mW:=by
 intro x y M Q Q' h q
 cases x <;> cases y <;> first | exact q.elim | exact h _ _ q
theorem lQ:aJ mX:=by
 intro x y M Q Q' h q
 cases x <;> cases y <;> first | exact q.elim | exact ⟨q.1,h _ _ q.2⟩
theorem uX:OpR X (Mo .Add) (l2 X.K mV):=by
 refine OpR.of zW fun v u H Q h => ?_;obtain ⟨x,y,M,rm,rx,ry,q⟩:=h
 cases x <;> cases y <;> first
  | exact q.elim
  | (cases Rt.mp rx;cases Rt.mp ry;exact ⟨_,_,rfl,rfl,q _ H Ext.refl rm (Rt.mpr rfl)⟩)
theorem uY:OpR X (Mo .Sub) (l2 X.K mW):=by
 refine OpR.of zX fun v u H Q h => ?_;obtain ⟨x,y,M,rm,rx,ry,q⟩:=h
 cases x <;> cases y <;> first
  | exact q.elim
  | (cases Rt.mp rx;cases Rt.mp ry;exact ⟨_,_,rfl,rfl,q _ H Ext.refl rm (Rt.mpr rfl)⟩)
theorem uZ:OpR X (Mo .Mult) (rI MulOk fun i j => .int (i*j)):=opI fun _ _ _ _ _ _ _ z q=>imul_int q z.ok
theorem v6:OpR X (Mo .Mult) (l2 X.K mX):=by
 refine OpR.of uZ fun v u H Q h => ?_;obtain ⟨x,y,M,rm,rx,ry,q⟩:=h
 cases x <;> cases y <;> first
  | exact q.elim
  | (cases Rt.mp rx;cases Rt.mp ry;exact ⟨_,_,rfl,rfl,q.1,q.2 _ H Ext.refl rm (Rt.mpr rfl)⟩)
end
end
end Mi
end L2
namespace L2
open PySem PySem.Spec PyProof.Rows
section
section
variable {X:Cx} {pos:Pos}
noncomputable def zi (i j l:Nat) (ta:TA):TS:=fun D σ H=>ta σ H fun vs H1 => ∃ u v w,vs=[u,v,w]/\D.nx (((σ.set i (some u)).set j (some v)).set l (some w)) H1
theorem AI {i j l:Nat} {x y z:Str} {a b c:Expr} {ta:TA} {px py pz pt:Pos} {kt L B} (hc:X.calm=true) (O:X.N.Nodup) (hi:X.N[i]? = some x) (hj:X.N[j]? = some y) (hl:X.N[l]? = some z) (U:i≠j) (Y:i≠l) (Z:j≠l)
 (hx:X.env.scope.names.lookup x=some .local) (hy:X.env.scope.names.lookup y=some .local) (hz:X.env.scope.names.lookup z=some .local) (ha:PA X [a,b,c] ta)
 (hw:JR [.Tuple [.Name x px, .Name y py, .Name z pz] kt pt] (.Tuple [a,b,c] L B) X.env=pure (some [x,y,z]))
 (hs:KP [.Tuple [.Name x px, .Name y py, .Name z pz] kt pt] (.Tuple [a,b,c] L B) pos.line X.env=pure false:=by rfl) :
 PS X (.Assign [.Tuple [.Name x px, .Name y py, .Name z pz] kt pt] (.Tuple [a,b,c] L B) pos) (zi i j l ta):=by
 intro pins s σ H D I h;rw [exec_Assign_arm];refine gV (Ki ?_);rw [hs];refine gV (q7 ?_);rw [if_neg (by decide)]
 refine gV (Tuple_ (thn (ha _ pins s σ H _ I h) fun us s1 ⟨vs,H1,I1,r1,q1⟩ => ?_));obtain ⟨v1,v2,v3,e1,q1⟩:=q1;subst e1;obtain ⟨F,G,J,rfl,w1,w2,w3⟩:∃ F G J,us=[F,G,J]/\RelV v1 F/\RelV v2 G/\RelV v3 J:=by
  cases r1 with
  | cons p q=>cases q with
    | cons p' q'=>cases q' with
      | cons p'' q''=>cases q'';exact ⟨_,_,_,rfl,p,p',p''⟩
 refine IQ ?_ (by show 3<=Hh;decide)
 have I2:Inv X pins σ H1 { s1 with heap:=s1.heap.push { cls := .type "tuple",data := .seq [F,G,J].toArray } }:=I1.kept (t':=s1.toks) fun b o e=>hH _ e
 rw [hw];refine gV (q7 ?_);show Hm (model X.prog X.w) X.A (do rule "assign.swapped-stores";let items <- unpackItems (.ref s1.heap.objs.size) 3 none;My [fun v=>LK X.env z v,fun v=>LK X.env y v,fun v=>LK X.env x v] items.reverse;pure Qm) _ _ _
 refine gV (IT (gV (Q2 (items := #[F,G,J]) (I.ok.hd hc) (LC s1.heap _) fun h' EX => ?_)));have I3:=I2.kept (h':=h') (t':=s1.toks) fun b o e=>EX b o (I0 (Hi e)) e;show Hm _ _ (My [fun v=>LK X.env z v,fun v=>LK X.env y v,fun v=>LK X.env x v] [J,G,F] >>= fun _=>pure Qm) _ _ _;refine gV (JX (LL (cS I3 O hl (.inl hz) w3 (fun s2 I4 => ?_) (.inr hz))));refine JX (LL (cS I4 O hj (.inl hy) w2 (fun s3 I5 => ?_) (.inr hy)));refine JX (LL (cS I5 O hi (.inl hx) w1 (fun s4 I6=>NL (q7 ?_)) (.inr hx)));have e:(((σ.set l (some v3)).set j (some v2)).set i (some v1))=((σ.set i (some v1)).set j (some v2)).set l (some v3):=by
  rw [NS _ _ (Ne.symm Z),NS _ _ (Ne.symm Y),NS _ _ (Ne.symm U)]
 rw [e] at I6;exact ⟨_,H1,I6,q1⟩
end
namespace Mi
variable {K:Frag}
theorem v7 {ta:TAd} {i j:Nat} (m:bp ta) (D:bE) (σ:St) (H:Hp) (h:lS K (iJ ta (aX (aQ i) (aX (aQ j) dz))) D σ H):C0 i j (lA K ta) D σ H:=by
 obtain ⟨ρ,M,A,rs,rm,l,q⟩:=h;refine ⟨ρ,M,rs,rm,m _ _ _ _ (fun ds G ⟨ρ',e,J⟩ vs H1 F B z => ?_) q⟩
 match ds,e,z with
 | [d1,d2],e,z =>
  obtain ⟨v,u,rfl,L,O⟩:=z.two;simp only [aX,aQ,dz,Lc,NQ] at e;subst e;exact ⟨v,u,rfl,l.nx _ G _ H1 F (((rs.mono (F.stab rm)).set i L).set j O) B J⟩
theorem v8 {ta:TAd} {i j k:Nat} (m:bp ta) (D:bE) (σ:St) (H:Hp) (h:lS K (iJ ta (aX (aQ i) (aX (aQ j) (aX (aQ k) dz)))) D σ H):zi i j k (lA K ta) D σ H:=by
 obtain ⟨ρ,M,A,rs,rm,l,q⟩:=h;refine ⟨ρ,M,rs,rm,m _ _ _ _ (fun ds J ⟨ρ',e,L⟩ vs H1 G B z => ?_) q⟩
 match ds,e,z with
 | [d1,d2,d3],e,z =>
  obtain ⟨v,r,rfl,O,F⟩:=Rw.mp z;obtain ⟨u,w,rfl,U,Y⟩:=F.two;simp only [aX,aQ,dz,Lc,NQ] at e;subst e;exact ⟨v,u,w,rfl,l.nx _ J _ H1 G ((((rs.mono (G.stab rm)).set i O).set j U).set k Y) B L⟩
end Mi
end
section
section
variable {X:Cx}
theorem aC:C2 X (fun o i H Q => ∃ a xs k x,o = .ref a/\i = .int k/\SqL X.K H a xs/\atI xs k=some x/\Q x H):=by
 intro pins s σ H o i ov iv Q I ro ri h;obtain ⟨a,xs,k,x,rfl,rfl,sq,he,q⟩:=h
 cases ro
 obtain ⟨t,rfl⟩:=ri;obtain ⟨its,r,pl,J⟩:=I.list sq;obtain ⟨j,h1,h2,L,B,F⟩:=kg he;obtain ⟨w,ew,rw'⟩:=r.get h2;have G:=r.length;have hn:=eU;have fin:EP X pins σ Q w s:=⟨x,H,I,rw',q⟩
 by_cases h0 : 0<=k
 ·have z:k.toNat=j:=Jj.inj (by rw [<- h1,OP h0 F])
  exact wpAny_getItem_list pl.isList h0 (by lia) (by rw [z];simpa using ew) fin
 ·have z:(k+(its.toArray.size:Int)).toNat=j:=by
   rw [Hj, <- G];exact Jj.inj (by rw [<- h1,Oo (by lia) B])
  exact Ot pl.isList (by lia) (by rw [Hj];lia) (by lia) (by rw [z];simpa using ew) fin
end
namespace Mi
section
variable {X:Cx}
noncomputable def zj:R2d:=fun x y M Q => ∃ a ds k d,x = .ref a/\y = .int k/\M a=some (.lst ds)/\atI ds k=some d/\Q d M
theorem v9:aJ zj:=fun _ _ _ _ _ h ⟨a,ds,k,d,e1,e2,j,z,q⟩=>⟨a,ds,k,d,e1,e2,j,z,h _ _ q⟩
noncomputable def jC (to ti te:TEd) (rd:R2d):TSd:=fun D ρ M=>to ρ M fun o M1=>ti ρ M1 fun i M2=>zj o i M2 fun x M3=>te ρ M3 fun y M4=>rd x y M4 fun z M5=>fO o i z M5 fun M6=>D.nx ρ M6
theorem va {to ti te:TEd} {rd:R2d} (ho:ae to) (hi:ae ti) (he:ae te) (j:aJ rd):aI (jC to ti te rd):=fun a b ρ M l q =>
 ho _ _ _ _ (fun o U B=>hi _ _ _ _ (fun i M2 F=>v9 _ _ _ _ _ (fun x Y G=>he _ _ _ _ (fun y Z J=>j _ _ _ _ _ (fun z M5 L=>lM (fun M6 O=>l.nx _ _ O) L) J) G) F) B) q
theorem kF {o i e:Expr} {to ti te:TEd} {op:LJ} {rd:R2d} {pos tpos:Pos} (hu:X.A.units+1 < JS) (mo:ae to) (mi:ae ti) (me:ae te) (hr:aJ rd) (ho:PE X o (lE X.K to)) (hi:PE X i (lE X.K ti)) (he:PE X e (lE X.K te)) (J:OpR X (Mo op) (l2 X.K rd))
 (ha:∀ ov iv new,augStore i ov iv new=(do holding [new,ov,iv] (Ph ov iv new);release [new,ov,iv] [];pure .next)):PS X (.AugAssign (.Subscript o i tpos) op e pos) (lS X.K (jC to ti te rd)):=by
 refine PS.imp (zV ho hi aC he (tip:=l2 X.K rd) J (PSet.or ng (oi hu)) ha) fun D σ H h => ?_;obtain ⟨ρ,M,A,rs,rm,l,q⟩:=h;refine ⟨ρ,M,rs,rm,mo _ _ _ _ (fun d1 M1 q1 v1 H1 x1 j L => ?_) q⟩;have B:=rs.mono (x1.stab rm);refine ⟨ρ,M1,B,j,mi _ _ _ _ (fun d2 M2 q2 v2 H2 O z U => ?_) q1⟩;have Y:=B.mono (O.stab j);have F:=L.mono (O.stab j);obtain ⟨a,ds,k,d,rfl,rfl,e3,e4,q3⟩:=q2
 cases Ru.mp F
 cases Rt.mp U
 obtain ⟨vs,Z,rv⟩:=z _ _ e3;obtain ⟨v3,EX,EY⟩:=jk rv e4;refine ⟨a,vs,k,v3,rfl,rfl,SqL.of Z,EX, ?_⟩;refine ⟨ρ,M2,Y,z,me _ _ _ _ (fun d4 M4 q4 v4 H4 x4 EZ F1 => ?_) q3⟩;refine ⟨d,d4,M4,EZ,EY.mono (x4.stab z),F1,hr _ _ _ _ _ (fun d5 M5 q5 v5 H5 x5 F5 F6 => ?_) q4⟩;have G:=((x1.trans O).trans x4).trans x5;exact oj F5 (Ru.mpr rfl) (Rt.mpr rfl) F6 q5 fun M' H' x6 F7 q6=>l.nx ρ M' σ H' (G.trans x6) (rs.mono ((G.trans x6).stab rm)) F7 q6
end
section
section
variable {X:Cx}
noncomputable def oo:D->Option Bool
 | .bl b=>some b
 | .int i=>some (i != 0)
 | _=>none
noncomputable def sF:RAd:=fun xs M Q => ∃ x ds ts,xs=[x]/\ar M x=some ds/\aN oo ds=some ts/\Q (.bl (ts.all id)) M
theorem ot:b9 sF:=fun _ _ _ _ h ⟨x,ds,ts,e,e1,e2,q⟩=>⟨x,ds,ts,e,e1,e2,h _ _ q⟩
theorem ou {α β:Type} {f : α -> Option β}:∀ {xs:List α} {ys:List β},aN f xs=some ys->ys.length=xs.length /\ ∀ (i:Nat) x,xs[i]? = some x -> ∃ y,ys[i]? = some y/\f x=some y
 | [],ys,h=>by cases h;exact ⟨rfl,fun i x e=>by simp at e⟩
 | x::xs,ys,h=>by
   simp only [aN] at h
   cases e1:f x with
   | none=>rw [e1] at h;cases h
   | some y =>
     rw [e1] at h;simp only [Lc] at h
     cases e2:aN f xs with
     | none=>rw [e2] at h;cases h
     | some r =>
       rw [e2] at h;cases h;obtain ⟨l,g⟩:=ou e2;refine ⟨by simp [l],fun i z e => ?_⟩
       cases i with
       | zero=>simp at e;subst e;exact ⟨y,rfl,e1⟩
       | succ i=>simp at e;simpa using g i z e
theorem AJ {P:HI} {w:Ic} {A:Ik} {E:h6->z4->Prop} {s:z4} {K:Frag} {H:Hp} {d:D} {v:V} {u:h6} {b:Bool} {Q:Bool->z4->Prop} (e:oo d=some b) (rd:RD K H d v) (ru:RelV v u) (q:Q b s):Hm (model P w) A (truthy u) Q E s:=by
 cases d with
 | bl c=>cases Rx.mp rd;cases ru;cases e;exact K7 q
 | int i=>cases Rt.mp rd;obtain ⟨t,rfl⟩:=ru;cases e;exact PyProof.Rows.truthy_int q
 | _=>cases e
theorem range_all {ts:List Bool}:(B0 ts.length).all (fun i=>ts.getD i false)=ts.all id/\(B0 ts.length).any (fun i=>ts.getD i false)=ts.any id:=by
 have e:(B0 ts.length).map (fun i=>ts.getD i false)=ts:=by
  apply Qw
  ·simp
  ·intro i h1 h2;simp [Ip,A2 h2]
 constructor
 ·conv=>rhs;rw [<- e]
  rw [List.all_map];rfl
 ·conv=>rhs;rw [<- e]
  rw [List.any_map];rfl
theorem xV (G:X.calm=true) {pins:List (Addr×Obj)} {s:z4} {σ:St} {H:Hp} {M:Mem} {x:D} {ds:List D} {ts:List Bool} {v:V} {u:h6} {Q:h6->z4->Prop} {g:List Bool->Bool} (I:Inv X pins σ H s) (rm:RM X.K M H) (rd:RD X.K H x v) (ru:RelV v u) (e1:ar M x=some ds) (e2:aN oo ds=some ts)
 (fin:∀ h' tk,Inv X pins σ H { s with heap:=h',toks:=tk }->Q (.bool (g ts)) { s with heap:=h',toks:=tk })
 (gg:Nat->(Nat->Bool)->Bool) (J:gg ts.length (fun i=>ts.getD i false)=g ts) :
 Hm (model X.prog X.w) X.A.in1 (PH u) (fun it s₂ => ∃ I fp wr n P St tr,it = .ref I/\Walks X.prog X.w X.A.in1 I fp wr n P St/\St 0 s₂.heap/\TruthOf X.prog X.w X.A.in1 P tr /\
  ∀ h' tk,(∀ b o,b∉wr->s₂.heap.get? b=some o->h'.get? b=some o)->Q (.bool (gg n tr)) { s₂ with heap:=h',toks:=tk }) X.xe s:=by
 obtain ⟨p,vs,rfl,sq,L⟩:=nM rm rd e1
 cases ru
 obtain ⟨lt,get⟩:=ou e2;have lv:=L.length;have tr:∀ (its:List h6),Vals vs its->TruthOf X.prog X.w X.A.in1 (fun i w=>its.toArray[i]? = some w) (fun i=>ts.getD i false):=by
  intro its rv i w s' Q' E' O B;have q:its[i]? = some w:=by simpa using O
  have li:=rv.length;have hi:i < its.length:=(Hx.mp q).1;obtain ⟨d,hd⟩:∃ d,ds[i]? = some d:=⟨ds[i]'(by lia),A2 (by lia)⟩
  obtain ⟨v',F,rd'⟩:=L.get hd;obtain ⟨u',z,ru'⟩:=rv.get F;rw [q] at z;cases z;obtain ⟨b,hb,eb⟩:=get i d hd;have:ts.getD i false=b:=by rw [Ip,hb];rfl
  have B:Q' (ts.getD i false) s':=B;rw [this] at B;exact AJ eb rd' ru' B
 rcases sq with sq | sq
 ·obtain ⟨its,rv,pl,U⟩:=I.list sq;have li:=rv.length;have j:p < s.heap.objs.size:=by obtain ⟨o,n,e,_⟩:=pl;exact Hi e
  refine Jb pl.isList ⟨s.heap.objs.size,_,_,_,_,_,_,rfl,Walks.list (by rw [PY];exact I.ok.hd G) s.heap.objs.size p (I0 j) its.toArray,⟨⟨_,D1 _ rfl,rfl,rfl⟩,pl.isList.at fun o e=>hH _ e⟩,tr its rv,fun h' tk k => ?_⟩
  have hn:its.toArray.size=ts.length:=by rw [Hj];lia
  rw [hn,J];exact fin h' tk (I.kept (t':=tk) fun b o e=>k b o (by simp;exact I0 (Hi e)) (hH _ e))
 ·obtain ⟨its,rv,pl,U⟩:=I.tuple sq;have li:=rv.length;have j:p < s.heap.objs.size:=by obtain ⟨o,e,_⟩:=pl;exact Hi e
  have pt:s.heap.IsTuple p its.toArray:=pl;refine II pt ⟨s.heap.objs.size,_,_,_,_,_,_,rfl,Walks.tuple (by rw [PY];exact I.ok.hd G) s.heap.objs.size p (I0 j) its.toArray,⟨⟨_,D1 _ rfl,rfl,rfl⟩,pt.push _⟩,tr its rv,fun h' tk k => ?_⟩
  have hn:its.toArray.size=ts.length:=by rw [Hj];lia
  rw [hn,J];exact fin h' tk (I.kept (t':=tk) fun b o e=>k b o (by simp;exact I0 (Hi e)) (hH _ e))
theorem sH (j:X.calm=true):CallR X (.builtin "all") (lR X.K sF):=by
 intro pins s σ H xs us Q I rv h;obtain ⟨ds,M,rm,rs,x,es,ts,rfl,e1,e2,q⟩:=h;obtain ⟨v,rfl,r⟩:=rs.one;obtain ⟨u,rfl,ru⟩:=eJ rv;exact call_all_walk (xV j I rm r ru e1 e2 (g:=fun ts=>ts.all id) (fun h' tk I'=>⟨.bl _,H,I',rfl,q _ H Ext.refl rm (Rx.mpr rfl)⟩) (fun n tr=>(B0 n).all tr) range_all.1)
noncomputable def jD (t:Bool):TEd:=fun _ M Q => ∀ p,M p=none->Q (.ref p) (ah M p (.dct t []))
theorem vc {t:Bool}:ae (jD t):=fun _ _ _ _ i q p n=>i _ _ (q p n)
theorem AK {t:Bool} {pos:Pos}:PE X (.Dict [] [] pos) (lE X.K (jD t)):=by
 cases t with
 | false =>
   refine PE.imp wZ fun σ H Q ⟨ρ,M,rs,rm,q⟩ p n => ?_;exact q p (rm.out n) (.ref p) _ (Ext.lay n) (rm.lay n ⟨[],aw, .nil⟩) (Ru.mpr rfl)
 | true =>
   refine PE.imp xc fun σ H Q ⟨ρ,M,rs,rm,q⟩ p n => ?_;exact q p (rm.out n) (.ref p) _ (Ext.lay n) (rm.lay n ⟨[],aw, .nil⟩) (Ru.mpr rfl)
end
end
end Mi
end
end L2
namespace L2
namespace Srt
open PySem PySem.Spec PyProof.Rows
structure Cm (prog:HI) (w:Ic) (A:Ik) (s:z4) (kd:Ln) (P:Hf->Prop) (lt:Hf->Hf->Bool):Prop where
 asym:∀ x y,lt x y=true->lt y x=false
 neg:∀ x y z,lt x z=true->lt x y=true∨lt y z=true
 run:∀ (x y:Hf) (E:h6->z4->Prop) (Q:Bool->z4->Prop),P x->P y->Q (lt x y) s->Hm (Hv prog w) A (keyLt' kd x.1 y.1) Q E s
section
variable {prog:HI} {w:Ic} {A:Ik} {E:h6->z4->Prop} {s:z4} {kd:Ln} {P:Hf->Prop} {lt:Hf->Hf->Bool}
theorem aa {σ α:Type} {M:MK} {x : α} {st : σ} {Q : α -> σ -> Prop} (q:Q x st):wpS M A E s (pure x) Q st :=
 fun _ _ _=>⟨rfl,q⟩
theorem cV {σ:Type} {M:MK} {tag:String} {st : σ} {Q:Unit -> σ -> Prop} (q:Q () st):wpS M A E s (liftM (PySem.rule tag)) Q st :=
 wpS_lift (IT ⟨rfl,q⟩)
theorem AL {σ:Type} {M:MK} {st st' : σ} {Q:PUnit -> σ -> Prop} (q:Q PUnit.unit st'):wpS M A E s (set st') Q st :=
 fun _ _ _=>⟨rfl,q⟩
theorem jE (c:Cm prog w A s kd P lt) {x y:Hf} {st:Iv} {Q:Option Bool->Iv->Prop} (j:IW st=kd) (hx:P x) (z:P y) (q:Q (some (lt x y)) st):wpS (Hv prog w) A E s (lt' x y) Q st:=by
 rw [lt'_eq];refine D2 (Lr ?_);refine D2 (wpS_lift ?_);rw [j];intro Γ p hp;rw [Sem.wp_attempt];exact c.run x y (fun e s'=>s'=s/\wpS (Hv prog w) A E s (do modify fun s=>Mu (IW s) (Ib s) (Ht s) (gallopOf s) (some e);pure none) Q st) (fun b s'=>s'=s/\wpS (Hv prog w) A E s (pure (some b)) Q st) hx z ⟨rfl,aa q⟩ Γ p hp
theorem aD {arr:Array Hf} {i:Nat} {x:Hf} {st:Iv} {Q:Hf->Iv->Prop} (h:arr[i]? = some x) (q:Q x st):wpS (Hv prog w) A E s (elem' arr i) Q st:=by
 rw [elem'_eq,h];exact aa q
theorem Cm.le_trans (c:Cm prog w A s kd P lt) {x y z:Hf} (h:lt y x=false) (h2:lt z y=false):lt z x=false:=by
 cases e:lt z x with
 | false=>rfl
 | true=>rcases c.neg z y x e with q | q <;> simp_all
theorem Cm.irr (c:Cm prog w A s kd P lt) {x:Hf}:lt x x=false:=by
 cases e:lt x x with
 | false=>rfl
 | true=>have:=c.asym x x e;rw [e] at this;exact this
theorem aE {σ α:Type} {M:MK} {m:StateT σ Sem α} {st : σ} {Q Q' : α -> σ -> Prop} (h:wpS M A E s m Q st) (q:∀ a st',Q a st'->Q' a st'):wpS M A E s m Q' st :=
 Jr h (fun a s' z=>⟨z.1,q _ _ z.2⟩) fun _ _ z=>z
end
noncomputable abbrev CP:=Bool->Hf->Array Hf->Nat->Nat->Nat->StateT Iv Sem (Option Nat)
noncomputable abbrev CQ:=Array Hf->Array Hf->StateT Iv Sem (Array Hf)
noncomputable def bey (lt:Hf->Hf->Bool) (left:Bool) (key x:Hf):Bool:=if left=true then lt x key else !(lt key x)
structure Same (st st':Iv):Prop where
 arr:Ib st'=Ib st
 kind:IW st'=IW st
 pend:Ht st'=Ht st
 fail:JM st'=JM st
def gX (prog:HI) (w:Ic) (A:Ik) (E:h6->z4->Prop) (s:z4) (kd:Ln) (P:Hf->Prop) (lt:Hf->Hf->Bool) (g:CP):Prop :=
 ∀ (left:Bool) (key:Hf) (arr:Array Hf) (L xs R:List Hf) (base n hint:Nat) (st:Iv) (Q:Option Nat->Iv->Prop),IW st=kd->P key->arr.toList=L++xs++R->base=L.length->n=xs.length->(∀ x∈xs,P x)->hint < n ->
  xs.Pairwise (fun x y=>lt y x=false) ->
  (∀ X Y,xs=X++Y->(∀ x∈X,bey lt left key x=true)->(∀ x∈Y,bey lt left key x=false)->Q (some X.length) st) ->
  wpS (Hv prog w) A E s (g left key arr base n hint) Q st
def gY (prog:HI) (w:Ic) (A:Ik) (E:h6->z4->Prop) (s:z4) (kd:Ln) (P:Hf->Prop) (lt:Hf->Hf->Bool) (m:CQ):Prop :=
 ∀ (a b:Array Hf) (st:Iv) (Q:Array Hf->Iv->Prop),IW st=kd->(∀ x∈a.toList,P x)->(∀ x∈b.toList,P x)->0 < a.size->0 < b.size ->
  a.toList.Pairwise (fun x y=>lt y x=false)->b.toList.Pairwise (fun x y=>lt y x=false)->(∀ x y,a[0]? = some x->b[0]? = some y->lt x y=false)->(∀ x y,a[a.size - 1]? = some x->b[b.size - 1]? = some y->lt x y=false) ->
  (∀ r st',r.toList.Perm (a.toList++b.toList)->r.toList.Pairwise (fun x y=>lt y x=false)->Same st st'->Q r st') ->
  wpS (Hv prog w) A E s (m a b) Q st
section
variable {prog:HI} {w:Ic} {A:Ik} {E:h6->z4->Prop} {s:z4} {kd:Ln} {P:Hf->Prop} {lt:Hf->Hf->Bool}
theorem gv (c:Cm prog w A s kd P lt) {left:Bool} {key x:Hf} {arr:Array Hf} {j:Nat} {st:Iv} {Q:Option Bool->Iv->Prop} (z:IW st=kd) (hx:P key) (B:P x) (e:arr[j]? = some x) (q:Q (some (bey lt left key x)) st) :
 wpS (Hv prog w) A E s (do
  let x <- elem' arr j
  if left=true then lt' x key else do
   let r <- lt' key x
   pure (Option.map (fun x => !x) r)) Q st:=by
 refine D2 (aD e ?_)
 cases left with
 | true=>exact jE c z B hx q
 | false=>exact D2 (jE c z hx B (aa q))
theorem ow (c:Cm prog w A s kd P lt) {left:Bool} {key x y:Hf} (h:lt y x=false) (hb:bey lt left key y=true):bey lt left key x=true:=by
 unfold bey at hb ⊢
 cases left with
 | true =>
   rw [if_pos rfl] at hb ⊢
   rcases c.neg y x key hb with q | q
   ·rw [h] at q;cases q
   ·exact q
 | false =>
   simp at hb ⊢
   cases e:lt key x with
   | false=>rfl
   | true =>
     rcases c.neg key y x e with q | q
     ·rw [hb] at q;cases q
     ·rw [h] at q;cases q
structure Gal (lt:Hf->Hf->Bool) (left:Bool) (key:Hf) (xs:List Hf) (lo hi:Nat):Prop where
 le:lo<=hi
 len:hi<=xs.length
 up:∀ i x,i < lo->xs[i]? = some x->bey lt left key x=true
 dn:∀ i x,hi<=i->xs[i]? = some x->bey lt left key x=false
theorem eY {xs:List Hf} {R:Hf->Hf->Prop} (h:xs.Pairwise R) {i j:Nat} {x y:Hf} (q:i < j) (hx:xs[i]? = some x) (z:xs[j]? = some y):R x y:=by
 obtain ⟨h1,e1⟩:=Hx.mp hx;obtain ⟨h2,e2⟩:=Hx.mp z;rw [<- e1, <- e2];exact List.pairwise_iff_getElem.mp h i j h1 h2 q
theorem gZ (c:Cm prog w A s kd P lt) {left:Bool} {key:Hf} {xs:List Hf} (h:xs.Pairwise (fun x y=>lt y x=false)) {j:Nat} {y:Hf} (q:xs[j]? = some y) (hb:bey lt left key y=true):∀ i x,i < j+1->xs[i]? = some x->bey lt left key x=true:=by
 intro i x hi hx
 by_cases e:i=j
 ·subst e;rw [hx] at q;cases q;exact hb
 ·exact ow c (eY h (by lia) hx q) hb
theorem hJ (c:Cm prog w A s kd P lt) {left:Bool} {key:Hf} {xs:List Hf} (h:xs.Pairwise (fun x y=>lt y x=false)) {j:Nat} {y:Hf} (z:xs[j]? = some y) (hb:bey lt left key y=false):∀ i x,j<=i->xs[i]? = some x->bey lt left key x=false:=by
 intro i x hi hx
 by_cases e:i=j
 ·subst e;rw [hx] at z;cases z;exact hb
 ·cases q:bey lt left key x with
  | false=>rfl
  | true=>have:=ow c (eY h (by lia) z hx) q;rw [hb] at this;cases this
theorem Gal.out {left:Bool} {key:Hf} {xs:List Hf} {k:Nat} (g:Gal lt left key xs k k):∃ X Y,xs=X++Y/\X.length=k/\(∀ x∈X,bey lt left key x=true)/\(∀ x∈Y,bey lt left key x=false):=by
 refine ⟨xs.take k,xs.drop k,(IY k xs).symm,by rw [Hz];exact Ls g.len,fun x hx => ?_,fun x hx => ?_⟩
 ·obtain ⟨i,hi,e⟩:=JC.mp hx;rw [Hz] at hi;exact g.up i x (by lia) (by rw [List.getElem_take] at e;rw [<- e];exact A2 _)
 ·obtain ⟨i,hi,e⟩:=JC.mp hx;rw [J8] at hi;refine g.dn (k+i) x (by lia) ?_
  rw [List.getElem_drop] at e;rw [<- e];exact A2 _
noncomputable abbrev Ord (lt:Hf->Hf->Bool) (l:List Hf):Prop:=l.Pairwise fun x y=>lt y x=false
theorem ox {out X A' B:List Hf} (h1:Ord lt (out++(X++A'))) (h2:Ord lt (out++B)) (h:∀ x∈X, ∀ y∈B,lt y x=false):Ord lt ((out++X)++A')/\Ord lt ((out++X)++B):=by
 refine ⟨by rw [Hl];exact h1, ?_⟩
 rw [Hl];obtain ⟨j,q,F⟩:=D0.mp h1;obtain ⟨O,p2,G⟩:=D0.mp h2;obtain ⟨J,U,Y⟩:=D0.mp q;refine D0.mpr ⟨j,D0.mpr ⟨J,p2,h⟩,fun x hx y L => ?_⟩
 rcases Hy.mp L with z | z
 ·exact F x hx y (IA _ z)
 ·exact G x hx y z
structure ML (lt:Hf->Hf->Bool) (la lb out:List Hf) (ia ib:Nat):Prop where
 pa:Ord lt (out++la.drop ia)
 pb:Ord lt (out++lb.drop ib)
 pm:(out++(la.drop ia++lb.drop ib)).Perm (la++lb)
theorem qD (c:Cm prog w A s kd P lt) {l:List Hf} {i:Nat} {x y:Hf} (h:Ord lt (l.drop i)) (j:l[i]? = some y) (hx:lt y x=false):∀ z∈l.drop i,lt z x=false:=by
 obtain ⟨hi,e⟩:=Hx.mp j;rw [IG hi,e] at h ⊢;intro z B
 rcases Hg.mp B with q | q
 ·rw [q];exact hx
 ·exact c.le_trans hx ((Nw.mp h).1 z q)
theorem eA {l X Y:List Hf} {i:Nat} (e:l.drop i=X++Y):l.drop (i+X.length)=Y:=by
 rw [<- Nx,e,List.drop_left]
theorem ML.galA (c:Cm prog w A s kd P lt) {la lb out X Y:List Hf} {ia ib:Nat} {y:Hf} (m:ML lt la lb out ia ib) (e:la.drop ia=X++Y) (j:lb[ib]? = some y) (h:∀ x∈X,lt y x=false):ML lt la lb (out++X) (ia+X.length) ib:=by
 have p2:=(D0.mp m.pb).2.1;have q:=ox (X:=X) (A':=Y) (by rw [<- e];exact m.pa) m.pb fun x hx=>qD c p2 j (h x hx)
 refine ⟨by rw [eA e];exact q.1,q.2, ?_⟩
 rw [eA e];refine JV.trans (KO ?_) m.pm;rw [e];simp
theorem ML.galB (c:Cm prog w A s kd P lt) {la lb out X Y:List Hf} {ia ib:Nat} {y:Hf} (m:ML lt la lb out ia ib) (e:lb.drop ib=X++Y) (j:la[ia]? = some y) (h:∀ x∈X,lt y x=false):ML lt la lb (out++X) ia (ib+X.length):=by
 have p2:=(D0.mp m.pa).2.1;have q:=ox (X:=X) (A':=Y) (by rw [<- e];exact m.pb) m.pa fun x hx=>qD c p2 j (h x hx)
 refine ⟨q.2,by rw [eA e];exact q.1, ?_⟩
 rw [eA e];refine JV.trans ?_ m.pm;rw [e,Hl];refine Ir _ ?_;rw [<- Hl, <- Hl];exact IC _ KU
theorem eB {l:List Hf} {i:Nat} {x:Hf} (h:l[i]? = some x):l.drop i=[x]++l.drop (i+1):=by
 obtain ⟨hi,e⟩:=Hx.mp h;rw [IG hi,e];rfl
theorem ML.pushA (c:Cm prog w A s kd P lt) {la lb out:List Hf} {ia ib:Nat} {x y:Hf} (m:ML lt la lb out ia ib) (hx:la[ia]? = some x) (j:lb[ib]? = some y) (h:lt y x=false):ML lt la lb (out++[x]) (ia+1) ib :=
 m.galA c (eB hx) j (by simpa using h)
theorem ML.pushB (c:Cm prog w A s kd P lt) {la lb out:List Hf} {ia ib:Nat} {x y:Hf} (m:ML lt la lb out ia ib) (hx:la[ia]? = some x) (j:lb[ib]? = some y) (h:lt x y=false):ML lt la lb (out++[y]) ia (ib+1) :=
 m.galB c (eB j) hx (by simpa using h)
def Res (lt:Hf->Hf->Bool) (la lb r:List Hf):Prop:=r.Perm (la++lb)/\Ord lt r
theorem ML.fin {la lb out:List Hf} {ia ib:Nat} (m:ML lt la lb out ia ib) (h:lb.length<=ib):Res lt la lb (out++la.drop ia++lb.drop ib):=by
 rw [JQ h,Jl];refine ⟨?_,m.pa⟩;have:=m.pm;rw [JQ h,Jl] at this;exact this
theorem ML.finE {la lb out:List Hf} {ia ib:Nat} (m:ML lt la lb out ia ib) (h:la.length<=ia):Res lt la lb (out++la.drop ia++lb.drop ib):=by
 rw [JQ h,Jl];refine ⟨?_,m.pb⟩;have:=m.pm;rw [JQ h,MV] at this;exact this
theorem ML.finA {la lb out:List Hf} {ia ib:Nat} (m:ML lt la lb out ia ib) (h:∀ x∈lb, ∀ y∈la.drop ia,lt y x=false):Res lt la lb (out++lb.drop ib++la.drop ia):=by
 refine ⟨?_, ?_⟩
 ·refine JV.trans ?_ m.pm;rw [Hl];exact Ir _ KU
 ·obtain ⟨F,q,B⟩:=D0.mp m.pa;refine D0.mpr ⟨m.pb,q,fun x hx y j => ?_⟩
  rcases Hy.mp hx with z | z
  ·exact B x z y j
  ·exact h x (Ka z) y j
theorem ML.size {la lb out:List Hf} {ia ib:Nat} (m:ML lt la lb out ia ib) (j:ia<=la.length) (hb:ib<=lb.length):out.length=ia+ib:=by
 have:=m.pm.length_eq;simp only [A1,J8] at this;lia
theorem aC {a:Array Hf} {i:Nat} (h:i < a.size):∃ x,a[i]? = some x/\a.toList[i]? = some x/\x∈a.toList:=by
 refine ⟨a[i],HY h, ?_,Array.getElem_mem_toList h⟩;rw [HM];exact HY h
theorem bM {a:Array Hf} {i:Nat}:(a.extract i).toList=a.toList.drop i:=by
 rw [JD];simp only [Mc];exact KG (by simp)
theorem AM {a:Array Hf} {i:Nat} {X Y:List Hf} (e:a.toList.drop i=X++Y):(a.extract i (i+X.length)).toList=X:=by
 rw [JD];simp [Mc,e]
theorem Same.refl {st:Iv}:Same st st:=⟨rfl,rfl,rfl,rfl⟩
theorem Same.trans {a b c:Iv} (h:Same a b) (g:Same b c):Same a c:=⟨g.arr.trans h.arr,g.kind.trans h.kind,g.pend.trans h.pend,g.fail.trans h.fail⟩
theorem lU {O Y A' B:List Hf} (h1:Ord lt (A'++(Y++O))) (h2:Ord lt (B++O)) (h:∀ y∈Y, ∀ x∈B,lt y x=false):Ord lt (B++(Y++O)):=by
 obtain ⟨J,j,L⟩:=D0.mp h1;obtain ⟨q,p2,F⟩:=D0.mp h2;refine D0.mpr ⟨q,j,fun x hx y G => ?_⟩
 rcases Hy.mp G with z | z
 ·exact h y z x hx
 ·exact F x hx y z
structure MH (lt:Hf->Hf->Bool) (la lb out:List Hf) (na nb:Nat):Prop where
 pa:Ord lt (la.take na++out.reverse)
 pb:Ord lt (lb.take nb++out.reverse)
 pm:(la.take na++lb.take nb++out.reverse).Perm (la++lb)
theorem hW (c:Cm prog w A s kd P lt) {l:List Hf} {n:Nat} {x y:Hf} (h:Ord lt (l.take n)) (hn : 0 < n) (B:l[n - 1]? = some y) (hx:lt x y=false):∀ z∈l.take n,lt x z=false:=by
 intro z F;obtain ⟨i,hi,e⟩:=JC.mp F;have j:(l.take n)[i]? = some z:=by rw [<- e];exact A2 hi
 have q:(l.take n)[n - 1]? = some y:=by rw [Lk (by lia)];exact B
 rw [Hz] at hi
 by_cases hin:i=n - 1
 ·subst hin;rw [q] at j;cases j;exact hx
 ·exact c.le_trans (eY h (by lia) j q) hx
theorem eC {l X Y:List Hf} {n:Nat} (e:l.take n=X++Y):l.take X.length=X:=by
 have h:X.length<=n:=by
  have:=congrArg LF e;simp only [Hz,A1] at this;lia
 have h2:(l.take n).take X.length=X:=by rw [e,List.take_left]
 rw [List.take_take,Ls h] at h2;exact h2
theorem MH.galA (c:Cm prog w A s kd P lt) {la lb out X Y:List Hf} {na nb:Nat} {y:Hf} (m:MH lt la lb out na nb) (e:la.take na=X++Y) (hn : 0 < nb) (j:lb[nb - 1]? = some y) (h:∀ x∈Y,lt x y=false):MH lt la lb (out++Y.reverse) X.length nb:=by
 have p2:=(D0.mp m.pb).1;have h1:Ord lt (X++(Y++out.reverse)):=by rw [<- Hl, <- e];exact m.pa
 have q:=lU h1 m.pb fun x hx=>hW c p2 hn j (h x hx);refine ⟨by rw [eC e];simpa using h1,by simpa using q, ?_⟩
 rw [eC e];refine JV.trans ?_ m.pm;rw [e];simp only [List.reverse_append,OY,Hl];refine Ir _ ?_;rw [<- Hl, <- Hl];exact IC _ KU
theorem MH.galB (c:Cm prog w A s kd P lt) {la lb out X Y:List Hf} {na nb:Nat} {y:Hf} (m:MH lt la lb out na nb) (e:lb.take nb=X++Y) (hn : 0 < na) (j:la[na - 1]? = some y) (h:∀ x∈Y,lt x y=false):MH lt la lb (out++Y.reverse) na X.length:=by
 have p2:=(D0.mp m.pa).1;have h1:Ord lt (X++(Y++out.reverse)):=by rw [<- Hl, <- e];exact m.pb
 have q:=lU h1 m.pa fun x hx=>hW c p2 hn j (h x hx);refine ⟨by simpa using q,by rw [eC e];simpa using h1, ?_⟩
 rw [eC e];refine JV.trans (KO ?_) m.pm;rw [e];simp
theorem cW {l:List Hf} {n:Nat} {x:Hf} (hn : 0 < n) (h:l[n - 1]? = some x):l.take n=l.take (n - 1)++[x]:=by
 obtain ⟨k,rfl⟩:∃ k,n=k+1:=⟨n - 1,by lia⟩
 rw [PZ] at h ⊢;rw [Qe,h];rfl
theorem qE {l:List Hf} {n:Nat} {x:Hf} (hn : 0 < n) (h:l[n - 1]? = some x):(l.take (n - 1)).length=n - 1:=by
 obtain ⟨hi,_⟩:=Hx.mp h;rw [Hz];lia
theorem MH.pushA (c:Cm prog w A s kd P lt) {la lb out:List Hf} {na nb:Nat} {x y:Hf} (m:MH lt la lb out na nb) (j : 0 < na) (hb : 0 < nb) (hx:la[na - 1]? = some x) (z:lb[nb - 1]? = some y) (h:lt x y=false):MH lt la lb (out++[x]) (na - 1) nb:=by
 have q:=m.galA c (cW j hx) hb z (by simpa using h)
 rw [qE j hx] at q;simpa using q
theorem MH.pushB (c:Cm prog w A s kd P lt) {la lb out:List Hf} {na nb:Nat} {x y:Hf} (m:MH lt la lb out na nb) (z : 0 < na) (hb : 0 < nb) (hx:la[na - 1]? = some x) (j:lb[nb - 1]? = some y) (h:lt y x=false):MH lt la lb (out++[y]) na (nb - 1):=by
 have q:=m.galB c (cW hb j) z hx (by simpa using h)
 rw [qE hb j] at q;simpa using q
theorem MH.fin {la lb out:List Hf} {na nb:Nat} (m:MH lt la lb out na nb) (h:na=0∨nb=0):Res lt la lb (la.take na++lb.take nb++out.reverse):=by
 refine ⟨m.pm, ?_⟩
 rcases h with rfl | rfl
 ·simpa using m.pb
 ·simpa using m.pa
theorem MH.finB {la lb out:List Hf} {na nb:Nat} (m:MH lt la lb out na nb) (h:∀ x∈lb.take nb, ∀ y∈la,lt y x=false):Res lt la lb (lb.take nb++la.take na++out.reverse):=by
 refine ⟨JV.trans (IC _ KU) m.pm, ?_⟩;obtain ⟨j,F,q⟩:=D0.mp m.pb;rw [Hl];refine D0.mpr ⟨j,m.pa,fun x hx y B => ?_⟩
 rcases Hy.mp B with z | z
 ·exact h x hx y (Kb z)
 ·exact q x hx y z
theorem MH.size {la lb out:List Hf} {na nb:Nat} (m:MH lt la lb out na nb) (j:na<=la.length) (hb:nb<=lb.length):out.length+na+nb=la.length+lb.length:=by
 have:=m.pm.length_eq;simp only [A1,Hz,N6] at this;lia
theorem eM {a:Array Hf}:a.toList.take a.size=a.toList:=KG (by simp)
theorem bm {a:Array Hf} {i:Nat}:(a.extract 0 i).toList=a.toList.take i:=by
 rw [JD];simp [Mc]
theorem xW {a:Array Hf} {n:Nat} {X Y:List Hf} (e:a.toList.take n=X++Y):(a.extract X.length n).toList=Y:=by
 rw [JD];simp only [Mc];rw [<- List.drop_take,e,List.drop_left]
theorem xX:∀ (m old L R:List Hf) (a:Array Hf),a.toList=L++old++R->m.length=old.length->(Mp (fun a x=>a.setIfInBounds (L.length+x.snd) x.fst) a m.zipIdx).toList=L++m++R:=by
 have g:∀ (m old L R:List Hf) (k:Nat) (a:Array Hf),a.toList=L++old++R->m.length=old.length -> ∀ b:Nat,b+k=L.length->(Mp (fun a x=>a.setIfInBounds (b+x.snd) x.fst) a (m.zipIdx k)).toList=L++m++R:=by
  intro m
  induction m with
  | nil =>
    intro old L R k a e h b hb;have:old=[]:=Ij.mp h.symm;subst this;simpa using e
  | cons x m ih =>
    intro old L R k a e h b hb
    cases old with
    | nil=>simp at h
    | cons y old =>
      rw [La,Lq];have e2:(a.setIfInBounds (b+k) x).toList=(L++[x])++old++R:=by
       rw [Ny,e,hb];simp
      have:=ih old (L++[x]) R (k+1) _ e2 (by simpa using h) b (by simp;lia)
      rw [this];simp
 exact fun m old L R a e h=>g m old L R 0 a e h L.length (by lia)
theorem af {σ α:Type} {M:MK} {p:Prop} [Decidable p] {j q:StateT σ Sem α} {st : σ} {Q : α -> σ -> Prop} (h1:p->wpS M A E s j Q st) (h2 : ¬p->wpS M A E s q Q st):wpS M A E s (if p then j else q) Q st:=by
 split
 ·next h=>exact h1 h
 ·next h=>exact h2 h
theorem ML.cut {a out:Array Hf} {la lb X Y:List Hf} {i j n:Nat} (m:ML lt la lb (out.toList++X) i j) (e:a.toList.drop n=X++Y):ML lt la lb (out++a.extract n (n+X.length)).toList i j:=by
 rw [Hn,AM e];exact m
theorem MH.cut {a out:Array Hf} {la lb X Y:List Hf} {i j n:Nat} (m:MH lt la lb (out.toList++Y.reverse) i j) (e:a.toList.take n=X++Y):MH lt la lb (out++(a.extract X.length n).reverse).toList i j:=by
 rw [Hn,Ia,xW e];exact m
theorem vd {σ α:Type} {M:MK} {m:StateT σ Sem α} {st : σ} {Q : α -> σ -> Prop} {P : σ -> Prop} (j:P st) (h:∀ st',P st'->wpS M A E s m Q st'):wpS M A E s m Q st:=h st j
theorem zk {σ α:Type} {M:MK} {m:StateT σ Sem α} {st : σ} {Q : α -> σ -> Prop} (h:∀ Q' : α -> σ -> Prop,(∀ a st',Q a st'->Q' a st')->wpS M A E s m Q' st):wpS M A E s m Q st:=h Q fun _ _ h=>h
theorem zm {key x:Hf} (h:bey lt false key x=true):lt key x=false:=by simpa [bey] using h
theorem ve {key x:Hf} (h:bey lt false key x=false):lt key x=true:=by simpa [bey] using h
theorem zn {key x:Hf} (h:bey lt true key x=true):lt x key=true:=by simpa [bey] using h
theorem vf {key x:Hf} (h:bey lt true key x=false):lt x key=false:=by simpa [bey] using h
theorem oz {l X Y:List Hf} {i:Nat} {x:Hf} (e:l.drop i=X++Y) (h:l[i+X.length]? = some x):x∈Y:=by
 rw [<- eA e,eB h];simp
theorem oA {l X Y:List Hf} {n:Nat} {x:Hf} (e:l.take n=X++Y) (h0 : 0 < X.length) (h:l[X.length - 1]? = some x):x∈X:=by
 have:=cW h0 h;rw [eC e] at this;rw [this];simp
theorem oB {a:Array Hf} {X Y:List Hf} {i:Nat} (e:a.toList.drop i=X++Y):X.length<=a.size - i:=by
 have:=congrArg LF e;simp at this;lia
theorem lV {a:Array Hf} {X Y:List Hf} {n:Nat} (e:a.toList.take n=X++Y) (h:n<=a.size):X.length+Y.length=n:=by
 have:=congrArg LF e;simp at this;lia
theorem fP {a:Array Hf} {n:Nat} (h:n<=a.size):n=(a.toList.take n).length:=by simp;lia
theorem ML.finR {a b out:Array Hf} {ia ib:Nat} (m:ML lt a.toList b.toList out.toList ia ib) (h:b.size<=ib):Res lt a.toList b.toList (out++a.extract ia++b.extract ib).toList:=by
 have:=m.fin (by simpa using h)
 simpa only [Hn,bM] using this
theorem ML.finS {a b out:Array Hf} {ia ib:Nat} (m:ML lt a.toList b.toList out.toList ia ib) (h:a.size<=ia):Res lt a.toList b.toList (out++a.extract ia++b.extract ib).toList:=by
 have:=m.finE (by simpa using h)
 simpa only [Hn,bM] using this
theorem ML.finL {a b out:Array Hf} {ia ib:Nat} (m:ML lt a.toList b.toList out.toList ia ib) (h:∀ x∈b.toList, ∀ y∈a.toList.drop ia,lt y x=false):Res lt a.toList b.toList (out++b.extract ib++a.extract ia).toList:=by
 have:=m.finA h;simpa only [Hn,bM] using this
theorem MH.finR {a b out:Array Hf} {na nb:Nat} (m:MH lt a.toList b.toList out.toList na nb) (h:∀ x∈b.toList.take nb, ∀ y∈a.toList,lt y x=false):Res lt a.toList b.toList (b.extract 0 nb++a.extract 0 na++out.reverse).toList:=by
 have:=m.finB h;simpa only [Hn,Ia,bm] using this
theorem MH.finL {a b out:Array Hf} {na nb:Nat} (m:MH lt a.toList b.toList out.toList na nb) (h:na=0∨nb=0):Res lt a.toList b.toList (a.extract 0 na++b.extract 0 nb++out.reverse).toList:=by
 have:=m.fin h;simpa only [Hn,Ia,bm] using this
theorem E6 (c:Cm prog w A s kd P lt) :
 ∃ (g:CP) (lo hi:CQ),(gX prog w A E s kd P lt g/\(gX prog w A E s kd P lt g->gY prog w A E s kd P lt lo)/\(gX prog w A E s kd P lt g->gY prog w A E s kd P lt hi))/\(gX prog w A E s kd P lt g->gY prog w A E s kd P lt lo->gY prog w A E s kd P lt hi ->
  ∀ (i sa na pa sb nb pb:Nat) (L r1 r2 R:List Hf) (st:Iv) (Q:Bool->Iv->Prop),IW st=kd->JM st=none->(Ht st)[i]? = some (sa,na,pa)->(Ht st)[i+1]? = some (sb,nb,pb) ->
   (Ib st).toList=L++(r1++r2)++R->sa=L.length->na=r1.length->sb=L.length+r1.length->nb=r2.length->r1≠[]->r2≠[]->(∀ x∈r1,P x)->(∀ x∈r2,P x)->Ord lt r1->Ord lt r2 ->
   (∀ m st',(Ib st').toList=L++m++R->m.Perm (r1++r2)->Ord lt m->IW st'=kd->JM st'=none->Ht st'=((Ht st).setIfInBounds i (sa,na+nb,pa)).eraseIdxIfInBounds (i+1)->Q true st') ->
   wpS (Hv prog w) A E s (Rb i) Q st):=by
 apply Qf;apply Qf;apply Qf;apply Mq
 rotate_left
 ·intro hg GO GP i sa na pa sb nb pb L r1 r2 R st Q hk hf h1 h2 Z Gg FG Gh FV GQ GR Gr Gs o1 o2 q;unfold Rb;refine D2 (Lr ?_);rw [h1,h2];dsimp only;refine D2 (AL ?_);obtain ⟨y0,t2,rfl⟩:∃ y t,r2=y::t:=by cases r2 with | nil=>exact absurd rfl GR | cons y t=>exact ⟨y,t,rfl⟩
  have hz:(Ib st)[sb]? = some y0:=by
   rw [<- HM,Z,Gh];simp
  refine D2 (aD hz ?_);refine D2 (hg false y0 (Ib st) L r1 (y0::t2++R) sa na 0 _ _ hk (Gs _ (by simp)) (by rw [Z];simp) Gg FG Gr (by rw [FG];exact Iy.mpr GQ) o1 fun X Y e hX hY => ?_)
  dsimp only;have lX:∀ x∈X,lt y0 x=false:=fun x hx=>by have:=hX x hx;simpa [bey] using this
  have lY:∀ x∈Y,lt x y0=false:=fun x hx=>c.asym _ _ (by have:=hY x hx;simpa [bey] using this)
  have hlen:na - X.length=Y.length:=by rw [FG,e];simp
  subst e;obtain ⟨oX,oY,oXY⟩:=D0.mp o1;have oy:=Nw.mp o2;have Gi:∀ x∈X, ∀ z∈y0::t2,lt z x=false:=fun x hx z hz=>by
   rcases Hg.mp hz with h | h
   ·rw [h];exact lX x hx
   ·exact c.le_trans (lX x hx) (oy.1 z h)
  refine af (fun h => ?_) (fun h => ?_)
  ·have Gj:Y=[]:=Ij.mp (by rw [<- hlen];simpa using h)
   subst Gj;refine aa (q (X++(y0::t2)) _ (by simpa using Z) (by simp) ?_ hk hf rfl)
   exact D0.mpr ⟨oX,o2,Gi⟩
  ·have Gj : 0 < Y.length:=by
    have:na - X.length≠0:=by simpa using h
    lia
   obtain ⟨Y0,xl,rfl⟩:∃ Y0 xl,Y=Y0++[xl]:=⟨Y.dropLast,Y.getLast (by intro z;rw [z] at Gj;simp at Gj),(JL _).symm⟩
   have GS:(Ib st)[sa+X.length+(na - X.length) - 1]? = some xl:=by
    rw [<- HM,Z,hlen,Gg];simp only [Hl,A1,HQ];rw [B1 (by lia),B1 (by lia),B1 (by lia)]
    rw [show L.length+X.length+(Y0.length+1) - 1 - L.length - X.length - Y0.length=0 by lia];rfl
   refine D2 (aD GS ?_);refine D2 (hg true xl (Ib st) (L++(X++(Y0++[xl]))) (y0::t2) R sb nb (nb - 1) _ _ hk (Gr _ (by simp)) (by rw [Z];simp) (by rw [Gh];simp) FV Gs (by rw [FV];simp) o2 fun X2 Y2 e2 FH FI => ?_)
   dsimp only;have GT:∀ x∈X2,lt xl x=false:=fun x hx=>c.asym _ _ (by have:=FH x hx;simpa [bey] using this)
   have GC:∀ x∈Y2,lt x xl=false:=fun x hx=>by have:=FI x hx;simpa [bey] using this
   have GU:Ord lt (X2++Y2):=by rw [<- e2];exact o2
   obtain ⟨GW,GX,GD⟩:=D0.mp GU;obtain ⟨Hc,_,oYl⟩:=D0.mp oY;have lYY:∀ x∈Y0++[xl], ∀ z∈Y2,lt z x=false:=fun x hx z hz=>by
    rcases Hy.mp hx with h | h
    ·exact c.le_trans (oYl x h xl (by simp)) (GC z hz)
    ·simp at h;subst h;exact GC z hz
   refine af (fun h => ?_) (fun h => ?_)
   ·have Fz:X2=[]:=Ij.mp (by simpa using h)
    subst Fz;have e2:y0::t2=Y2:=by simpa using e2
    refine aa (q (X++(Y0++[xl])++(y0::t2)) _ (by simpa using Z) (OZ _) ?_ hk hf rfl)
    refine D0.mpr ⟨o1,o2,fun x hx z hz => ?_⟩
    rcases Hy.mp hx with g | g
    ·exact Gi x g z hz
    ·exact lYY x g z (by rw [<- e2];exact hz)
   ·have Fz:X2≠[]:=fun z=>h (by rw [z];rfl)
    have hx:((Ib st).extract (sa+X.length) sb).toList=Y0++[xl]:=by
     rw [JD,Z,Gg,Gh];simp only [Mc];have e1:(L++(X++(Y0++[xl])++y0::t2)++R).drop (L.length+X.length)=(Y0++[xl])++(y0::t2++R):=by
      rw [<- Nx];simp
     rw [e1,show L.length+(X++(Y0++[xl])).length - (L.length+X.length)=(Y0++[xl]).length by simp only [A1];lia,List.take_left]
    have hy:((Ib st).extract sb (sb+X2.length)).toList=X2:=by
     rw [JD,Z,Gh];simp only [Mc];have e1:(L++(X++(Y0++[xl])++y0::t2)++R).drop (L.length+(X++(Y0++[xl])).length)=(y0::t2)++R:=by
      rw [<- Nx];simp
     rw [e1,e2];simp
    have G:∀ (r:Array Hf) (F1:Iv),r.toList.Perm ((Y0++[xl])++X2)->Ord lt r.toList->Same (PyProof.Rows.SortSt.mk' (IW st) (Ib st) (((Ht st).setIfInBounds i (sa,na+nb,pa)).eraseIdxIfInBounds (i+1)) (gallopOf st) (JM st)) F1 -> ∀ EX:Iv,Ib EX=Mp (fun a x=>a.setIfInBounds (sa+X.length+x.snd) x.fst) (Ib F1) r.toList.zipIdx->IW EX=IW F1->JM EX=JM F1->Ht EX=Ht F1->Q (JM EX).isNone EX:=by
     intro r F1 hp ho hs EX g1 g2 g3 g4;have GE:JM EX=none:=g3.trans (hs.fail.trans hf);rw [GE];refine q (X++r.toList++Y2) EX ?_ ?_ ?_ (g2.trans (hs.kind.trans hk)) GE (g4.trans hs.pend)
     ·rw [g1,hs.arr];have e3:(Ib st).toList=(L++X)++((Y0++[xl])++X2)++(Y2++R):=by
       rw [Z,e2];simp
      rw [show sa+X.length=(L++X).length by rw [Gg];simp]
      rw [xX _ _ _ _ _ e3 (hp.length_eq)];simp
     ·rw [e2];refine JV.trans (IC _ (Ir _ hp)) ?_;simp
     ·refine D0.mpr ⟨D0.mpr ⟨oX,ho,fun x hx z hz => ?_⟩,GX,fun x hx z hz => ?_⟩
      ·rcases Hy.mp (hp.mem_iff.mp hz) with g | g
       ·exact oXY x hx z g
       ·exact Gi x hx z (by rw [e2];exact IA _ g)
      ·rcases Hy.mp hx with g | g
       ·exact Gi x g z (by rw [e2];exact Hw _ hz)
       ·rcases Hy.mp (hp.mem_iff.mp g) with g | g
        ·exact lYY x g z hz
        ·exact GD x g z hz
    have Gp:∀ x y,((Ib st).extract (sa+X.length) sb)[0]? = some x->((Ib st).extract sb (sb+X2.length))[0]? = some y->lt x y=false:=by
     intro x y Fq FW;rw [<- HM,hx] at Fq;rw [<- HM,hy] at FW;have FX:=HN Fq;have:y=y0:=by
      cases X2 with
      | nil=>exact absurd rfl Fz
      | cons z t=>simp at e2 FW;rw [<- FW, <- e2.1]
     subst this;exact lY x FX
    have preL:∀ x y,((Ib st).extract (sa+X.length) sb)[((Ib st).extract (sa+X.length) sb).size - 1]? = some x->((Ib st).extract sb (sb+X2.length))[((Ib st).extract sb (sb+X2.length)).size - 1]? = some y->lt x y=false:=by
     intro x y Fq FW;rw [<- HM, <- HJ,hx] at Fq;rw [<- HM, <- HJ,hy] at FW;have Fs:=HN FW;have:x=xl:=by simp at Fq;exact Fq.symm
     subst this;exact GT y Fs
    have GF : 0 < ((Ib st).extract (sa+X.length) sb).size:=by rw [<- HJ,hx];simp
    have GG : 0 < ((Ib st).extract sb (sb+X2.length)).size:=by rw [<- HJ,hy];exact Iy.mpr Fz
    have GH:∀ x∈((Ib st).extract (sa+X.length) sb).toList,P x:=by rw [hx];exact fun x hx=>Gr x (Hw _ hx)
    have GI:∀ x∈((Ib st).extract sb (sb+X2.length)).toList,P x:=by rw [hy];exact fun x hx=>Gs x (by rw [e2];exact IA _ hx)
    have GJ:Ord lt ((Ib st).extract (sa+X.length) sb).toList:=by rw [hx];exact oY
    have GK:Ord lt ((Ib st).extract sb (sb+X2.length)).toList:=by rw [hy];exact GW
    refine af (fun h => ?_) (fun h => ?_)
    ·refine D2 (GO _ _ _ _ hk GH GI GF GG GJ GK Gp preL fun r F1 hp ho hs => ?_);rw [hx,hy] at hp;refine D2 (Ju ?_);refine D2 (Lr ?_);exact aa (G r F1 hp ho hs _ rfl rfl rfl rfl)
    ·refine D2 (GP _ _ _ _ hk GH GI GF GG GJ GK Gp preL fun r F1 hp ho hs => ?_);rw [hx,hy] at hp;refine D2 (Ju ?_);refine D2 (Lr ?_);exact aa (G r F1 hp ho hs _ rfl rfl rfl rfl)
 apply Mq
 ·intro left key arr L xs R base n hint st Q hk FA Z Gu hn hP hh hs q;subst Gu hn;have at_:∀ i,i < xs.length -> ∃ x,xs[i]? = some x/\arr[L.length+i]? = some x/\P x:=by
   intro i hi;refine ⟨xs[i],A2 hi, ?_,hP _ (Mv _)⟩;rw [<- HM,Z,Hl,B1 (by lia),Hq (by lia)]
   rw [show L.length+i - L.length=i by lia]
   exact A2 hi
  obtain ⟨x0,Fq,FY,GY⟩:=at_ hint hh;refine D2 (gv c hk FA GY FY ?_)
  try dsimp only
  refine af (fun hb => ?_) (fun hb => ?_)
  ·skip
   refine D2 (aE (Q:=fun r st'=>st'=st /\ ∃ la ofs,r=(none,la,ofs)/\hint+la < xs.length/\la < ofs/\(∀ j x,j < hint+la+1->xs[j]? = some x->bey lt left key x=true)/\(xs.length<=hint+ofs ∨ ∀ j x,hint+ofs<=j->xs[j]? = some x->bey lt left key x=false))
    (Iu (fun i r st'=>st'=st /\ ∃ la ofs,r=(none,la,ofs)/\hint+la < xs.length/\la < ofs/\i+1<=ofs/\(∀ j x,j < hint+la+1->xs[j]? = some x->bey lt left key x=true)) ?_ ?_ ⟨rfl,0,1,rfl,hh,by lia,by lia,gZ c hs Fq hb⟩) ?_)
   ·rintro i r st' _ hi ⟨rfl,la,ofs,rfl,h1,h2,h3,h4⟩
    try dsimp only
    refine af (fun FJ => ?_) (fun FJ => ?_)
    ·exact aa ⟨rfl,la,ofs,rfl,h1,h2,h4, .inl (by lia)⟩
    ·skip
     obtain ⟨x1,Fl,FK,FL⟩:=at_ (hint+ofs) (by lia)
     refine D2 (gv c hk FA FL FK ?_)
     try dsimp only
     refine af (fun hf => ?_) (fun hf => ?_)
     ·exact aa ⟨rfl,la,ofs,rfl,h1,h2,h4, .inr (hJ c hs Fl (by simpa using hf))⟩
     ·exact aa ⟨rfl,ofs,2*ofs+1,rfl,by lia,by lia,by lia,gZ c hs Fl (by simpa using hf)⟩
   ·rintro r st' ⟨rfl,la,ofs,rfl,h1,h2,h3,h4⟩;exact ⟨rfl,la,ofs,rfl,h1,h2,h4, .inl (by lia)⟩
   ·rintro r st' ⟨rfl,la,ofs,rfl,h1,h2,h3,h4⟩
    try dsimp only
    have hG:Gal lt left key xs (hint+la+1) (hint+min ofs (xs.length - hint)):=by
     refine ⟨by lia,by lia,h3,fun i x hi hx => ?_⟩
     have Hd:i < xs.length:=(Hx.mp hx).1
     rcases h4 with h4 | h4
     ·lia
     ·exact h4 i x (by lia) hx
    generalize hint+la+1=lo at hG;generalize hint+min ofs (xs.length - hint)=hi at hG;refine D2 (aE (Q:=fun r st''=>st''=st' /\ ∃ k,r=(none,k,k)/\Gal lt left key xs k k)
     (Iu (fun i r st''=>st''=st' /\ ∃ lo hi,r=(none,lo,hi)/\Gal lt left key xs lo hi/\hi - lo+i<=xs.length) ?_ ?_ ⟨rfl,lo,hi,rfl,hG,by have:=hG.len;lia⟩) ?_)
    ·rintro i r st'' _ hi ⟨rfl,lo,hi,rfl,hG,hm⟩
     try dsimp only
     have hl:=hG.le;have FZ:=hG.len;refine af (fun FJ => ?_) (fun FJ => ?_)
     ·exact aa ⟨rfl,hi,by rw [show lo=hi by lia],by rw [show lo=hi by lia] at hG;exact hG⟩
     ·skip
      obtain ⟨x1,Fl,FK,FL⟩:=at_ (lo+(hi - lo) / 2) (by lia)
      refine D2 (gv c hk FA FL FK ?_)
      try dsimp only
      refine af (fun hf => ?_) (fun hf => ?_)
      ·exact aa ⟨rfl,_,_,rfl,⟨by lia,FZ,gZ c hs Fl hf,hG.dn⟩,by lia⟩
      ·exact aa ⟨rfl,_,_,rfl,⟨by lia,by lia,hG.up,hJ c hs Fl (by simpa using hf)⟩,by lia⟩
    ·rintro r st'' ⟨rfl,lo,hi,rfl,hG,hm⟩;have hl:=hG.le;exact ⟨rfl,hi,by rw [show lo=hi by lia],by rw [show lo=hi by lia] at hG;exact hG⟩
    ·rintro r st'' ⟨rfl,k,rfl,hG⟩;obtain ⟨X,Y,e,hl,hX,hY⟩:=hG.out;subst hl;exact aa (q X Y e hX hY)
  ·skip
   refine D2 (aE (Q:=fun r st'=>st'=st /\ ∃ la ofs,r=(none,la,ofs)/\la<=hint/\la < ofs/\(∀ j x,hint - la<=j->xs[j]? = some x->bey lt left key x=false)/\(hint < ofs ∨ ∀ j x,j < hint - ofs+1->xs[j]? = some x->bey lt left key x=true))
    (Iu (fun i r st'=>st'=st /\ ∃ la ofs,r=(none,la,ofs)/\la<=hint/\la < ofs/\i+1<=ofs/\(∀ j x,hint - la<=j->xs[j]? = some x->bey lt left key x=false)) ?_ ?_ ⟨rfl,0,1,rfl,by lia,by lia,by lia,hJ c hs Fq (by simpa using hb)⟩) ?_)
   ·rintro i r st' _ hi ⟨rfl,la,ofs,rfl,h1,h2,h3,h4⟩
    try dsimp only
    refine af (fun FJ => ?_) (fun FJ => ?_)
    ·exact aa ⟨rfl,la,ofs,rfl,h1,h2,h4, .inl (by lia)⟩
    ·skip
     obtain ⟨x1,Fl,FK,FL⟩:=at_ (hint - ofs) (by lia)
     refine D2 (gv c hk FA FL FK ?_)
     try dsimp only
     refine af (fun hf => ?_) (fun hf => ?_)
     ·exact aa ⟨rfl,la,ofs,rfl,h1,h2,h4, .inr (gZ c hs Fl hf)⟩
     ·exact aa ⟨rfl,ofs,2*ofs+1,rfl,by lia,by lia,by lia,hJ c hs Fl (by simpa using hf)⟩
   ·rintro r st' ⟨rfl,la,ofs,rfl,h1,h2,h3,h4⟩;exact ⟨rfl,la,ofs,rfl,h1,h2,h4, .inl (by lia)⟩
   ·rintro r st' ⟨rfl,la,ofs,rfl,h1,h2,h3,h4⟩
    try dsimp only
    have hG:Gal lt left key xs (hint+1 - min ofs (hint+1)) (hint - la):=by
     refine ⟨by lia,by lia,fun i x hi hx => ?_,h3⟩
     rcases h4 with h4 | h4
     ·lia
     ·exact h4 i x (by lia) hx
    generalize hint+1 - min ofs (hint+1)=lo at hG;generalize hint - la=hi at hG;refine D2 (aE (Q:=fun r st''=>st''=st' /\ ∃ k,r=(none,k,k)/\Gal lt left key xs k k)
     (Iu (fun i r st''=>st''=st' /\ ∃ lo hi,r=(none,lo,hi)/\Gal lt left key xs lo hi/\hi - lo+i<=xs.length) ?_ ?_ ⟨rfl,lo,hi,rfl,hG,by have:=hG.len;lia⟩) ?_)
    ·rintro i r st'' _ hi ⟨rfl,lo,hi,rfl,hG,hm⟩
     try dsimp only
     have hl:=hG.le;have FZ:=hG.len;refine af (fun FJ => ?_) (fun FJ => ?_)
     ·exact aa ⟨rfl,hi,by rw [show lo=hi by lia],by rw [show lo=hi by lia] at hG;exact hG⟩
     ·skip
      obtain ⟨x1,Fl,FK,FL⟩:=at_ (lo+(hi - lo) / 2) (by lia)
      refine D2 (gv c hk FA FL FK ?_)
      try dsimp only
      refine af (fun hf => ?_) (fun hf => ?_)
      ·exact aa ⟨rfl,_,_,rfl,⟨by lia,FZ,gZ c hs Fl hf,hG.dn⟩,by lia⟩
      ·exact aa ⟨rfl,_,_,rfl,⟨by lia,by lia,hG.up,hJ c hs Fl (by simpa using hf)⟩,by lia⟩
    ·rintro r st'' ⟨rfl,lo,hi,rfl,hG,hm⟩;have hl:=hG.le;exact ⟨rfl,hi,by rw [show lo=hi by lia],by rw [show lo=hi by lia] at hG;exact hG⟩
    ·rintro r st'' ⟨rfl,k,rfl,hG⟩;obtain ⟨X,Y,e,hl,hX,hY⟩:=hG.out;subst hl;exact aa (q X Y e hX hY)
 apply Mq
 ·intro hg a b st Q hk FM FN Gk Gm sa sb G0 G1 q;refine D2 (cV ?_);obtain ⟨b0,Gn,G2,H0⟩:=aC Gm;obtain ⟨a0,FY,FT,H8⟩:=aC Gk;refine D2 (aD Gn ?_);have m0:ML lt a.toList b.toList [] 0 0:=⟨sa,sb,by simp⟩
  have m1:ML lt a.toList b.toList [b0] 0 1:=m0.pushB c FT G2 (G0 a0 b0 FY Gn);have Ft:∀ x∈b.toList, ∀ (i:Nat),i+1=a.size -> ∀ y∈a.toList.drop i,lt y x=false:=by
   intro x hx i hi y hy;obtain ⟨aL,Go,G3,_⟩:=aC (a:=a) (i:=i) (by lia)
   obtain ⟨bL,Gv,FU,_⟩:=aC (a:=b) (i:=b.size - 1) (by lia)
   have e:a.toList.drop i=[aL]:=by
    rw [eB G3,JQ (by simp;lia)];rfl
   rw [e] at hy;simp at hy;subst hy;have hl:=G1 y bL (by rw [show a.size - 1=i by lia];exact Go) Gv
   obtain ⟨j,hj,e⟩:=JC.mp hx;have FO:b.toList[j]? = some x:=by rw [<- e];exact A2 hj
   by_cases hjb:j=b.size - 1
   ·subst hjb;rw [FU] at FO;cases FO;exact hl
   ·have:=eY sb (show j < b.size - 1 by simp at hj;lia) FO FU
    exact c.le_trans this hl
  try dsimp -zeta -zetaHave -zetaUnused only
  refine af (fun h => ?_) (fun h => ?_)
  ·skip
   have h : 1=b.size:=by simpa using h
   refine aa ?_;have r:=m1.fin (by simp;lia)
   exact q _ _ (by simpa only [Hn,Hr,HR,bM] using r.1) (by simpa only [Hn,Hr,HR,bM] using r.2) Same.refl
  ·skip
   refine af (fun h2 => ?_) (fun h2 => ?_)
   ·skip
    have h2 : 0+1=a.size:=by simpa using h2
    refine aa ?_;have r:=m1.finA (Ft · · 0 h2);exact q _ _ (by simpa only [Hn,Hr,HR,bM] using r.1) (by simpa only [Hn,Hr,HR,bM] using r.2) Same.refl
   ·skip
    have h : 1≠b.size:=by simpa using h
    have h2 : 0+1≠a.size:=by simpa using h2
    refine D2 (Lr ?_)
    try dsimp -zeta -zetaHave -zetaUnused only
    refine D2 (aE (Q:=fun r st'=>Same st st' /\ ∃ res t,r=(some res,t)/\Res lt a.toList b.toList res.toList)
     (Iu (fun i r st'=>Same st st' /\ ∃ out ia ib mg,r=(none,out,ia,ib,mg)/\ML lt a.toList b.toList out.toList ia ib/\ia+1 < a.size/\ib < b.size/\i+1<=out.size) ?_ ?_ ⟨Same.refl,_,_,_,_,rfl,m1,by lia,by lia,by simp⟩) ?_)
    ·rintro i r Fm _ hi ⟨sm,out,ia,ib,mg,rfl,m,Gw,Gx,hsz⟩
     try dsimp -zeta -zetaHave -zetaUnused only
     refine D2 (aE (Q:=fun r st'=>st'=Fm/\((∃ B Fe Fi ac bc,r=(none,B,Fe,Fi,ac,bc)/\ML lt a.toList b.toList B.toList Fe Fi/\Fe+1 < a.size/\Fi < b.size/\i+2<=B.size) ∨ ∃ res t,r=(some res,t)/\Res lt a.toList b.toList res.toList))
      (Iu (fun j r st'=>st'=Fm /\ ∃ B Fe Fi ac bc,r=(none,B,Fe,Fi,ac,bc)/\ML lt a.toList b.toList B.toList Fe Fi/\Fe+1 < a.size/\Fi < b.size/\i+1+j<=B.size) ?_ ?_ ⟨rfl,_,_,_,_,_,rfl,m,Gw,Gx,by lia⟩) ?_)
     ·rintro j r F1 _ hj ⟨rfl,B,Fe,Fi,ac,bc,rfl,m2,h1,h2,h3⟩
      try dsimp only
      obtain ⟨y,hy,Fn,Fs⟩:=aC (a:=b) h2;obtain ⟨x,hx,G4,FX⟩:=aC (a:=a) (i:=Fe) (by lia)
      refine D2 (aD hy (D2 (aD hx (D2 (jE c (sm.kind.trans hk) (FN _ Fs) (FM _ FX) ?_)))))
      try dsimp only
      refine af (fun hl => ?_) (fun hl => ?_)
      ·skip
       refine D2 (aD hy ?_)
       try dsimp only
       have m3:=m2.pushB c G4 Fn (c.asym _ _ hl);refine af (fun h => ?_) (fun h => ?_)
       ·skip
        have h:Fi+1=b.size:=by simpa using h
        exact aa ⟨rfl, .inr ⟨_,_,rfl,by simpa only [Hn,Hr,HR,bM] using m3.fin (by simp;lia)⟩⟩
       ·skip
        have h:Fi+1≠b.size:=by simpa using h
        refine af (fun _ => ?_) (fun _ => ?_)
        ·exact aa ⟨rfl, .inl ⟨_,_,_,_,_,rfl,by simpa only [Hn,Hr] using m3,h1,by lia,by simp;lia⟩⟩
        ·exact aa ⟨rfl,_,_,_,_,_,rfl,by simpa only [Hn,Hr] using m3,h1,by lia,by simp;lia⟩
      ·skip
       refine D2 (aD hx ?_)
       try dsimp only
       have m3:=m2.pushA c G4 Fn (by simpa using hl)
       refine af (fun h => ?_) (fun h => ?_)
       ·skip
        have h:Fe+1+1=a.size:=by simpa using h
        exact aa ⟨rfl, .inr ⟨_,_,rfl,by simpa only [Hn,Hr,HR,bM] using m3.finA (Ft · · _ h)⟩⟩
       ·skip
        have h:Fe+1+1≠a.size:=by simpa using h
        refine af (fun _ => ?_) (fun _ => ?_)
        ·exact aa ⟨rfl, .inl ⟨_,_,_,_,_,rfl,by simpa only [Hn,Hr] using m3,by lia,h2,by simp;lia⟩⟩
        ·exact aa ⟨rfl,_,_,_,_,_,rfl,by simpa only [Hn,Hr] using m3,by lia,h2,by simp;lia⟩
     ·rintro r F1 ⟨rfl,B,Fe,Fi,ac,bc,rfl,m2,h1,h2,h3⟩;exact ⟨rfl, .inl ⟨_,_,_,_,_,rfl,m2,h1,h2,by lia⟩⟩
     ·rintro r F1 ⟨rfl,⟨B,Fe,Fi,ac,bc,rfl,m2,h1,h2,h3⟩ | ⟨res,t,rfl,J⟩⟩
      ·dsimp -zeta -zetaHave -zetaUnused only;refine D2 (cV ?_);refine D2 (aE (Q:=fun r st'=>Same st st'/\((∃ F F6 EY Ff ac bc,r=(none,F,F6,EY,Ff,ac,bc)/\ML lt a.toList b.toList F.toList F6 EY/\F6+1 < a.size/\EY < b.size/\i+2<=F.size) ∨ ∃ res t,r=(some res,t)/\Res lt a.toList b.toList res.toList))
        (Iu (fun j r st'=>Same st st' /\ ∃ F F6 EY Ff ac bc,r=(none,F,F6,EY,Ff,ac,bc)/\ML lt a.toList b.toList F.toList F6 EY/\F6+1 < a.size/\EY < b.size/\i+2<=F.size) ?_ ?_ ⟨sm,_,_,_,_,_,_,rfl,m2,h1,h2,h3⟩) ?_)
       ·rintro j r EX _ hj ⟨Fg,F,F6,EY,Ff,G5,G6,rfl,m3,h1,h2,h5⟩;obtain ⟨y,hy,Fn,Fs⟩:=aC (a:=b) h2;refine zk fun QQ hQ => ?_;have G:∀ (st':Iv) (res:Array Hf) t,Same st st'->Res lt a.toList b.toList res.toList->QQ (.done (some res,t)) st':=fun st' res t hs hr=>hQ _ _ ⟨hs, .inr ⟨_,_,rfl,hr⟩⟩;have Gy:∀ (st':Iv) (out:Array Hf) ia ib mg ac bc,Same st st'->ML lt a.toList b.toList out.toList ia ib->ia+1 < a.size->ib < b.size->i+2<=out.size->QQ (.done (none,out,ia,ib,mg,ac,bc)) st'/\QQ (.yield (none,out,ia,ib,mg,ac,bc)) st':=fun st' out ia ib mg ac bc hs p1 p2 p3 p4=>⟨hQ _ _ ⟨hs, .inl ⟨_,_,_,_,_,_,rfl,p1,p2,p3,p4⟩⟩,hQ _ _ ⟨hs,_,_,_,_,_,_,rfl,p1,p2,p3,p4⟩⟩;clear hQ hj
        extract_lets -underBinder s0 vout s1 via s2 vib s3 vmg s4 vac vbc jp vmx
        have G7:∀ mg,wpS (Hv prog w) A E s (jp () mg) QQ EX:=by
         intro mg;dsimp -zeta -zetaHave -zetaUnused only [jp,s0,vout,s1,via,s2,vib,s3,vmg,s4,vac,vbc];clear vmx jp vbc vac s4 vmg s3 vib s2 via s1 vout s0;refine D2 (Ju ?_);refine vd (P:=Same st) (Fg.trans ⟨rfl,rfl,rfl,rfl⟩) fun FP F7 => ?_;have G8:=F7.kind.trans hk;refine D2 (aD hy ?_);refine D2 (hg false y a (a.toList.take F6) (a.toList.drop F6) [] _ _ _ _ _ G8 (FN _ Fs) (by simp) (fP (by lia)) (by simp) (fun x hx=>FM x (Ka hx)) (by lia) ((D0.mp m3.pa).2.1) fun X Y e hX hY => ?_)
         dsimp -zeta -zetaHave -zetaUnused only;have m4:=m3.galA c e Fn fun x hx=>zm (hX x hx);have F8:∀ x4,a.toList[F6+X.length]? = some x4->lt x4 y=false:=fun x4 Fu=>c.asym _ _ (ve (hY x4 (oz e Fu)));have FQ:=oB e
         extract_lets -underBinder +onlyGivenNames vac Fv
         clear_value vac
         have FB:∀ (O:Array Hf) (Fo:Nat),ML lt a.toList b.toList O.toList Fo EY->(∀ x4,a.toList[Fo]? = some x4->lt x4 y=false)->Fo+1 < a.size->i+2<=O.size->wpS (Hv prog w) A E s (Fv () O Fo) QQ FP:=by
          intro O Fo Gz Fw H9 G9;dsimp -zeta -zetaHave -zetaUnused only [Fv];clear Fv FQ F8 m4 hX hY;obtain ⟨x4,Fu,Fc,Ga⟩:=aC (a:=a) (i:=Fo) (by lia)
          refine D2 (aD hy ?_);have m5:=Gz.pushB c Fc Fn (Fw x4 Fc);rw [<- Hr] at m5;have Fd:i+2<=(O.push y).size:=by rw [MZ];lia
          try dsimp -zeta -zetaHave -zetaUnused only
          extract_lets -underBinder +onlyGivenNames vo5 vi5
          dsimp -zeta -zetaHave -zetaUnused only [vo5];clear vo5;have e5:vi5=EY+1:=rfl
          clear_value vi5
          subst e5
          revert m5 Fd
          generalize O.push y=out5;intro m5 Fd;refine af (fun h => ?_) (fun h => ?_)
          ·exact aa (G _ _ _ F7 (m5.finR (by have h:=Kr h;lia)))
          ·have h:EY+1≠b.size:=by simpa using h
           refine D2 (aD Fu ?_);refine D2 (hg true x4 b (b.toList.take (EY+1)) (b.toList.drop (EY+1)) [] _ _ _ _ _ G8 (FM _ Ga) (by simp) (fP (by lia)) (by simp) (fun x hx=>FN x (Ka hx)) (by lia) ((D0.mp m5.pb).2.1) fun X2 Y2 e2 FH FI => ?_)
           dsimp -zeta -zetaHave -zetaUnused only;have m6:=m5.galB c e2 Fc fun x hx=>c.asym _ _ (zn (FH x hx));have F9:∀ y6,b.toList[EY+1+X2.length]? = some y6->lt y6 x4=false:=fun y6 Gb=>vf (FI y6 (oz e2 Gb));have FR:=oB e2
           extract_lets -underBinder +onlyGivenNames vbc Fx
           clear_value vbc
           have FC:∀ (EZ:Array Hf) (FS:Nat),ML lt a.toList b.toList EZ.toList Fo FS->(∀ y6,b.toList[FS]? = some y6->lt y6 x4=false)->FS < b.size->i+2<=EZ.size->wpS (Hv prog w) A E s (Fx () EZ FS) QQ FP:=by
            intro EZ FS GA Fy Gq GL;dsimp -zeta -zetaHave -zetaUnused only [Fx];clear Fx FR F9 m6 FH FI m5 Fd G9 h5 h1 h2 hsz Gx Gw h3;obtain ⟨y6,Gb,FE,GM⟩:=aC (a:=b) (i:=FS) Gq;refine D2 (aD Fu ?_);have m7:=GA.pushA c Fc FE (Fy y6 FE);rw [<- Hr] at m7;dsimp only;refine af (fun h => ?_) (fun h => ?_)
            ·exact aa (G _ _ _ F7 (m7.finL (Ft · · (Fo+1) (Kr h))))
            ·have h:Fo+1+1≠a.size:=by simpa using h
             have:=Gy FP (EZ.push x4) (Fo+1) FS mg vac vbc F7 m7 (by lia) Gq (by rw [MZ];lia)
             exact af (fun _=>aa this.1) (fun _=>aa this.2)
           clear_value Fx
           refine af (fun h0 => ?_) (fun h0 => ?_)
           ·dsimp only;have m6:=m6.cut (a:=b) e2;refine af (fun h => ?_) (fun h => ?_)
            ·exact aa (G _ _ _ F7 (m6.finR (by have h:=Kr h;lia)))
            ·have h:EY+1+X2.length≠b.size:=by simpa using h
             exact FC _ _ m6 F9 (by lia) (by rw [KZ];lia)
           ·have Fz:X2=[]:=Ij.mp (by lia)
            subst Fz;exact FC _ _ m5 F9 (by lia) Fd
         clear_value Fv
         refine af (fun h0 => ?_) (fun h0 => ?_)
         ·dsimp only;have m4:=m4.cut (a:=a) e;refine af (fun h => ?_) (fun h => ?_)
          ·exact aa (G _ _ _ F7 (m4.finL (Ft · · _ (Kr h))))
          ·have h:F6+X.length+1≠a.size:=by simpa using h
           refine af (fun h => ?_) (fun h9 => ?_)
           ·exact aa (G _ _ _ F7 (m4.finS (by have h:=Kr h;lia)))
           ·have h9:F6+X.length≠a.size:=by simpa using h9
            exact FB _ _ m4 F8 (by lia) (by rw [KZ];lia)
         ·have Fz:X=[]:=Ij.mp (by lia)
          subst Fz;exact FB _ _ m3 F8 h1 h5
        clear_value jp
        exact af (fun _=>G7 _) (fun _=>G7 _)
       ·rintro r EX ⟨Fg,F,F6,EY,Ff,G5,G6,rfl,m3,h1,h2,h5⟩;exact ⟨Fg, .inl ⟨_,_,_,_,_,_,rfl,m3,h1,h2,h5⟩⟩
       ·rintro r EX ⟨Fg,⟨F,F6,EY,Ff,G5,G6,rfl,m3,h1,h2,h5⟩ | ⟨res,t,rfl,J⟩⟩
        ·dsimp -zeta -zetaHave -zetaUnused only;refine D2 (Ju ?_);exact aa ⟨Fg.trans ⟨rfl,rfl,rfl,rfl⟩,_,_,_,_,rfl,m3,h1,h2,by lia⟩
        ·exact aa ⟨Fg,_,_,rfl,J⟩
      ·exact aa ⟨sm,_,_,rfl,J⟩
    ·rintro r Fm ⟨sm,out,ia,ib,mg,rfl,m,Gw,Gx,hsz⟩;have:=m.size (by simp;lia) (by simp;lia)
     simp at this;lia
    ·rintro r Fm ⟨sm,res,t,rfl,J⟩;exact aa (q res Fm J.1 J.2 sm)
 ·intro hg a b st Q hk FM FN Gk Gm sa sb G0 G1 q;refine D2 (cV ?_);obtain ⟨bL,Gv,FU,Ha⟩:=aC (a:=b) (i:=b.size - 1) (by lia)
  obtain ⟨aL,Go,G3,Hb⟩:=aC (a:=a) (i:=a.size - 1) (by lia)
  refine D2 (aD Go ?_);have m0:MH lt a.toList b.toList [] a.size b.size:=⟨by rw [eM];simpa using sa,by rw [eM];simpa using sb,by rw [eM,eM];simp⟩
  have m1:MH lt a.toList b.toList [aL] (a.size - 1) b.size:=m0.pushA c Gk Gm G3 FU (G1 aL bL Go Gv);have Fk:∀ x∈b.toList.take 1, ∀ y∈a.toList,lt y x=false:=by
   intro x hx y hy;obtain ⟨b0,Gn,G2,_⟩:=aC Gm;obtain ⟨a0,FY,FT,_⟩:=aC Gk;have ex:x=b0:=by
    rw [cW (by lia) G2] at hx
    simpa using hx
   subst ex;have h:=G0 a0 x FY Gn;obtain ⟨j,hj,e⟩:=JC.mp hy;have FO:a.toList[j]? = some y:=by rw [<- e];exact A2 hj
   by_cases hj0:j=0
   ·subst hj0;rw [FT] at FO;cases FO;exact h
   ·exact c.le_trans h (eY sa (by lia) FT FO)
  try dsimp -zeta -zetaHave -zetaUnused only
  refine af (fun h => ?_) (fun h => ?_)
  ·skip
   have h:a.size - 1=0:=by simpa using h
   refine aa ?_;have r:=m1.fin (.inl h);exact q _ _ (by simpa only [Hn,Hr,Ia,HR,bm] using r.1) (by simpa only [Hn,Hr,Ia,HR,bm] using r.2) Same.refl
  ·skip
   refine af (fun h2 => ?_) (fun h2 => ?_)
   ·skip
    have h2:b.size=1:=by simpa using h2
    refine aa ?_;have r:=m1.finB (by rw [h2];exact Fk)
    exact q _ _ (by simpa only [Hn,Hr,Ia,HR,bm] using r.1) (by simpa only [Hn,Hr,Ia,HR,bm] using r.2) Same.refl
   ·skip
    have h:a.size - 1≠0:=by simpa using h
    have h2:b.size≠1:=by simpa using h2
    refine D2 (Lr ?_)
    try dsimp -zeta -zetaHave -zetaUnused only
    refine D2 (aE (Q:=fun r st'=>Same st st' /\ ∃ res t,r=(some res,t)/\Res lt a.toList b.toList res.toList)
     (Iu (fun i r st'=>Same st st' /\ ∃ na nb out mg,r=(none,na,nb,out,mg)/\MH lt a.toList b.toList out.toList na nb/\0 < na/\1 < nb/\na < a.size/\nb<=b.size/\i+1<=out.size) ?_ ?_ ⟨Same.refl,_,_,_,_,rfl,m1,by lia,by lia,by lia,by lia,by simp⟩) ?_)
    ·rintro i r Fm _ hi ⟨sm,na,nb,out,mg,rfl,m,FG,FV,Gc,Gd,hsz⟩
     try dsimp -zeta -zetaHave -zetaUnused only
     refine D2 (aE (Q:=fun r st'=>st'=Fm/\((∃ Fa Fb B ac bc,r=(none,Fa,Fb,B,ac,bc)/\MH lt a.toList b.toList B.toList Fa Fb/\0 < Fa/\1 < Fb/\Fa < a.size/\Fb<=b.size/\i+2<=B.size) ∨ ∃ res t,r=(some res,t)/\Res lt a.toList b.toList res.toList))
      (Iu (fun j r st'=>st'=Fm /\ ∃ Fa Fb B ac bc,r=(none,Fa,Fb,B,ac,bc)/\MH lt a.toList b.toList B.toList Fa Fb/\0 < Fa/\1 < Fb/\Fa < a.size/\Fb<=b.size/\i+1+j<=B.size) ?_ ?_ ⟨rfl,_,_,_,_,_,rfl,m,FG,FV,Gc,Gd,by lia⟩) ?_)
     ·rintro j r F1 _ hj ⟨rfl,Fa,Fb,B,ac,bc,rfl,m2,h1,h2,Fh,Fj,h3⟩
      try dsimp only
      obtain ⟨y,hy,Fn,Fs⟩:=aC (a:=b) (i:=Fb - 1) (by lia)
      obtain ⟨x,hx,G4,FX⟩:=aC (a:=a) (i:=Fa - 1) (by lia)
      refine D2 (aD hy (D2 (aD hx (D2 (jE c (sm.kind.trans hk) (FN _ Fs) (FM _ FX) ?_)))))
      try dsimp only
      refine af (fun hl => ?_) (fun hl => ?_)
      ·skip
       refine D2 (aD hx ?_)
       try dsimp only
       have m3:=m2.pushA c h1 (by lia) G4 Fn (c.asym _ _ hl)
       refine af (fun h => ?_) (fun h => ?_)
       ·skip
        have h:Fa - 1=0:=by simpa using h
        exact aa ⟨rfl, .inr ⟨_,_,rfl,by have r:=m3.fin (.inl h);simpa only [Hn,Hr,Ia,HR,bm] using r⟩⟩
       ·skip
        have h:Fa - 1≠0:=by simpa using h
        refine af (fun _ => ?_) (fun _ => ?_)
        ·exact aa ⟨rfl, .inl ⟨_,_,_,_,_,rfl,by simpa only [Hn,Hr,Ia,HR,bm] using m3,by lia,h2,by lia,Fj,by simp;lia⟩⟩
        ·exact aa ⟨rfl,_,_,_,_,_,rfl,by simpa only [Hn,Hr,Ia,HR,bm] using m3,by lia,h2,by lia,Fj,by simp;lia⟩
      ·skip
       refine D2 (aD hy ?_)
       try dsimp only
       have m3:=m2.pushB c h1 (by lia) G4 Fn (by simpa using hl)
       refine af (fun h => ?_) (fun h => ?_)
       ·skip
        have h:Fb - 1=1:=by simpa using h
        exact aa ⟨rfl, .inr ⟨_,_,rfl,by have r:=m3.finB (by rw [h];exact Fk);simpa only [Hn,Hr,Ia,HR,bm] using r⟩⟩
       ·skip
        have h:Fb - 1≠1:=by simpa using h
        refine af (fun _ => ?_) (fun _ => ?_)
        ·exact aa ⟨rfl, .inl ⟨_,_,_,_,_,rfl,by simpa only [Hn,Hr,Ia,HR,bm] using m3,h1,by lia,Fh,by lia,by simp;lia⟩⟩
        ·exact aa ⟨rfl,_,_,_,_,_,rfl,by simpa only [Hn,Hr,Ia,HR,bm] using m3,h1,by lia,Fh,by lia,by simp;lia⟩
     ·rintro r F1 ⟨rfl,Fa,Fb,B,ac,bc,rfl,m2,h1,h2,Fh,Fj,h3⟩;exact ⟨rfl, .inl ⟨_,_,_,_,_,rfl,m2,h1,h2,Fh,Fj,by lia⟩⟩
     ·rintro r F1 ⟨rfl,⟨Fa,Fb,B,ac,bc,rfl,m2,h1,h2,Fh,Fj,h3⟩ | ⟨res,t,rfl,J⟩⟩
      ·try dsimp -zeta -zetaHave -zetaUnused only
       refine D2 (cV ?_);refine D2 (aE (Q:=fun r st'=>Same st st'/\((∃ F5 U F Ff ac bc,r=(none,F5,U,F,Ff,ac,bc)/\MH lt a.toList b.toList F.toList F5 U/\0 < F5/\1 < U/\F5 < a.size/\U<=b.size/\i+2<=F.size) ∨ ∃ res t,r=(some res,t)/\Res lt a.toList b.toList res.toList))
        (Iu (fun j r st'=>Same st st' /\ ∃ F5 U F Ff ac bc,r=(none,F5,U,F,Ff,ac,bc)/\MH lt a.toList b.toList F.toList F5 U/\0 < F5/\1 < U/\F5 < a.size/\U<=b.size/\i+2<=F.size) ?_ ?_ ⟨sm,_,_,_,_,_,_,rfl,m2,h1,h2,Fh,Fj,h3⟩) ?_)
       ·rintro j r EX _ hj ⟨Fg,F5,U,F,Ff,G5,G6,rfl,m3,h1,h2,Fh,Fj,h5⟩;obtain ⟨y,hy,Fn,Fs⟩:=aC (a:=b) (i:=U - 1) (by lia)
        refine zk fun QQ hQ => ?_;have G:∀ (st':Iv) (res:Array Hf) t,Same st st'->Res lt a.toList b.toList res.toList->QQ (.done (some res,t)) st':=fun st' res t hs hr=>hQ _ _ ⟨hs, .inr ⟨_,_,rfl,hr⟩⟩;have Gy:∀ (st':Iv) (out:Array Hf) na nb mg ac bc,Same st st'->MH lt a.toList b.toList out.toList na nb->0 < na->1 < nb->na < a.size->nb<=b.size->i+2<=out.size->QQ (.done (none,na,nb,out,mg,ac,bc)) st'/\QQ (.yield (none,na,nb,out,mg,ac,bc)) st':=fun st' out ia ib mg ac bc hs p1 p2 p3 p4 p5 p6=>⟨hQ _ _ ⟨hs, .inl ⟨_,_,_,_,_,_,rfl,p1,p2,p3,p4,p5,p6⟩⟩,hQ _ _ ⟨hs,_,_,_,_,_,_,rfl,p1,p2,p3,p4,p5,p6⟩⟩;clear hQ hj
        extract_lets -underBinder s0 vna s1 vnb s2 vout s3 vmg s4 vac vbc jp vmx
        have G7:∀ mg,wpS (Hv prog w) A E s (jp () mg) QQ EX:=by
         intro mg;dsimp -zeta -zetaHave -zetaUnused only [jp,s0,vna,s1,vnb,s2,vout,s3,vmg,s4,vac,vbc];clear vmx jp vbc vac s4 vmg s3 vout s2 vnb s1 vna s0;refine D2 (Ju ?_);refine vd (P:=Same st) (Fg.trans ⟨rfl,rfl,rfl,rfl⟩) fun FP F7 => ?_;have G8:=F7.kind.trans hk;refine D2 (aD hy ?_);refine D2 (hg false y a [] (a.toList.take F5) (a.toList.drop F5) _ _ _ _ _ G8 (FN _ Fs) (by simp) rfl (fP (by lia)) (fun x hx=>FM x (Kb hx)) (by lia) ((D0.mp m3.pa).1) fun X Y e hX hY => ?_)
         dsimp -zeta -zetaHave -zetaUnused only;have m4:=m3.galA c e (by lia) Fn fun x hx=>c.asym _ _ (ve (hY x hx))
         have F8 : 0 < X.length -> ∀ x4,a.toList[X.length - 1]? = some x4->lt y x4=false:=fun h0 x4 Fu=>zm (hX x4 (oA e h0 Fu));have FQ:=lV e (by lia)
         extract_lets -underBinder +onlyGivenNames vk vac Fv
         clear_value vac
         have FB:∀ (Fp:Nat) (O:Array Hf),MH lt a.toList b.toList O.toList Fp U->(∀ x4,a.toList[Fp - 1]? = some x4->lt y x4=false)->0 < Fp->Fp < a.size->i+2<=O.size->wpS (Hv prog w) A E s (Fv () Fp O) QQ FP:=by
          intro Fp O Gz Fw Gf GZ G9;dsimp -zeta -zetaHave -zetaUnused only [Fv];clear Fv vk FQ F8 m4 hX hY;obtain ⟨x4,Fu,Fc,Ga⟩:=aC (a:=a) (i:=Fp - 1) (by lia)
          refine D2 (aD hy ?_);have m5:=Gz.pushB c Gf (by lia) Fc Fn (Fw x4 Fc)
          rw [<- Hr] at m5;have Fd:i+2<=(O.push y).size:=by rw [MZ];lia
          try dsimp -zeta -zetaHave -zetaUnused only
          extract_lets -underBinder +onlyGivenNames vo5
          dsimp -zeta -zetaHave -zetaUnused only [vo5];clear vo5
          revert m5 Fd
          generalize O.push y=out5;intro m5 Fd;refine af (fun h => ?_) (fun h => ?_)
          ·exact aa (G _ _ _ F7 (m5.finR (by rw [Kr h];exact Fk)))
          ·have h:U - 1≠1:=by simpa using h
           refine D2 (aD Fu ?_);refine D2 (hg true x4 b [] (b.toList.take (U - 1)) (b.toList.drop (U - 1)) _ _ _ _ _ G8 (FM _ Ga) (by simp) rfl (fP (by lia)) (fun x hx=>FN x (Kb hx)) (by lia) ((D0.mp m5.pb).1) fun X2 Y2 e2 FH FI => ?_)
           dsimp -zeta -zetaHave -zetaUnused only;have m6:=m5.galB c e2 Gf Fc fun x hx=>vf (FI x hx);have F9 : 0 < X2.length -> ∀ y6,b.toList[X2.length - 1]? = some y6->lt x4 y6=false:=fun h0 y6 Gb=>c.asym _ _ (zn (FH y6 (oA e2 h0 Gb)));have FR:=lV e2 (by lia)
           extract_lets -underBinder +onlyGivenNames vk vbc Fx
           clear_value vbc
           have FC:∀ (FF:Nat) (EZ:Array Hf),MH lt a.toList b.toList EZ.toList Fp FF->(∀ y6,b.toList[FF - 1]? = some y6->lt x4 y6=false)->1 < FF->FF<=b.size->i+2<=EZ.size->wpS (Hv prog w) A E s (Fx () FF EZ) QQ FP:=by
            intro FF EZ GA Fy GN GB GL;dsimp -zeta -zetaHave -zetaUnused only [Fx];clear Fx vk FR F9 m6 FH FI m5 Fd G9 h5 h1 h2 Fh Fj hsz FG FV Gc Gd h3;obtain ⟨y6,Gb,FE,GM⟩:=aC (a:=b) (i:=FF - 1) (by lia)
            refine D2 (aD Fu ?_);have m7:=GA.pushA c Gf (by lia) Fc FE (Fy y6 FE)
            rw [<- Hr] at m7;dsimp only;refine af (fun h => ?_) (fun h => ?_)
            ·exact aa (G _ _ _ F7 (m7.finL (.inl (Kr h))))
            ·have h:Fp - 1≠0:=by simpa using h
             have:=fun mg ac bc=>Gy FP (EZ.push x4) (Fp - 1) FF mg ac bc F7 m7 (by lia) GN (by lia) GB (by rw [MZ];lia)
             exact af (fun _=>aa (this _ _ _).1) (fun _=>aa (this _ _ _).2)
           clear_value Fx
           refine af (fun h0 => ?_) (fun h0 => ?_)
           ·dsimp only;have m6:=m6.cut (a:=b) e2;refine af (fun h => ?_) (fun h => ?_)
            ·exact aa (G _ _ _ F7 (m6.finR (by rw [Kr h];exact Fk)))
            ·have h:X2.length≠1:=by simpa using h
             refine af (fun h9 => ?_) (fun h9 => ?_)
             ·exact aa (G _ _ _ F7 (m6.finL (.inr (Kr h9))))
             ·have h9:X2.length≠0:=by simpa using h9
              exact FC _ _ m6 (F9 (by lia)) (by lia) (by lia) (by rw [KZ];lia)
           ·have h0 : ¬ (U - 1 - X2.length > 0):=h0;have hl:X2.length=U - 1:=by lia
            have FZ : 0 < X2.length:=by lia
            have hr:=F9 FZ;rw [hl] at hr;exact FC _ _ m5 hr (by lia) (by lia) Fd
         clear_value Fv
         refine af (fun h0 => ?_) (fun h0 => ?_)
         ·dsimp only;have m4:=m4.cut (a:=a) e;refine af (fun h => ?_) (fun h => ?_)
          ·exact aa (G _ _ _ F7 (m4.finL (.inl (Kr h))))
          ·have h:X.length≠0:=by simpa using h
           exact FB _ _ m4 (F8 (by lia)) (by lia) (by lia) (by rw [KZ];lia)
         ·have h0 : ¬ (F5 - X.length > 0):=h0;have hl:X.length=F5:=by lia
          have hr:=F8 (by lia)
          rw [hl] at hr;exact FB _ _ m3 hr h1 Fh h5
        clear_value jp
        exact af (fun _=>G7 _) (fun _=>G7 _)
       ·rintro r EX ⟨Fg,F5,U,F,Ff,G5,G6,rfl,m3,h1,h2,Fh,Fj,h5⟩;exact ⟨Fg, .inl ⟨_,_,_,_,_,_,rfl,m3,h1,h2,Fh,Fj,h5⟩⟩
       ·rintro r EX ⟨Fg,⟨F5,U,F,Ff,G5,G6,rfl,m3,h1,h2,Fh,Fj,h5⟩ | ⟨res,t,rfl,J⟩⟩
        ·try dsimp -zeta -zetaHave -zetaUnused only
         refine D2 (Ju ?_);exact aa ⟨Fg.trans ⟨rfl,rfl,rfl,rfl⟩,_,_,_,_,rfl,m3,h1,h2,Fh,Fj,by lia⟩
        ·exact aa ⟨Fg,_,_,rfl,J⟩
      ·exact aa ⟨sm,_,_,rfl,J⟩
    ·rintro r Fm ⟨sm,na,nb,out,mg,rfl,m,FG,FV,Gc,Gd,hsz⟩;have:=m.size (by simp;lia) (by simp;lia)
     simp at this;lia
    ·rintro r Fm ⟨sm,res,t,rfl,J⟩;exact aa (q res Fm J.1 J.2 sm)
end
end Srt
end L2
namespace L2
namespace Srt
open PySem PySem.Spec PyProof.Rows
section
variable {prog:HI} {w:Ic} {A:Ik} {E:h6->z4->Prop} {s:z4} {kd:Ln} {P:Hf->Prop} {lt:Hf->Hf->Bool}
structure Kp (st st':Iv):Prop where
 kind:IW st'=IW st
 pend:Ht st'=Ht st
 fail:JM st'=JM st
theorem Kp.refl {st:Iv}:Kp st st:=⟨rfl,rfl,rfl⟩
theorem Kp.trans {a b c:Iv} (h:Kp a b) (g:Kp b c):Kp a c:=⟨g.kind.trans h.kind,g.pend.trans h.pend,g.fail.trans h.fail⟩
theorem qc {a:Array Hf} {L B R:List Hf} (e:a.toList=L++(B++R)) {i j:Nat} (hi:i=L.length) (q:j=L.length+B.length):(mirror a i j ((j - i) / 2)).toList=L++(B.reverse++R):=by
 have hs:a.size=L.length+(B.length+R.length):=by rw [<- HJ,e];simp
 apply Kc;intro k;rw [HM,getElem?_mirror_all (by lia)]
 have g:∀ n:Nat,a[n]? = (L++(B++R))[n]? := fun n=>by rw [<- HM,e]
 rw [g,g]
 by_cases h1:k < L.length
 ·rw [if_neg (by lia),Hq h1,Hq h1]
 ·by_cases h2:k < j
  ·rw [if_pos (by lia),B1 (by lia),Hq (by lia),B1 (by lia),Hq (by simp;lia),List.getElem?_reverse (by lia)]
   congr 1;lia
  ·rw [if_neg (by lia),B1 (by lia),B1 (by lia),B1 (by lia),B1 (by simp;lia)]
   simp
theorem qd {a:Array Hf} {L j q R:List Hf} {x:Hf} (e:a.toList=L++((j++q)++x::R)) {src d:Nat} (hi:src=L.length+(j.length+q.length)) (hd:d=q.length):(bubble a src d).toList=L++((j++x::q)++R):=by
 have hs:a.size=L.length+(j.length+q.length+(R.length+1)):=by rw [<- HJ,e];simp;lia
 apply Kc;intro k;rw [HM,getElem?_bubble (by lia) d (by lia)]
 have g:∀ n:Nat,a[n]? = (L++((j++q)++x::R))[n]? := fun n=>by rw [<- HM,e]
 rw [g,g,g]
 by_cases h1:k < L.length
 ·rw [if_neg (by lia),if_neg (by lia),Hq h1,Hq h1]
 ·by_cases h2:k < L.length+j.length
  ·rw [if_neg (by lia),if_neg (by lia),B1 (by lia),Hq (by simp;lia),Hq (by lia),B1 (by lia),Hq (by simp;lia),Hq (by lia)]
  ·by_cases h3:k=L.length+j.length
   ·rw [if_pos (by lia),B1 (by lia),B1 (by simp;lia),B1 (by lia),Hq (by simp;lia),B1 (by lia)]
    have e1:src - L.length - (j++q).length=0:=by simp;lia
    have e2:k - L.length - j.length=0:=by lia
    rw [e1,e2];rfl
   ·by_cases h4:k<=src
    ·rw [if_neg (by lia),if_pos (by lia),B1 (by lia),Hq (by simp;lia),B1 (by lia),B1 (by lia),Hq (by simp;lia),B1 (by lia)]
     have e2:k - L.length - j.length=(k - 1 - L.length - j.length)+1:=by lia
     rw [e2,Ks]
    ·rw [if_neg (by lia),if_neg (by lia),B1 (by lia),B1 (by simp;lia),B1 (by lia),B1 (by simp;lia)]
     have e2:k - L.length - (j++q).length=(k - L.length - (j++x::q).length)+1:=by simp;lia
     rw [e2,Ks]
theorem dQ (c:Cm prog w A s kd P lt) {i j:Nat} {x y:Hf} {st:Iv} {Q:Option Bool->Iv->Prop} (z:IW st=kd) (hx:(Ib st)[i]? = some x) (B:(Ib st)[j]? = some y) (px:P x) (py:P y) (q:Q (some (lt x y)) st):wpS (Hv prog w) A E s (ltAt' i j) Q st:=by
 rw [ltAt'_eq];exact D2 (Lr (D2 (aD hx (D2 (aD B (jE c z px py q))))))
theorem jF {i j:Nat} {st:Iv} {Q:Unit->Iv->Prop} {L B R:List Hf} (e:(Ib st).toList=L++(B++R)) (hi:i=L.length) (z:j=L.length+B.length) (q:∀ st',(Ib st').toList=L++(B.reverse++R)->Kp st st'->Q () st'):wpS (Hv prog w) A E s (reverseSlice' i j) Q st:=by
 rw [reverseSlice'_eq];exact Ju (q _ (qc e hi z) ⟨rfl,rfl,rfl⟩)
theorem cn {st:Iv} {L xs:List Hf} (e:(Ib st).toList=L++xs) {i n:Nat} (hi:i=L.length+n):(Ib st)[i]? = xs[n]? := by
 rw [<- HM,e,hi,B1 (by lia)]
 congr 1;lia
theorem oC (c:Cm prog w A s kd P lt) {xs:List Hf} {n:Nat} {x y:Hf} (h:Ord lt (xs.take n)) (hn : 0 < n) (hx:xs[n]? = some x) (q:xs[n - 1]? = some y) (B:lt x y=false):Ord lt (xs.take (n+1)):=by
 rw [Qe,hx];refine D0.mpr ⟨h,by simp,fun z F u j => ?_⟩
 simp at j;subst j;exact hW c h hn q B z F
noncomputable abbrev dl (lt:Hf->Hf->Bool) (l:List Hf):Prop:=l.Pairwise fun x y=>lt x y=false
theorem iL (c:Cm prog w A s kd P lt) {D:List Hf} {e x:Hf} (h:dl lt (D++[e])) (hx:lt e x=false):dl lt (D++[e]++[x]):=by
 refine D0.mpr ⟨h,by simp,fun z B u j => ?_⟩
 simp at j;subst j;obtain ⟨_,_,F⟩:=D0.mp h
 rcases Hy.mp B with g | g
 ·cases q:lt z u with
  | false=>rfl
  | true=>rcases c.neg z e u q with r | r
          ·rw [F z g e (by simp)] at r;cases r
          ·rw [hx] at r;cases r
 ·simp at g;subst g;exact hx
theorem qF {q F:List Hf} (h:dl lt (q++F)) (he:∀ x∈F, ∀ y∈F,lt x y=false):dl lt (q++F.reverse):=by
 obtain ⟨h1,h2,z⟩:=D0.mp h;refine D0.mpr ⟨h1, ?_,fun x hx y j=>z x hx y (Ld.mp j)⟩;rw [OL];exact h2.imp_of_mem fun hx j _=>he _ j _ hx
theorem perm_take {xs:List Hf} {n:Nat}:(xs.take n++xs.drop n).Perm xs:=by rw [IY]
theorem qe (c:Cm prog w A s kd P lt) {L xs:List Hf} {st:Iv} {Q:Option Nat->Iv->Prop} (hk:IW st=kd) (O:(Ib st).toList=L++xs) (h0:xs≠[]) (hP:∀ x∈xs,P x)
 (q:∀ r R st',(Ib st').toList=L++(r++R)->(r++R).Perm xs->r≠[]->Ord lt r->Kp st st'->Q (some r.length) st'):wpS (Hv prog w) A E s (countRun' L.length xs.length) Q st:=by
 have Fo : 0 < xs.length:=Iy.mpr h0;rw [countRun'_eq]
 try dsimp -zeta -zetaHave -zetaUnused only
 refine D2 (aE (Q:=fun r st'=>st'=st /\ ∃ n,r=(none,n)/\1<=n/\n<=xs.length/\Ord lt (xs.take n)/\(n=xs.length ∨ ∃ x y,xs[n]? = some x/\xs[n - 1]? = some y/\lt x y=true))
  (Iu (fun i r st'=>st'=st/\r=(none,i)/\Ord lt (xs.take i)) ?_ ?_ ⟨rfl,rfl,by
    cases xs with
    | nil=>exact absurd rfl h0
    | cons x t=>simp⟩) ?_)
 ·rintro i r st' h1 hi ⟨rfl,rfl,ho⟩;dsimp only;obtain ⟨x,hx⟩:∃ x,xs[i]? = some x:=⟨_,A2 hi⟩;obtain ⟨y,hy⟩:∃ y,xs[i - 1]? = some y:=⟨_,A2 (by lia)⟩
  refine D2 (dQ c hk ((cn O rfl).trans hx) ((cn O (by lia)).trans hy) (hP _ (HN hx)) (hP _ (HN hy)) ?_)
  dsimp only;refine af (fun h => ?_) (fun h => ?_)
  ·exact aa ⟨rfl,i,rfl,h1,by lia,ho, .inr ⟨x,y,hx,hy,h⟩⟩
  ·exact aa ⟨rfl,rfl,oC c ho (by lia) hx hy (by simpa using h)⟩
 ·rintro r st' ⟨rfl,rfl,ho⟩;exact ⟨rfl,_,rfl,by lia,by lia,ho, .inl (by lia)⟩
 ·rintro r st' ⟨rfl,n,rfl,FN,Fp,ho,hc⟩;dsimp -zeta -zetaHave -zetaUnused only;have Fc:Q (some n) st':=by
   have:=q (xs.take n) (xs.drop n) st' (by rw [O,IY]) perm_take (fun z=>by
    have h3:=congrArg LF z;rw [Hz,Jo] at h3;lia) ho Kp.refl
   rw [Hz,Ls Fp] at this;exact this
  extract_lets -underBinder +onlyGivenNames vr vn
  dsimp -zeta -zetaHave -zetaUnused only [vr];clear vr;have en:n=vn:=rfl
  clear_value vn
  subst en;refine af (fun h=>aa Fc) (fun h => ?_);have FB:n≠xs.length:=by simpa using h
  obtain ⟨x,y,hx,hy,FC⟩:=hc.resolve_left FB;have FO:n < xs.length:=by lia
  have exs:xs=xs.take n++x::xs.drop (n+1):=by
   have h1:=(IY n xs).symm;rw [eB hx] at h1;exact h1
  have Fq:y∈xs.take n:=by rw [cW (by lia) hy];simp
  extract_lets -underBinder +onlyGivenNames jp
  have Fs:∀ (B:List Hf) (EY:Iv),(Ib EY).toList=L++(B++x::xs.drop (n+1))->B.Perm (xs.take n)->B.length=n->(∀ u∈B, ∀ v∈B,lt u v=false)->y∈B->Kp st' EY->wpS (Hv prog w) A E s (jp ()) Q EY:=by
   intro B EY e1 hB EZ F1 F5 F6;dsimp -zeta -zetaHave -zetaUnused only [jp];clear jp;refine D2 (cV ?_)
   try dsimp -zeta -zetaHave -zetaUnused only
   extract_lets -underBinder +onlyGivenNames vn1 vq1
   have FE:vn1=n+1:=rfl;have eq1:vq1=0:=rfl
   clear_value vn1 vq1
   subst FE eq1;refine D2 (aE (Q:=fun r U => ∃ G F R neq,Kp st' U/\(Ib U).toList=L++((G++F)++R)/\((G++F)++R).Perm xs/\r=(none,(G++F).length,neq)/\F.length=neq+1/\dl lt (G++F)/\(∀ u∈F, ∀ v∈F,lt u v=false))
    (Iu (fun i r U => ∃ G F R neq,Kp st' U/\(Ib U).toList=L++((G++F)++R)/\((G++F)++R).Perm xs/\r=(none,(G++F).length,neq)/\F.length=neq+1/\dl lt (G++F)/\(∀ u∈F, ∀ v∈F,lt u v=false)/\(G++F).length=i) ?_ ?_ ?_) ?_)
   ·rintro i r U FP hi ⟨G,F,R,neq,kp,ea,hp,rfl,hF,hN,hE,Ft⟩;subst Ft;have hlen:=hp.length_eq;rw [A1] at hlen;obtain ⟨z,R',rfl⟩:∃ z R',R=z::R':=by
     cases R with
     | nil=>simp at hlen;simp at hi;lia
     | cons z R'=>exact ⟨z,R',rfl⟩
    have FF:F≠[]:=fun z=>by rw [z] at hF;simp at hF
    obtain ⟨F0,e,rfl⟩:∃ F0 e,F=F0++[e]:=⟨F.dropLast,F.getLast FF,(JL _).symm⟩;have hz:(Ib U)[L.length+(G++(F0++[e])).length]? = some z:=by
     rw [cn ea rfl,B1 (by lia),Nb];rfl
    have he:(Ib U)[L.length+(G++(F0++[e])).length - 1]? = some e:=by
     rw [cn ea (n:=(G++F0).length) (by simp <;> lia),Hq (by simp <;> lia), <- Hl,B1 (by lia),Nb];rfl
    have Fu:P z:=hP z (hp.mem_iff.mp (by simp))
    have Fv:P e:=hP e (hp.mem_iff.mp (by simp))
    dsimp only;refine D2 (dQ c (kp.kind.trans hk) hz he Fu Fv ?_);dsimp only;have Fg:dl lt (G++F0++[e]):=by rw [Hl];exact hN
    refine af (fun Fh => ?_) (fun Fh => ?_)
    ·have F7:lt e z=false:=c.asym _ _ Fh;refine af (fun F8 => ?_) (fun F8 => ?_)
     ·refine D2 (jF (L:=L++G) (B:=F0++[e]) (R:=z::R') (by rw [ea];simp) (by simp only [A1] at hF ⊢;simp only [HQ] at hF ⊢;lia) (by simp <;> lia) fun Z e3 Y => ?_)
      refine aa ⟨G++(F0++[e]).reverse,[z],R',0,kp.trans Y,by rw [e3];simp, ?_,by simp <;> lia,rfl, ?_, ?_,by simp <;> lia⟩
      ·refine JV.trans ?_ hp;rw [Hl,Hl,Hl];exact Ir _ (IC _ (Md _))
      ·have h1:=qF hN hE;refine D0.mpr ⟨h1,by simp,fun u j v J => ?_⟩
       simp at J;subst J;have hm:=iL c Fg F7;refine (D0.mp hm).2.2 u ?_ v (by simp)
       rw [Hl]
       rcases Hy.mp j with g | g
       ·exact IA _ g
       ·exact Hw _ (Ld.mp g)
      ·intro u j v J;simp at j J;subst j J;exact c.irr
     ·refine aa ⟨G++(F0++[e]),[z],R',0,kp,by rw [ea];simp,by simpa using hp,by simp <;> lia,rfl, ?_, ?_,by simp <;> lia⟩
      ·have hm:=iL c Fg F7;simpa using hm
      ·intro u j v J;simp at j J;subst j J;exact c.irr
    ·have FG:lt z e=false:=by simpa using Fh
     refine D2 (dQ c (kp.kind.trans hk) he hz Fv Fu ?_);dsimp only;refine af (fun Fw => ?_) (fun Fw => ?_)
     ·exact aa ⟨G,F0++[e],z::R',neq,kp,ea,hp,rfl,hF,hN,hE⟩
     ·have F7:lt e z=false:=by simpa using Fw
      refine aa ⟨G,(F0++[e])++[z],R',neq+1,kp,by rw [ea];simp,by simpa using hp,by simp <;> lia,by simp at hF ⊢;lia, ?_, ?_,by simp <;> lia⟩
      ·have hm:=iL c Fg F7;simpa using hm
      ·have FH:∀ u∈F0++[e],lt u z=false:=fun u j=>by
        cases q1:lt u z with
        | false=>rfl
        | true=>rcases c.neg u e z q1 with r | r
                ·rw [hE u j e (by simp)] at r;cases r
                ·rw [F7] at r;cases r
       have FI:∀ u∈F0++[e],lt z u=false:=fun u j=>by
        cases q1:lt z u with
        | false=>rfl
        | true=>rcases c.neg z e u q1 with r | r
                ·rw [FG] at r;cases r
                ·rw [hE e (by simp) u j] at r;cases r
       intro u j v J
       rcases Hy.mp j with g | g <;> rcases Hy.mp J with g2 | g2
       ·exact hE u g v g2
       ·simp at g2;subst g2;exact FH u g
       ·simp at g;subst g;exact FI v g2
       ·simp at g g2;subst g g2;exact c.irr
   ·rintro r U ⟨G,F,R,neq,kp,ea,hp,hr,hF,hN,hE,Ft⟩;exact ⟨G,F,R,neq,kp,ea,hp,hr,hF,hN,hE⟩
   ·refine ⟨B,[x],xs.drop (n+1),0,F6,by rw [e1];simp, ?_,by simp [EZ],rfl, ?_, ?_,by simp [EZ]⟩
    ·have h9:(B++x::xs.drop (n+1)).Perm xs:=by
      have h9:=IC (x::xs.drop (n+1)) hB;rw [<- exs] at h9;exact h9
     simpa using h9
    ·refine D0.mpr ⟨List.Pairwise.imp_of_mem (fun j J _=>F1 _ j _ J) (List.pairwise_of_forall_mem_list (r:=fun _ _=>True) fun _ _ _ _=>trivial),by simp,fun u j v J => ?_⟩
     simp at J;subst J
     cases q1:lt u v with
     | false=>rfl
     | true=>rcases c.neg u y v q1 with r | r
             ·rw [F1 u j y F5] at r;cases r
             ·rw [c.asym _ _ FC] at r;cases r
    ·intro u j v J;simp at j J;subst j J;exact c.irr
   ·rintro r U ⟨G,F,R,neq,kp,ea,hp,rfl,hF,hN,hE⟩;dsimp -zeta -zetaHave -zetaUnused only
    extract_lets -underBinder +onlyGivenNames vr vs vn2 vq2
    dsimp -zeta -zetaHave -zetaUnused only [vr];have FJ:vn2=(G++F).length:=rfl;have eq2:neq=vq2:=rfl
    clear_value vn2 vq2
    clear vs vr;subst FJ eq2
    extract_lets -underBinder +onlyGivenNames F9
    have Fd:∀ (D:List Hf) (Z:Iv),(Ib Z).toList=L++(D++R)->dl lt D->(D++R).Perm xs->D.length=(G++F).length->0 < D.length->Kp st' Z->wpS (Hv prog w) A E s (F9 ()) Q Z:=by
     intro D Z e3 Fi Fj Fa Fe Y;dsimp -zeta -zetaHave -zetaUnused only [F9];clear F9;have FK : 0 < D.length:=by lia
     refine D2 (jF (L:=L) (B:=D) (R:=R) e3 rfl (by rw [Fa]) fun Fx e4 Fy => ?_)
     have o4:Ord lt D.reverse:=OL.mpr Fi;have Fb:(D.reverse++R).Perm xs:=(IC _ (Md D)).trans Fj;have Fz:(D.reverse++R).length=xs.length:=Fb.length_eq;have Fk:Ord lt ((D.reverse++R).take D.length):=by
      rw [List.take_append_of_le_length (by simp),KG (by simp)];exact o4
     have Fl:∀ u∈D.reverse++R,P u:=fun u j=>hP u (Fb.mem_iff.mp j);have FL:D.length<=xs.length:=by rw [<- Fz];simp
     rw [<- Fa];generalize D.length=N0 at Fk FK FL;generalize D.reverse++R=ys at e4 Fb Fz Fk Fl;refine D2 (aE (Q:=fun r EX=>EX=Fx /\ ∃ n,r=(none,n)/\1<=n/\n<=xs.length/\Ord lt (ys.take n))
      (Iu (fun i r EX=>EX=Fx/\r=(none,i)/\Ord lt (ys.take i)) ?_ ?_ ⟨rfl,rfl,Fk⟩) ?_)
     ·rintro i r EX h1 hi ⟨rfl,rfl,ho⟩;dsimp only;obtain ⟨u,j⟩:∃ u,ys[i]? = some u:=⟨_,A2 (by lia)⟩
      obtain ⟨v,J⟩:∃ v,ys[i - 1]? = some v:=⟨_,A2 (by lia)⟩
      refine D2 (dQ c ((Y.trans Fy).kind.trans hk) ((cn e4 rfl).trans j) ((cn e4 (by lia)).trans J) (Fl _ (HN j)) (Fl _ (HN J)) ?_)
      dsimp only;refine af (fun h => ?_) (fun h => ?_)
      ·exact aa ⟨rfl,i,rfl,by lia,by lia,ho⟩
      ·exact aa ⟨rfl,rfl,oC c ho (by lia) j J (by simpa using h)⟩
     ·rintro r EX ⟨rfl,rfl,ho⟩;exact ⟨rfl,_,rfl,by lia,by lia,ho⟩
     ·rintro r EX ⟨rfl,m,rfl,FQ,FR,ho⟩;refine aa ?_;have:=q (ys.take m) (ys.drop m) EX (by rw [e4,IY]) (perm_take.trans Fb) (fun z=>by
       have h3:=congrArg LF z;rw [Hz,Jo] at h3;lia) ho (Y.trans Fy)
      rw [Hz,Ls (by lia)] at this
      exact this
    clear_value F9
    refine af (fun F8 => ?_) (fun F8 => ?_)
    ·refine D2 (jF (L:=L++G) (B:=F) (R:=R) (by rw [ea];simp) (by simp <;> lia) (by simp <;> lia) fun Z e3 Y => ?_)
     have Y:=kp.trans Y;have e3:(Ib Z).toList=L++((G++F.reverse)++R):=by rw [e3];simp
     have Fi:=qF hN hE;have Fj:((G++F.reverse)++R).Perm xs:=(IC _ (Ir _ (Md _))).trans hp;have Fa:(G++F.reverse).length=(G++F).length:=by simp
     have Fe : 0 < (G++F.reverse).length:=by simp <;> lia
     exact Fd _ _ e3 Fi Fj Fa Fe Y
    ·exact Fd _ _ ea hN hp rfl (by simp <;> lia) kp
  clear_value jp
  refine af (fun h1 => ?_) (fun h1 => ?_)
  ·obtain ⟨x0,Fm⟩:∃ x0,xs[0]? = some x0:=⟨_,A2 Fo⟩;refine D2 (dQ c hk ((cn O (n := 0) (by lia)).trans Fm) ((cn O (by lia)).trans hy) (hP _ (HN Fm)) (hP _ (HN hy)) ?_)
   dsimp only;refine af (fun hr=>aa Fc) (fun hr => ?_);have hr:lt x0 y=false:=by simpa using hr
   have FA:∀ u∈xs.take n,lt u x0=false:=fun u j=>by
    obtain ⟨i,hi,eu⟩:=JC.mp j;have Fn:(xs.take n)[i]? = some u:=by rw [<- eu];exact A2 hi
    have Ff:(xs.take n)[0]? = some x0:=by rw [Lk (by lia)];exact Fm
    by_cases hi0:i=0
    ·subst hi0;rw [Ff] at Fn;cases Fn;exact c.irr
    ·exact eY ho (by lia) Ff Fn
   have FM:∀ u∈xs.take n,lt y u=false:=hW c ho (by lia) hy c.irr
   have heq:∀ u∈xs.take n, ∀ v∈xs.take n,lt u v=false:=fun u j v J=>by
    exact c.le_trans (c.le_trans (FM v J) hr) (FA u j)
   refine D2 (jF (L:=L) (B:=xs.take n) (R:=x::xs.drop (n+1)) (by rw [O];exact congrArg (L ++ ·) exs) rfl (by rw [Hz,Ls Fp]) fun EY e1 F6 => ?_)
   have hB:(xs.take n).reverse.Perm (xs.take n):=Md _;have EZ:(xs.take n).reverse.length=n:=by rw [N6,Hz];lia
   have F1:∀ u∈(xs.take n).reverse, ∀ v∈(xs.take n).reverse,lt u v=false:=fun u j v J=>heq u (Ld.mp j) v (Ld.mp J);have F5:y∈(xs.take n).reverse:=Ld.mpr Fq;exact Fs _ _ e1 hB EZ F1 F5 F6
  ·have EY:=st';have hn:n=1:=by lia
   have F6:Kp st' st':=Kp.refl;have e1:(Ib st').toList=L++(xs.take n++x::xs.drop (n+1)):=by rw [O];exact congrArg (L ++ ·) exs
   have hB:(xs.take n).Perm (xs.take n):=OZ _;have EZ:(xs.take n).length=n:=by rw [Hz];lia
   have F5:=Fq;have F1:∀ u∈xs.take n, ∀ v∈xs.take n,lt u v=false:=fun u j v J=>by
    have e0:xs.take n=[y]:=by
     subst hn;rw [cW (by lia) hy];rfl
    rw [e0] at j J;simp at j J;subst j J;exact c.irr
   exact Fs _ _ e1 hB EZ F1 F5 F6
end
end Srt
end L2
namespace L2
namespace Srt
open PySem PySem.Spec PyProof.Rows
section
variable {prog:HI} {w:Ic} {A:Ik} {E:h6->z4->Prop} {s:z4} {kd:Ln} {P:Hf->Prop} {lt:Hf->Hf->Bool}
theorem vg (c:Cm prog w A s kd P lt) {L r R:List Hf} {n:Nat} {st:Iv} {Q:Bool->Iv->Prop} (hk:IW st=kd) (Z:(Ib st).toList=L++(r++R)) (h0:r≠[]) (ho:Ord lt r) (hn:r.length<=n) (EX:n<=(r++R).length) (hP:∀ x∈r++R,P x)
 (q:∀ r' R' st',(Ib st').toList=L++(r'++R')->(r'++R').Perm (r++R)->r'.length=n->Ord lt r'->Kp st st'->Q true st'):wpS (Hv prog w) A E s (binarySort' L.length n r.length) Q st:=by
 have F7 : 0 < r.length:=Iy.mpr h0;rw [binarySort'_eq];refine D2 (aE (Q:=fun x st'=>x=(none,()) /\ ∃ D T,Kp st st'/\(Ib st').toList=L++(D++T)/\(D++T).Perm (r++R)/\D.length=n/\Ord lt D)
  (Iu (fun i x st'=>x=(none,()) /\ ∃ D T,Kp st st'/\(Ib st').toList=L++(D++T)/\(D++T).Perm (r++R)/\D.length=i/\Ord lt D) ?_ ?_ ⟨rfl,r,R,Kp.refl,Z,OZ _,by lia,ho⟩) ?_)
 ·rintro k x B F8 F9 ⟨rfl,D,T,kp,ea,J,hD,O⟩;dsimp only;subst hD;have hlen:=J.length_eq;rw [A1] at hlen;obtain ⟨z,T',rfl⟩:∃ z T',T=z::T':=by
   cases T with
   | nil=>simp at hlen EX;lia
   | cons z T'=>exact ⟨z,T',rfl⟩
  have EY:∀ u∈D,P u:=fun u G=>hP u (J.mem_iff.mp (IA _ G));have EZ:P z:=hP z (J.mem_iff.mp (by simp))
  have hz:(Ib B)[L.length+D.length]? = some z:=by
   rw [cn ea rfl,B1 (by lia),Nb];rfl
  refine D2 (aE (Q:=fun x st'=>st'=B /\ ∃ k,x=(none,k,k)/\Gal lt false z D k k)
   (Iu (fun i x st'=>st'=B /\ ∃ lo hi,x=(none,lo,hi)/\Gal lt false z D lo hi/\hi - lo+i<=D.length) ?_ ?_ ⟨rfl,0,D.length,rfl,⟨by lia,by lia,fun _ _ h=>by lia,fun i x hi hx=>by
     have:=(Hx.mp hx).1;lia⟩,by lia⟩) ?_)
  ·rintro i x U _ hi ⟨rfl,lo,j,rfl,F,hm⟩;dsimp only;have hl:=F.le;have F1:=F.len;refine af (fun F5 => ?_) (fun F5 => ?_)
   ·exact aa ⟨rfl,j,by rw [show lo=j by lia],by rw [show lo=j by lia] at F;exact F⟩
   ·obtain ⟨u,G⟩:∃ u,D[(lo+j) / 2]? = some u:=⟨_,A2 (by lia)⟩
    have F6:(Ib U)[L.length+(lo+j) / 2]? = some u:=by
     rw [cn ea rfl,Hq (by lia)];exact G
    refine D2 (dQ c (kp.kind.trans hk) hz F6 EZ (EY _ (HN G)) ?_);dsimp only;refine af (fun hf => ?_) (fun hf => ?_)
    ·exact aa ⟨rfl,_,_,rfl,⟨by lia,by lia,F.up,hJ c O G (by simp [bey,hf])⟩,by lia⟩
    ·exact aa ⟨rfl,_,_,rfl,⟨by lia,F1,gZ c O G (by simpa [bey] using hf),F.dn⟩,by lia⟩
  ·rintro x U ⟨rfl,lo,j,rfl,F,hm⟩;have hl:=F.le;exact ⟨rfl,j,by rw [show lo=j by lia],by rw [show lo=j by lia] at F;exact F⟩
  ·rintro x U ⟨rfl,l,rfl,F⟩;dsimp only;obtain ⟨X,Y,e,hl,hX,hY⟩:=F.out;subst hl e;rw [moveDown'_eq];refine D2 (Ju ?_);refine aa ⟨rfl,X++z::Y,T',kp.trans ⟨rfl,rfl,rfl⟩,qd ea (by simp) (by simp;lia), ?_,by simp;lia, ?_⟩
   ·refine JV.trans ?_ J;rw [Hl,Hl];refine Ir _ ?_;rw [Oe];exact List.perm_middle.symm
   ·obtain ⟨o1,o2,o3⟩:=D0.mp O;refine D0.mpr ⟨o1,Nw.mpr ⟨fun u G=>c.asym _ _ (by have:=hY u G;simpa [bey] using this),o2⟩,fun u G v hv => ?_⟩
    rcases Hg.mp hv with g | g
    ·subst g;have:=hX u G;simpa [bey] using this
    ·exact o3 u G v g
 ·rintro x B ⟨rfl,D,T,kp,ea,J,hD,O⟩;exact ⟨rfl,D,T,kp,ea,J,by lia,O⟩
 ·rintro x B ⟨rfl,D,T,kp,ea,J,hD,O⟩;exact aa (q D T B ea J hD O kp)
noncomputable def Pd:Nat->List (List Hf)->List (Nat×Nat×Nat)->Prop
 | _,[],ps=>ps=[]
 | s,r::rs,ps => ∃ p t,ps=(s,r.length,p)::t/\Pd (s+r.length) rs t
theorem Pd.split:∀ {l t:List (List Hf)} {s:Nat} {ps:List (Nat×Nat×Nat)},Pd s (l++t) ps -> ∃ pl pt,ps=pl++pt/\pl.length=l.length/\Pd s l pl/\Pd (s+l.flatten.length) t pt
 | [],t,s,ps,h=>⟨[],ps,rfl,rfl,rfl,by simpa using h⟩
 | r::l,t,s,ps,h=>by
   obtain ⟨p,q,e,h⟩:=h;obtain ⟨pl,pt,e2,j,h1,h2⟩:=Pd.split h;refine ⟨(s,r.length,p)::pl,pt,by rw [e,e2];rfl,by simp [j],⟨p,pl,rfl,h1⟩, ?_⟩
   rw [IB,A1, <- Pq];exact h2
theorem Pd.join:∀ {l t:List (List Hf)} {s:Nat} {pl pt:List (Nat×Nat×Nat)},Pd s l pl->Pd (s+l.flatten.length) t pt->Pd s (l++t) (pl++pt)
 | [],t,s,pl,pt,h,g=>by
  have:pl=[]:=h;subst this;simpa using g
 | r::l,t,s,pl,pt,h,g=>by
   obtain ⟨p,q,e,h⟩:=h;subst e;refine ⟨p,q++pt,rfl,Pd.join h ?_⟩;rw [IB,A1, <- Pq] at g;exact g
theorem Pd.length:∀ {l:List (List Hf)} {s:Nat} {ps:List (Nat×Nat×Nat)},Pd s l ps->ps.length=l.length
 | [],_,_,h=>by rw [show _=[] from h];rfl
 | r::l,s,ps,h=>by
   obtain ⟨p,q,e,h⟩:=h;rw [e];simp [h.length]
structure Rn (lt:Hf->Hf->Bool) (kd:Ln) (a₀:List Hf) (st:Iv) (rs:List (List Hf)) (R:List Hf):Prop where
 arr:(Ib st).toList=rs.flatten++R
 perm:(rs.flatten++R).Perm a₀
 ord:∀ r∈rs,r≠[]/\Ord lt r
 pend:Pd 0 rs (Ht st).toList
 kind:IW st=kd
 fail:JM st=none
theorem Rn.merge (c:Cm prog w A s kd P lt) {a₀:List Hf} (hP:∀ x∈a₀,P x) {st:Iv} {l t:List (List Hf)} {j F R:List Hf} (h:Rn lt kd a₀ st (l++j::F::t) R) {i:Nat} (hi:i=l.length) {Q:Bool->Iv->Prop}
 (q:∀ m st',Rn lt kd a₀ st' (l++m::t) R->m.length=j.length+F.length->Q true st'):wpS (Hv prog w) A E s (Rb i) Q st:=by
 obtain ⟨g,lo,F6,⟨O,U,Y⟩,Z⟩:=E6 (E:=E) c;obtain ⟨pl,pt,ep,J,EX,EY⟩:=h.pend.split;obtain ⟨L,t1,e1,EZ⟩:=EY;obtain ⟨p2,t2,e2,F1⟩:=EZ;subst e1 e2;have o1:=h.ord j (by simp)
 have o2:=h.ord F (by simp)
 have G:∀ x,x∈j∨x∈F->P x:=fun x hx=>hP x (h.perm.mem_iff.mp (by simp only [JN,IB,Hy];rcases hx with z | z <;> simp [z]))
 have ip:∀ (k:Nat) (v:Nat×Nat×Nat),(Ht st).toList[k]? = some v->(Ht st)[k]? = some v:=fun k v e=>by rw [<- HM];exact e
 refine Z O (U O) (Y O) i (0+l.flatten.length) j.length L (0+l.flatten.length+j.length) F.length p2 l.flatten j F (t.flatten++R) st Q h.kind h.fail (ip _ _ ?_) (ip _ _ ?_) (by rw [h.arr];simp) (Nc _) rfl (by lia) rfl o1.1 o2.1 (fun x hx=>G x (.inl hx)) (fun x hx=>G x (.inr hx)) o1.2 o2.2 ?_
 ·rw [ep,hi, <- J,B1 (by lia),Nb];rfl
 ·rw [ep,hi, <- J,B1 (by lia),show pl.length+1 - pl.length=1 by lia];rfl
 ·intro m st' ea hm om hk hf F5;have B:m.length=j.length+F.length:=by rw [hm.length_eq];simp
  refine q m st' ⟨by rw [ea];simp, ?_, ?_, ?_,hk,hf⟩ B
  ·refine JV.trans ?_ h.perm;simp only [JN,IB,Hl];refine Ir _ ?_;rw [<- Hl j];exact IC _ hm
  ·intro r hr
   rcases Hy.mp hr with z | z
   ·exact h.ord r (IA _ z)
   ·rcases Hg.mp z with z | z
    ·subst z;exact ⟨fun z=>by rw [z] at B;have:=Iy.mpr o1.1;simp at B;lia,om⟩
    ·exact h.ord r (by simp [z])
  ·rw [F5];have e3:(((Ht st).setIfInBounds i (0+l.flatten.length,j.length+F.length,L)).eraseIdxIfInBounds (i+1)).toList=pl++(0+l.flatten.length,j.length+F.length,L)::t2:=by
    rw [Array.toList_eraseIdxIfInBounds,Ny,ep,hi, <- J];rw [List.set_append_right _ _ (by lia),Nb,List.eraseIdx_append_of_length_le (by lia),show pl.length+1 - pl.length=1 by lia];rfl
   rw [e3];refine EX.join ⟨L,t2,by rw [B], ?_⟩
   rw [B, <- Pq];exact F1
theorem oD {α:Type} {l:List α} (h : 1 < l.length):∃ t a b,l=t++[a,b]:=by
 obtain ⟨t1,b,e1⟩:∃ t b,l=t++[b]:=⟨l.dropLast,l.getLast (fun z=>by rw [z] at h;simp at h),(JL _).symm⟩
 obtain ⟨j,a,e2⟩:∃ t b,t1=t++[b]:=⟨t1.dropLast,t1.getLast (fun z=>by rw [e1,z] at h;simp at h),(JL _).symm⟩
 exact ⟨j,a,b,by rw [e1,e2];simp⟩
theorem CS {α:Type} {l:List α} {i:Nat} (h:i+1 < l.length):∃ t a b u,l=t++a::b::u/\t.length=i:=by
 refine ⟨l.take i,l[i],l[i+1],l.drop (i+2), ?_,by rw [Hz];lia⟩
 rw [<- IG (by lia), <- IG (by lia),IY]
theorem Rn.size {a₀:List Hf} {st:Iv} {rs:List (List Hf)} {R:List Hf} (h:Rn lt kd a₀ st rs R):rs.flatten.length+R.length=a₀.length:=by
 have:=h.perm.length_eq;rw [A1] at this;exact this
theorem qG:∀ {rs:List (List Hf)},(∀ r∈rs,r≠[])->rs.length<=rs.flatten.length
 | [],_=>by simp
 | r::rs,h=>by
   have h1:=Iy.mpr (h r (by simp))
   have h2:=qG (rs:=rs) fun r j=>h r (by simp [j])
   rw [IB,A1,HS];lia
theorem vh {l:List (List Hf)} {s pw:Nat} {ps:Array (Nat×Nat×Nat)} (h:Pd s l ps.toList):Pd s l (ps.modify (ps.size - 1) fun x=>(x.1,x.2.1,pw)).toList:=by
 rw [Array.toList_modify];have g:∀ (l:List (List Hf)) (s k:Nat) (ps:List (Nat×Nat×Nat)),Pd s l ps->Pd s l (ps.modify k fun x=>(x.1,x.2.1,pw)):=by
  intro l
  induction l with
  | nil=>intro s k ps h;have:ps=[]:=h;subst this;cases k <;> rfl
  | cons r l ih =>
    intro s k ps h;obtain ⟨p,t,e,h⟩:=h;subst e
    cases k with
    | zero=>exact ⟨pw,t,rfl,h⟩
    | succ k=>exact ⟨p,_,rfl,ih _ k t h⟩
 exact g _ _ _ _ h
theorem qf (c:Cm prog w A s kd P lt) {st:Iv} {Q:Unit->Iv->Prop} (hk:IW st=kd) (hf:JM st=none) (hp:Ht st = #[]) (hP:∀ x∈(Ib st).toList,P x)
 (q:∀ st',(Ib st').toList.Perm (Ib st).toList->Ord lt (Ib st').toList->JM st'=none->Q () st'):wpS (Hv prog w) A E s sortRuns' Q st:=by
 rw [sortRuns'_eq];refine D2 (Lr ?_)
 try dsimp only
 have hsz:(Ib st).size=(Ib st).toList.length:=by simp
 generalize hA:(Ib st).toList=a₀ at hP q hsz;generalize hS:(Ib st).size=size at hsz;generalize minRun' size size 0=minrun;refine D2 (aE (Q:=fun r st' => ∃ rs lo,r=(none,lo)/\Rn lt kd a₀ st' rs [])
  (Iu (fun i r st' => ∃ rs R,r=(none,rs.flatten.length)/\Rn lt kd a₀ st' rs R/\i<=rs.flatten.length) ?_ ?_ ⟨[],a₀,rfl,⟨by simpa using hA,by simp,by simp,by rw [hp];rfl,hk,hf⟩,by simp⟩) ?_)
 ·rintro i r F8 _ hi ⟨rs,R,rfl,L,F5⟩
  try dsimp only
  have Fj:=L.size;refine af (fun Fg => ?_) (fun Fg => ?_)
  ·have:R=[]:=Ij.mp (by lia)
   subst this;exact aa ⟨rs,_,rfl,L⟩
  ·have F9:size - rs.flatten.length=R.length:=by lia
   have Fh:R≠[]:=fun z=>by rw [z,Jo] at F9;lia
   have Fa:∀ x∈R,P x:=fun x hx=>hP x (L.perm.mem_iff.mp (Hw _ hx));rw [F9];refine D2 (qe c L.kind L.arr Fh Fa fun r R1 J ea EX U ho kp => ?_)
   try dsimp only
   have F:Rn lt kd a₀ J rs (r++R1):=⟨ea,(Ir _ EX).trans L.perm,L.ord,by rw [kp.pend];exact L.pend,kp.kind.trans L.kind,kp.fail.trans L.fail⟩
   have Fb:r.length+R1.length=R.length:=by rw [<- EX.length_eq];simp
   refine af (fun F6 => ?_) (fun F6 => ?_)
   ·refine D2 (cV ?_);refine D2 (vg c F.kind F.arr U ho (n:=min R.length minrun) (by lia) (by simp;lia) (fun x hx=>Fa x (EX.mem_iff.mp hx)) fun r2 R2 B Fc F1 G Fi EZ => ?_)
    try dsimp only
    refine af (fun h=>absurd h (by simp)) (fun _ => ?_)
    have Fd:r2≠[]:=fun z=>by
     rw [z] at G;simp at G;have:=Iy.mpr U;lia
    have F:Rn lt kd a₀ B rs (r2++R2):=⟨Fc,(Ir _ F1).trans F.perm,F.ord,by rw [EZ.pend];exact F.pend,EZ.kind.trans F.kind,EZ.fail.trans F.fail⟩
    rw [<- G];clear G F1 Fc EZ ea EX kp Fb F6;generalize B=J at F;clear ho U;have ho:=Fi;have U:=Fd;generalize r2=r at F ho U;generalize R2=R1 at F;refine D2 (Lr ?_)
    try dsimp only
    have Fe:(Ht J).size=rs.length:=by rw [<- HJ];exact F.pend.length
    cases hb:(Ht J).back? with
    | none =>
      try dsimp only
      have HL:rs.flatten.length=rs.flatten.length:=rfl;refine D2 (Ju ?_);have F7:=Iy.mpr U;have Y:(rs++[r]).flatten.length=rs.flatten.length+r.length:=by rw [JN,A1,HL];simp
      refine aa ⟨rs++[r],R1,by rw [Y],⟨by rw [show _=_ from F.arr];simp, ?_, ?_, ?_,F.kind,F.fail⟩,by rw [Y];lia⟩
      ·refine JV.trans (KO (by simp)) F.perm
      ·intro u hu
       rcases Hy.mp hu with z | z
       ·exact F.ord u z
       ·simp at z;subst z;exact ⟨U,ho⟩
      ·have h8:(Ht (Lw J ((Ht J).push (rs.flatten.length,r.length,0)))).toList=(Ht J).toList++[(rs.flatten.length,r.length,0)]:=by
        show ((Ht J).push _).toList=_;rw [Hr]
       rw [show _=_ from h8];exact F.pend.join ⟨0,[],by rw [HL,Nc],rfl⟩
    | some v =>
      obtain ⟨s1,n1,p1⟩:=v
      try dsimp only
      refine D2 (aE (Q:=fun x st'=>x=(none,()) /\ ∃ rs',Rn lt kd a₀ st' rs' (r++R1)/\rs'.flatten.length=rs.flatten.length)
       (Iu (fun i x st'=>x=(none,()) /\ ∃ rs',Rn lt kd a₀ st' rs' (r++R1)/\rs'.flatten.length=rs.flatten.length) ?_ ?_ ⟨rfl,rs,F,rfl⟩) ?_)
      ·rintro j x B _ hj ⟨rfl,rs',O,G⟩;refine D2 (Lr ?_)
       try dsimp only
       have EY:(Ht B).size=rs'.length:=by rw [<- HJ];exact O.pend.length
       by_cases h1:(Ht B).size > 1
       ·rw [if_pos h1];have h2:(Ht B)[(Ht B).size - 2]? = some ((Ht B)[(Ht B).size - 2]'(by lia)):=HY (by lia)
        rw [h2]
        try dsimp only
        refine af (fun h => ?_) (fun h => ?_)
        ·exact aa ⟨rfl,rs',O,G⟩
        ·obtain ⟨t,a,b,e⟩:=oD (l:=rs') (by lia)
         subst e;refine D2 (O.merge c hP (by rw [EY];simp) fun m Z h4 hm => ?_)
         refine af (fun h=>absurd h (by simp)) (fun _=>aa ⟨rfl,_,h4, ?_⟩)
         rw [<- G];simp [hm]
       ·rw [if_neg h1];exact aa ⟨rfl,rs',O,G⟩
      ·rintro x B ⟨rfl,rs',O,G⟩;exact ⟨rfl,rs',O,G⟩
      ·rintro x B ⟨rfl,rs',O,G⟩
       try dsimp only
       refine D2 (Ju ?_);have h4:Rn lt kd a₀ (Lw B ((Ht B).modify ((Ht B).size - 1) fun x=>(x.1,x.2.1,power' size (2*s1+n1) (2*s1+n1+n1+r.length) size))) rs' (r++R1):=⟨O.arr,O.perm,O.ord,vh O.pend,O.kind,O.fail⟩;generalize Ff:Lw B ((Ht B).modify ((Ht B).size - 1) fun x=>(x.1,x.2.1,power' size (2*s1+n1) (2*s1+n1+n1+r.length) size))=Z at h4;have HL:=G;refine D2 (Ju ?_);have F7:=Iy.mpr U;have Y:(rs'++[r]).flatten.length=rs.flatten.length+r.length:=by rw [JN,A1,HL];simp
       refine aa ⟨rs'++[r],R1,by rw [Y],⟨by rw [show _=_ from h4.arr];simp, ?_, ?_, ?_,h4.kind,h4.fail⟩,by rw [Y];lia⟩
       ·refine JV.trans (KO (by simp)) h4.perm
       ·intro u hu
        rcases Hy.mp hu with z | z
        ·exact h4.ord u z
        ·simp at z;subst z;exact ⟨U,ho⟩
       ·have h8:(Ht (Lw Z ((Ht Z).push (rs.flatten.length,r.length,0)))).toList=(Ht Z).toList++[(rs.flatten.length,r.length,0)]:=by
         show ((Ht Z).push _).toList=_;rw [Hr]
        rw [show _=_ from h8];exact h4.pend.join ⟨0,[],by rw [HL,Nc],rfl⟩
   ·clear ea EX kp Fb F6;refine D2 (Lr ?_)
    try dsimp only
    have Fe:(Ht J).size=rs.length:=by rw [<- HJ];exact F.pend.length
    cases hb:(Ht J).back? with
    | none =>
      try dsimp only
      have HL:rs.flatten.length=rs.flatten.length:=rfl;refine D2 (Ju ?_);have F7:=Iy.mpr U;have Y:(rs++[r]).flatten.length=rs.flatten.length+r.length:=by rw [JN,A1,HL];simp
      refine aa ⟨rs++[r],R1,by rw [Y],⟨by rw [show _=_ from F.arr];simp, ?_, ?_, ?_,F.kind,F.fail⟩,by rw [Y];lia⟩
      ·refine JV.trans (KO (by simp)) F.perm
      ·intro u hu
       rcases Hy.mp hu with z | z
       ·exact F.ord u z
       ·simp at z;subst z;exact ⟨U,ho⟩
      ·have h8:(Ht (Lw J ((Ht J).push (rs.flatten.length,r.length,0)))).toList=(Ht J).toList++[(rs.flatten.length,r.length,0)]:=by
        show ((Ht J).push _).toList=_;rw [Hr]
       rw [show _=_ from h8];exact F.pend.join ⟨0,[],by rw [HL,Nc],rfl⟩
    | some v =>
      obtain ⟨s1,n1,p1⟩:=v
      try dsimp only
      refine D2 (aE (Q:=fun x st'=>x=(none,()) /\ ∃ rs',Rn lt kd a₀ st' rs' (r++R1)/\rs'.flatten.length=rs.flatten.length)
       (Iu (fun i x st'=>x=(none,()) /\ ∃ rs',Rn lt kd a₀ st' rs' (r++R1)/\rs'.flatten.length=rs.flatten.length) ?_ ?_ ⟨rfl,rs,F,rfl⟩) ?_)
      ·rintro j x B _ hj ⟨rfl,rs',O,G⟩;refine D2 (Lr ?_)
       try dsimp only
       have EY:(Ht B).size=rs'.length:=by rw [<- HJ];exact O.pend.length
       by_cases h1:(Ht B).size > 1
       ·rw [if_pos h1];have h2:(Ht B)[(Ht B).size - 2]? = some ((Ht B)[(Ht B).size - 2]'(by lia)):=HY (by lia)
        rw [h2]
        try dsimp only
        refine af (fun h => ?_) (fun h => ?_)
        ·exact aa ⟨rfl,rs',O,G⟩
        ·obtain ⟨t,a,b,e⟩:=oD (l:=rs') (by lia)
         subst e;refine D2 (O.merge c hP (by rw [EY];simp) fun m Z h4 hm => ?_)
         refine af (fun h=>absurd h (by simp)) (fun _=>aa ⟨rfl,_,h4, ?_⟩)
         rw [<- G];simp [hm]
       ·rw [if_neg h1];exact aa ⟨rfl,rs',O,G⟩
      ·rintro x B ⟨rfl,rs',O,G⟩;exact ⟨rfl,rs',O,G⟩
      ·rintro x B ⟨rfl,rs',O,G⟩
       try dsimp only
       refine D2 (Ju ?_);have h4:Rn lt kd a₀ (Lw B ((Ht B).modify ((Ht B).size - 1) fun x=>(x.1,x.2.1,power' size (2*s1+n1) (2*s1+n1+n1+r.length) size))) rs' (r++R1):=⟨O.arr,O.perm,O.ord,vh O.pend,O.kind,O.fail⟩;generalize Ff:Lw B ((Ht B).modify ((Ht B).size - 1) fun x=>(x.1,x.2.1,power' size (2*s1+n1) (2*s1+n1+n1+r.length) size))=Z at h4;have HL:=G;refine D2 (Ju ?_);have F7:=Iy.mpr U;have Y:(rs'++[r]).flatten.length=rs.flatten.length+r.length:=by rw [JN,A1,HL];simp
       refine aa ⟨rs'++[r],R1,by rw [Y],⟨by rw [show _=_ from h4.arr];simp, ?_, ?_, ?_,h4.kind,h4.fail⟩,by rw [Y];lia⟩
       ·refine JV.trans (KO (by simp)) h4.perm
       ·intro u hu
        rcases Hy.mp hu with z | z
        ·exact h4.ord u z
        ·simp at z;subst z;exact ⟨U,ho⟩
       ·have h8:(Ht (Lw Z ((Ht Z).push (rs.flatten.length,r.length,0)))).toList=(Ht Z).toList++[(rs.flatten.length,r.length,0)]:=by
         show ((Ht Z).push _).toList=_;rw [Hr]
        rw [show _=_ from h8];exact h4.pend.join ⟨0,[],by rw [HL,Nc],rfl⟩
 ·rintro r F8 ⟨rs,R,rfl,L,F5⟩;have:=L.size;have:R=[]:=Ij.mp (by lia)
  subst this;exact ⟨rs,_,rfl,L⟩
 ·rintro r F8 ⟨rs,lo,rfl,L⟩
  try dsimp only
  refine D2 (aE (Q:=fun r st'=>r=(none,()) /\ ∃ rs,Rn lt kd a₀ st' rs []/\rs.length<=1)
   (Iu (fun i r st'=>r=(none,()) /\ ∃ rs,Rn lt kd a₀ st' rs []/\rs.length+i<=size) ?_ ?_ ⟨rfl,rs,L, ?_⟩) ?_)
  ·rintro i r J _ hi ⟨rfl,rs,L,F5⟩;refine D2 (Lr ?_)
   try dsimp only
   have Fe:(Ht J).size=rs.length:=by rw [<- HJ];exact L.pend.length
   refine af (fun h => ?_) (fun h => ?_)
   ·exact aa ⟨rfl,rs,L,by lia⟩
   ·have go:∀ k,k+1 < rs.length->wpS (Hv prog w) A E s (Rb k) (fun b st'=>b=true /\ ∃ rs',Rn lt kd a₀ st' rs' []/\rs'.length+1=rs.length) J:=by
     intro k hk;obtain ⟨t,a,b,u,e,ht⟩:=CS hk;subst e;refine L.merge c hP ht.symm fun m B O _=>⟨rfl,_,O,by simp;lia⟩
    refine D2 (aE (go _ ?_) ?_)
    ·(repeat' split) <;> lia
    ·rintro b B ⟨rfl,rs',O,G⟩;refine af (fun h=>absurd h (by simp)) (fun _=>aa ⟨rfl,rs',O,by lia⟩)
  ·rintro r J ⟨rfl,rs,L,F5⟩;exact ⟨rfl,rs,L,by lia⟩
  ·have h1:=qG fun r hr=>(L.ord r hr).1;have h2:=L.size;simp only [Jo] at h2;lia
  ·rintro r J ⟨rfl,rs,L,hl⟩;refine aa (q J (by rw [L.arr];exact L.perm) ?_ L.fail)
   rw [L.arr,Jl]
   match rs,hl,L with
   | [],_,_=>exact NO
   | [r],_,L=>simpa using (L.ord r (by simp)).2
end
end Srt
end L2
namespace L2
namespace Srt
open PySem PySem.Spec PyProof.Rows
def hZ (cap:Nat):Prop := ∀ (prog:HI) (w:Ic) (A:Ik) (E:h6->z4->Prop) (s:z4) (kd:Ln) (P:Hf->Prop) (lt:Hf->Hf->Bool),Cm prog w A s kd P lt -> ∀ (st:Iv) (Q:Unit->Iv->Prop),IW st=kd->JM st=none->Ht st = #[]->(∀ x∈(Ib st).toList,P x)->2<=(Ib st).size->(Ib st).size<=cap ->
 (∀ st',(Ib st').toList.Perm (Ib st).toList->Ord lt (Ib st').toList->JM st'=none->Q () st')->wpS (Hv prog w) A E s sortRuns' Q st
theorem sJ {cap:Nat}:hZ cap:=fun _ _ _ _ _ _ _ _ c _ _ j hf z B _ _ q=>qf c j hf z B q
end Srt
end L2
namespace L2
namespace Srt
open PySem PySem.Spec PyProof.Rows
inductive Ky where
 | int (i:Int)
 | tup (l:List Ky)
mutual
noncomputable def az:Ky->Ky->Ordering
 | .int a, .int b=>if a < b then .lt else if a=b then .eq else .gt
 | .int _, .tup _ => .lt
 | .tup _, .int _ => .gt
 | .tup a, .tup b=>cmpKs a b
noncomputable def cmpKs:List Ky->List Ky->Ordering
 | [],[] => .eq
 | [],_::_ => .lt
 | _::_,[] => .gt
 | x::xs,y::ys=>(az x y).then (cmpKs xs ys)
end
mutual
theorem dm:∀ a b,az b a=(az a b).swap
 | .int a, .int b=>by
  simp only [az]
  by_cases h1:a < b
  ·rw [if_pos h1,if_neg (by lia),if_neg (by lia)];rfl
  ·by_cases h2:a=b
   ·rw [if_neg h1,if_pos h2,if_neg (by lia),if_pos h2.symm];rfl
   ·rw [if_neg h1,if_neg h2,if_pos (by lia)];rfl
 | .int _, .tup _=>by simp [az]
 | .tup _, .int _=>by simp [az]
 | .tup a, .tup b=>by simp only [az];exact cmpKs_swap a b
theorem cmpKs_swap:∀ a b,cmpKs b a=(cmpKs a b).swap
 | [],[] => rfl
 | [],_::_=>rfl
 | _::_,[] => rfl
 | x::xs,y::ys=>by
   simp only [cmpKs];rw [dm x y,cmpKs_swap xs ys]
   cases az x y <;> rfl
end
mutual
theorem i3:∀ a b,az a b = .eq->a=b
 | .int a, .int b,h=>by
  simp only [az] at h
  by_cases h1:a < b
  ·rw [if_pos h1] at h;cases h
  ·by_cases h2:a=b
   ·rw [h2]
   ·rw [if_neg h1,if_neg h2] at h;cases h
 | .int _, .tup _,h=>by simp [az] at h
 | .tup _, .int _,h=>by simp [az] at h
 | .tup a, .tup b,h=>by simp only [az] at h;rw [cmpKs_eq a b h]
theorem cmpKs_eq:∀ a b,cmpKs a b = .eq->a=b
 | [],[],_=>rfl
 | [],_::_,h=>by simp [cmpKs] at h
 | _::_,[],h=>by simp [cmpKs] at h
 | x::xs,y::ys,h=>by
   simp only [cmpKs] at h
   cases e:az x y with
   | lt=>rw [e] at h;cases h
   | gt=>rw [e] at h;cases h
   | eq=>rw [e] at h;rw [i3 x y e,cmpKs_eq xs ys h]
end
mutual
theorem jG:∀ a b c,az a b = .lt->az b c = .lt->az a c = .lt
 | .int a, .int b, .int c,h,g=>by
  simp only [az] at h g ⊢;have h1:a < b:=by
   by_cases h1:a < b
   ·exact h1
   ·rw [if_neg h1] at h;split at h <;> cases h
  have h2:b < c:=by
   by_cases h1:b < c
   ·exact h1
   ·rw [if_neg h1] at g;split at g <;> cases g
  rw [if_pos (by lia)]
 | .int _, .tup _, .int _,_,g=>by simp [az] at g
 | .int _, .int _, .tup _,_,_=>by simp [az]
 | .int _, .tup _, .tup _,_,_=>by simp [az]
 | .tup _, .int _,_,h,_=>by simp [az] at h
 | .tup _, .tup _, .int _,_,g=>by simp [az] at g
 | .tup a, .tup b, .tup c,h,g=>by simp only [az] at h g ⊢;exact cmpKs_trans a b c h g
theorem cmpKs_trans:∀ a b c,cmpKs a b = .lt->cmpKs b c = .lt->cmpKs a c = .lt
 | [],[],_,h,_=>by simp [cmpKs] at h
 | [],_::_,[],_,g=>by simp [cmpKs] at g
 | [],_::_,_::_,_,_=>by simp [cmpKs]
 | _::_,[],_,h,_=>by simp [cmpKs] at h
 | _::_,_::_,[],_,g=>by simp [cmpKs] at g
 | x::xs,y::ys,z::zs,h,g=>by
   simp only [cmpKs] at h g ⊢
   cases e:az x y with
   | gt=>rw [e] at h;cases h
   | eq =>
     have:=i3 x y e;subst this;rw [e] at h
     cases e2:az x z with
     | gt=>rw [e2] at g;cases g
     | lt=>rfl
     | eq=>rw [e2] at g;exact cmpKs_trans xs ys zs h g
   | lt =>
     cases e2:az y z with
     | gt=>rw [e2] at g;cases g
     | lt=>rw [jG x y z e e2];rfl
     | eq =>
       have:=i3 y z e2;subst this;rw [e];rfl
end
noncomputable def ltK (a b:Ky):Bool:=az a b == .lt
noncomputable def oE (a b:List Ky):Bool:=cmpKs a b == .lt
theorem xY (a b:Ky) (h:ltK a b=true):ltK b a=false:=by
 unfold ltK at h ⊢;rw [dm a b,(by simpa using h:az a b = .lt)];rfl
theorem lW (a b:Ky) (h:ltK a b=false) (g:ltK b a=false):a=b:=by
 unfold ltK at h g;rw [dm a b] at g;apply i3
 cases e:az a b with
 | eq=>rfl
 | lt=>rw [e] at h;cases h
 | gt=>rw [e] at g;cases g
theorem AN (a b c:Ky) (h:ltK a c=true):ltK a b=true∨ltK b c=true:=by
 cases e:ltK a b with
 | true=>exact .inl rfl
 | false =>
   right
   cases e2:ltK b a with
   | false=>rw [lW a b e e2] at h;exact h
   | true =>
     unfold ltK at h e2 ⊢;rw [jG b a c (by simpa using e2) (by simpa using h)];rfl
theorem vj (x y:Ky) (xs ys:List Ky):oE (x::xs) (y::ys)=if (!ltK x y && !ltK y x)=true then oE xs ys else ltK x y:=by
 unfold oE ltK;rw [dm x y];simp only [cmpKs]
 cases az x y <;> simp
mutual
noncomputable def toK:IJ->Ky
 | .int i => .int i
 | .tuple xs => .tup (toKs xs)
 | _ => .int 0
noncomputable def toKs:List IJ->List Ky
 | [] => []
 | x::xs=>toK x::toKs xs
end
inductive Cmpb:IJ->IJ->Prop where
 | int (a b:Int):Cmpb (.int a) (.int b)
 | nil (ys:List IJ):Cmpb (.tuple []) (.tuple ys)
 | nil' (xs:List IJ):Cmpb (.tuple xs) (.tuple [])
 | cons {x y:IJ} {xs ys:List IJ}:Cmpb x y->Cmpb (.tuple xs) (.tuple ys)->Cmpb (.tuple (x::xs)) (.tuple (y::ys))
theorem Cmpb.eqv {x y:IJ} (h:Cmpb x y):IP x y=(!ltK (toK x) (toK y) && !ltK (toK y) (toK x)):=by
 have g:∀ {x y:IJ},Cmpb x y->IP x y=(az (toK x) (toK y) == .eq):=by
  intro x y h
  induction h with
  | int a b =>
    simp only [IP,toK,az]
    by_cases h1:a < b
    ·rw [if_pos h1];simp;lia
    ·by_cases h2:a=b
     ·rw [if_neg h1,if_pos h2];simp [h2]
     ·rw [if_neg h1,if_neg h2];simp;lia
  | nil ys=>cases ys <;> simp [IP,Kn,toK,toKs,az,cmpKs]
  | nil' xs=>cases xs <;> simp [IP,Kn,toK,toKs,az,cmpKs]
  | @cons x y xs ys h1 h2 ih1 j =>
   simp only [IP] at j ⊢;simp only [Kn,toK,toKs,az,cmpKs] at j ⊢;rw [ih1,j]
   cases az (toK x) (toK y) <;> simp
 rw [g h];unfold ltK;rw [dm (toK x) (toK y)]
 cases az (toK x) (toK y) <;> rfl
section
variable {prog:HI} {w:Ic} {A:Ik} {E:h6->z4->Prop} {s:z4}
theorem trd {b:Bool} {Q:Bool->z4->Prop} (q:Q b s):Hm (Hv prog w) A (truthOfDropped (.bool b)) Q E s:=by
 unfold truthOfDropped
 wp_walk
 exact q
theorem i4 (a b:Int):ltK (.int a) (.int b)=decide (a < b):=by
 simp only [ltK,az]
 by_cases h:a < b
 ·simp [h]
 ·by_cases h2:a=b <;> simp [h,h2]
theorem vm {a b:Int} {t u:Tok} {Q:h6->z4->Prop} (q:Q (.bool (decide (a < b))) s):Hm (Hv prog w) A (QO .Lt (.int a t) (.int b u)) Q E s :=
 wpAny_richCompare_same (T := "int") rfl rfl F.slot_int_lt (call_int_lt ⟨by simp,q⟩)
noncomputable def cu:List IJ->List IJ->Option Bool
 | x::xs,y::ys=>if IP x y=true then cu xs ys else some (ltK (toK x) (toK y))
 | _,_=>none
theorem iM:∀ {xs ys:List IJ},Cmpb (.tuple xs) (.tuple ys)->ltK (toK (.tuple xs)) (toK (.tuple ys))=match cu xs ys with | some b=>b | none=>decide (xs.length < ys.length)
 | [],[],_=>rfl
 | [],_::_,_=>by simp [cu,toK,toKs,ltK,az,cmpKs]
 | _::_,[],_=>by simp [cu,toK,toKs,ltK,az,cmpKs]
 | x::xs,y::ys,h=>by
   cases h with
   | cons h1 h2 =>
     have ih:=iM h2;have e:∀ a b:List Ky,ltK (.tup a) (.tup b)=oE a b:=fun a b=>by simp [ltK,oE,az]
     simp only [toK,toKs,e] at ih ⊢;rw [vj, <- h1.eqv];simp only [cu]
     split
     ·rw [ih];simp
     ·rfl
noncomputable def cH {α β:Type} (M:MK) (A:Ik) (E:h6->z4->Prop) (f : α -> β -> Sem (ForInStep β)) (Q : β -> z4->Prop):List α -> β -> z4->Prop
 | [],c,s=>Q c s
 | x::xs,c,s=>Hm M A (f x c) (fun r s'=>match r with | .done c'=>Q c' s' | .yield c'=>cH M A E f Q xs c' s') E s
theorem fQ {α β:Type} {M:MK} {f : α -> β -> Sem (ForInStep β)} {Q : β -> z4->Prop}:∀ {l:List α} {c : β} {s:z4},cH M A E f Q l c s->Hm M A (forIn l c f) Q E s
 | [],c,s,h=>by rw [LW];exact q7 h
 | x::xs,c,s,h=>by
   rw [JI];refine gV (Jr h (fun r s' j => ?_) fun _ _ z=>z)
   cases r with
   | done c'=>exact q7 j
   | yield c'=>exact fQ j
theorem bY {h:Heap}:∀ {vs:List h6} {xs:List IJ} {as:List Addr},OW h vs xs as->vs.length=xs.length
 | _,_,_, .nil=>rfl
 | _,_,_, .cons _ r=>by simp [bY r]
theorem iN {α β:Type} {M:MK} {n:Nat} {f : α -> Option β × Unit->Sem (ForInStep (Option β × Unit))} {g:Bool -> β} {pr : α -> h6×h6} {Q:Option β × Unit->z4->Prop} :
 ∀ {l:List α} {vs us:List h6} {xs ys:List IJ} {as bs:List Addr},l.map pr=vs.zip us->OW s.heap vs xs as->OW s.heap us ys bs->Cmpb (.tuple xs) (.tuple ys)->IS xs=true->IS ys=true->JK xs<=n ->
  (∀ (z : α) (x y:h6) (d e:IJ) (as bs:List Addr) (R:ForInStep (Option β × Unit)->z4->Prop),z∈l->pr z=(x,y)->LZ s.heap x d as->LZ s.heap y e bs->Cmpb d e->d.canLay0=true->e.canLay0=true->d.depth<=n ->
   R (if IP d e=true then .yield (none,()) else .done (some (g (ltK (toK d) (toK e))),())) s->Hm M A (f z (none,())) R E s) ->
  Q ((cu xs ys).map g,()) s->cH M A E f Q l (none,()) s
 | [],vs,us,xs,ys,as,bs,e,j,B,F,_,_,_,_,q=>by
  have h1:=bY j;have h2:=bY B;have:vs=[]∨us=[]:=by
   cases vs with
   | nil=>exact .inl rfl
   | cons v vs=>cases us with
     | nil=>exact .inr rfl
     | cons u us=>simp at e
  have e2:cu xs ys=none:=by
   rcases this with rfl | rfl
   ·cases xs with
    | nil=>simp [cu]
    | cons x xs=>simp at h1
   ·cases ys with
    | nil=>cases xs <;> simp [cu]
    | cons y ys=>simp at h2
  rw [e2] at q;exact q
 | z::l,vs,us,xs,ys,as,bs,e,j,B,F,lx,ly,hd,hf,q=>by
   cases j with
   | nil=>simp at e
   | cons rx j =>
     cases B with
     | nil=>simp at e
     | cons ry B =>
       simp only [Hs,List.zip_cons_cons,OH] at e;simp only [IS,tv] at lx ly;simp only [JK] at hd
       cases F with
       | cons G J =>
         simp only [cH];refine hf z _ _ _ _ _ _ _ (by simp) e.1 rx ry G lx.1 ly.1 (by lia) ?_
         simp only [cu] at q
         split at q
         ·next h =>
          rw [if_pos h];exact iN e.2 j B J lx.2 ly.2 (by lia) (fun z x y d e as bs R L=>hf z x y d e as bs R (by simp [L])) q
         ·next h =>
          rw [if_neg h];exact q
def ET (n:Nat):Prop := ∀ (prog:HI) (w:Ic) (A:Ik) (s:z4) (a b:h6) (d e:IJ) (as bs:List Addr) (E:h6->z4->Prop) (Q:h6->z4->Prop),d.depth<=n->Cmpb d e->LZ s.heap a d as->LZ s.heap b e bs->d.canLay0=true->e.canLay0=true->A.units+n+1 < JS ->
 Q (.bool (ltK (toK d) (toK e))) s->Hm (Hv prog w) A (QO .Lt a b) Q E s
theorem E7:∀ n,ET n:=by
 intro n
 induction n with
 | zero =>
   intro prog w A s a b d e as bs E Q hd z ra rb ld le Y q
   cases z with
   | int i j =>
     cases ra;cases rb
     exact vm (by rw [<- i4];exact q)
   | nil ys=>simp [KH] at hd
   | nil' xs=>simp [KH] at hd
   | cons _ _=>simp [KH] at hd
 | succ n ih =>
   intro prog w A s a b d e as bs E Q hd z ra rb ld le Y q;have tup:∀ xs ys,d = .tuple xs->e = .tuple ys->Hm (Hv prog w) A (QO .Lt a b) Q E s:=by
    rintro xs ys rfl rfl
    cases ra with
    | tuple h1 h2 Z G =>
      cases rb with
      | tuple g1 g2 g3 J =>
        rename_i l ol vl nl p ob vb nb;have tl:s.TypeIs (.ref l) "tuple" := ⟨_,h1,h2⟩;have tb:s.TypeIs (.ref p) "tuple" := ⟨_,g1,g2⟩;refine Nf tl tb QZ (Ig QZ tl F.entry_tuple_lt ?_ (F.args_tuple_lt_2 _ _)) (by lia)
        unfold Jy.«tuple.__lt__»;refine gV ?_;have L:isSubtype (.type "tuple") (.type "tuple")=pure true:=by rw [Me];kernel_rfl
        wp_walk
        rw [Z]
        wp_walk
        rw [g3];refine q7 ?_;refine q7 ?_;refine gV (fQ (iN (n:=n) (g:=fun b=>Fin.done (Flow.ret (Oi b))) (pr:=id) (QP _) G J z ld le (by simp [KH] at hd;lia) ?_ ?_))
        ·rintro ⟨x,y⟩ x' y' d e as bs R _ hz rx ry z ld le hd r
         cases hz
         dsimp only;refine gV (Qx d e _ _ _ _ _ _ rx ry ld le ?_ prog w E _ ?_)
         ·show A.units+1+min d.depth e.depth < JS;lia
         ·by_cases B:IP d e=true
          ·rw [if_pos B] at r;rw [B];exact q7 r
          ·rw [if_neg B] at r;have B:IP d e=false:=by simpa using B
           rw [B];refine gV (IT (gV (ih prog w _ s x y d e as bs E _ hd z rx ry ld le ?_ ?_)))
           ·show A.units+1+n+1 < JS;lia
           ·exact q7 r
        ·have e1:=iM z
         cases e2:cu xs ys with
         | some b =>
           rw [e2] at e1;dsimp only at e1;rw [e1] at q;exact q7 ⟨_,rfl,by simp,q⟩
         | none =>
           rw [e2] at e1;dsimp only at e1;rw [e1] at q;have O:=bY G;have U:=bY J;refine q7 ⟨_,rfl, ?_, ?_⟩
           ·simp [Mk]
           ·simp only [HJ] at O U;simp only [Mk];rw [O,U];exact q
   cases z with
   | int i j =>
     cases ra;cases rb
     exact vm (by rw [<- i4];exact q)
   | nil ys=>exact tup _ _ rfl rfl
   | nil' xs=>exact tup _ _ rfl rfl
   | cons _ _=>exact tup _ _ rfl rfl
end
end Srt
end L2
namespace L2
namespace Srt
open PySem PySem.Spec PyProof.Rows
section
variable {prog:HI} {w:Ic} {A:Ik} {E:h6->z4->Prop} {s:z4}
theorem jH {α β:Type} {M:MK} {f : α -> Sem β} {g : α -> β}:∀ {l:List α} {Q:List β -> z4->Prop},(∀ x∈l, ∀ R : β -> z4->Prop,R (g x) s->Hm M A (f x) R E s)->Q (l.map g) s->Hm M A (l.mapM f) Q E s
 | [],Q,_,q=>by rw [List.mapM_nil];exact q7 q
 | x::xs,Q,h,q=>by
   rw [List.mapM_cons];refine gV (h x (by simp) _ (gV (jH (fun y j=>h y (by simp [j])) (q7 q))))
theorem eN {α β:Type} {M:MK} {f : α -> Sem β} {g : α -> β} {xs:Array α} {Q:Array β -> z4->Prop} (h:∀ x∈xs.toList, ∀ R : β -> z4->Prop,R (g x) s->Hm M A (f x) R E s) (q:Q (xs.map g) s):Hm M A (xs.mapM f) Q E s:=by
 rw [Array.mapM_eq_mapM_toList];rw [map_eq_pure_bind];refine gV (jH h (q7 ?_));have:(xs.toList.map g).toArray=xs.map g:=by
  apply Mw.mp;simp
 rw [this];exact q
theorem lZ {a:Addr} {v:h6} {vs:List h6} {o:Obj} {n:Nat} (h1:s.heap.get? a=some o) (h2:o.cls = .type "tuple") (j:o.data = .seq (v::vs).toArray n) {Q:Option h6->z4->Prop} (q:Q (some v) s):Hm (Hv prog w) A (firstOfTuple' (.ref a)) Q E s:=by
 unfold firstOfTuple';have ty:s.TypeIs (.ref a) "tuple" := ⟨_,h1,h2⟩
 wp_walk
 rw [j];refine q7 ?_;refine q7 ?_;exact q7 q
theorem AO {a:Addr} {o:Obj} {T:h6} (h1:s.heap.get? a=some o) (h2:o.cls=T) {Q:h6->z4->Prop} (q:Q T s):Hm (Hv prog w) A (typeOf (.ref a)) Q E s:=by
 wp_walk
 rw [h2];exact q
theorem vp {n:Nat} {x y:h6} {d e:IJ} {as bs:List Addr} (j:Cmpb d e) (rx:LZ s.heap x d as) (ry:LZ s.heap y e bs) (ld:d.canLay0=true) (le:e.canLay0=true) (hd:d.depth<=n) (z:A.units+n+1 < JS) {Q:Bool->z4->Prop} (q:Q (ltK (toK d) (toK e)) s):Hm (Hv prog w) A (oneLt' false x y) Q E s:=by
 rw [oneLt'_eq];exact gV (E7 n prog w A s x y d e as bs E _ hd j rx ry ld le z (trd q))
theorem m8 {n:Nat} {b:Bool} {x y:h6} {xs ys:List IJ} {as bs:List Addr} (hb:b=true -> ∀ d e,xs.head? = some d->ys.head? = some e->(∃ i,d = .int i) /\ ∃ i,e = .int i)
 (F:Cmpb (.tuple xs) (.tuple ys)) (rx:LZ s.heap x (.tuple xs) as) (ry:LZ s.heap y (.tuple ys) bs) (lx:IS xs=true) (ly:IS ys=true) (hd:JK xs<=n) (hu:A.units+n+1 < JS) {Q:Bool->z4->Prop} (q:Q (ltK (toK (.tuple xs)) (toK (.tuple ys))) s) :
 Hm (Hv prog w) A (keyLt' (tuples' b) x y) Q E s:=by
 cases rx with
 | tuple h1 h2 h3 G =>
   cases ry with
   | tuple g1 g2 g3 J =>
     refine gV (Qg h1 h3 ?_);refine gV (Qg g1 g3 ?_);refine gV (fQ (iN (n:=n) (g:=id) (pr:=Prod.fst) (List.zipIdx_map_fst _ _) G J F lx ly hd ?_ ?_))
     ·rintro ⟨⟨x,y⟩,i⟩ x' y' d e as bs R hz hp rx ry F ld le hd r
      cases hp
      dsimp only;refine gV (Qx d e _ _ _ _ _ _ rx ry ld le (by lia) prog w E _ ?_)
      by_cases B:IP d e=true
      ·rw [if_pos B] at r;rw [B];exact q7 r
      ·rw [if_neg B] at r;have B:IP d e=false:=by simpa using B
       rw [B];refine gV ?_
       by_cases z:(b&&i==0)=true
       ·rw [z];simp only [tv,beq_iff_eq] at z;obtain ⟨rfl,rfl⟩:=z;have j:=List.mem_zipIdx_iff_getElem?.mp hz;obtain ⟨L,O,t1,U,e1,e2⟩:∃ (L O:Int) (t1 U:Tok),x = .int L t1/\y = .int O U:=by
         generalize hV:Oj _=vl at G j;generalize hU:Oj _=ul at J j
         cases G with
         | nil=>simp at j
         | cons p1 p2 =>
           cases J with
           | nil=>simp at j
           | cons q1 q2 =>
             simp at j;obtain ⟨⟨L,ei⟩,⟨O,ej⟩⟩:=hb rfl _ _ rfl rfl;subst ei ej
             cases p1;cases q1
             exact ⟨_,_,_,_,j.1.symm,j.2.symm⟩
        subst e1 e2
        cases rx;cases ry
        refine oneLt_int ?_;rw [<- i4];exact q7 r
       ·have z:(b&&i==0)=false:=by simpa using z
        rw [z];exact vp F rx ry ld le hd hu (q7 r)
     ·have e1:=iM F
      cases e2:cu xs ys with
      | some b =>
        rw [e2] at e1;dsimp only at e1;rw [e1] at q;exact q7 q
      | none =>
        rw [e2] at e1;dsimp only at e1;rw [e1] at q;have Y:=bY G;have Z:=bY J;refine q7 ?_;simp only [HJ] at Y Z;rw [Y,Z];exact q
end
end Srt
end L2
namespace L2
namespace Srt
open PySem PySem.Spec PyProof.Rows
structure oF (n:Nat) (ds:List IJ):Prop where
 cmp:∀ d∈ds, ∀ e∈ds,Cmpb d e
 lay:∀ d∈ds,d.canLay0=true/\d.depth<=n
 kind:(∀ d∈ds, ∃ i,d = .int i)∨(∀ d∈ds, ∃ i xs,d = .tuple (.int i::xs))∨(∀ d∈ds, ∃ ys xs,d = .tuple (.tuple ys::xs))
noncomputable def cL (h:Heap):h6->Option h6
 | .ref a=>(h.get? a).bind fun o=>match o.data with | .seq xs _=>xs[0]? | _=>none
 | _=>none
section
variable {prog:HI} {w:Ic} {A:Ik} {E:h6->z4->Prop} {s:z4}
noncomputable def dL (h:Heap) (x:Hf):Ky:=toK (Jc h x.1)
def RdL (h:Heap) (vs:List h6) (ds:List IJ):Prop := ∀ v∈vs, ∃ d∈ds, ∃ as,LZ h v d as
theorem gw {arr:Array h6} {T:String} (h0 : 0 < arr.size) (h:∀ v∈arr.toList, ∀ R:h6->z4->Prop,R (.type T) s->Hm (Hv prog w) A (typeOf v) R E s) {Q:Option h6->z4->Prop} (q:Q (some (.type T)) s):Hm (Hv prog w) A (oneTypeOnly' arr) Q E s:=by
 rw [oneTypeOnly'_eq];refine gV (eN (g:=fun _=>IM T) h ?_);have e:(Mx (fun _=>IM T) arr)[0]? = some (IM T):=by
  rw [Array.getElem?_map,HY h0];rfl
 rw [e];dsimp only;have e2:((Mx (fun _=>IM T) arr).all fun x=>x==IM T)=true:=by
  rw [Qh];intro i hi;simp
 rw [e2];exact q7 q
theorem sK {n:Nat} {kd:Ln} {vs:List h6} {ds:List IJ} (j:RdL s.heap vs ds) (hs:oF n ds)
 (h:∀ (x y:h6) (d e:IJ) (as bs:List Addr) (E:h6->z4->Prop) (Q:Bool->z4->Prop),d∈ds->e∈ds->LZ s.heap x d as->LZ s.heap y e bs->Q (ltK (toK d) (toK e)) s->Hm (Hv prog w) A (keyLt' kd x y) Q E s) :
 Cm prog w A s kd (fun x=>x.1∈vs) (fun x y=>ltK (dL s.heap x) (dL s.heap y)) where
 asym:=fun x y=>xY _ _
 neg:=fun x y z=>AN _ _ _
 run:=fun x y E Q hx B q=>by
  obtain ⟨d,hd,as,ra⟩:=j _ hx;obtain ⟨e,he,bs,rb⟩:=j _ B;have e1:=K5 (hs.lay d hd).1 ra;have e2:=K5 (hs.lay e he).1 rb;unfold dL at q;rw [e1,e2] at q;exact h _ _ d e as bs E Q hd he ra rb q
theorem oG {h:Heap} {vs:List h6} (j:∀ v∈vs, ∃ u,cL h v=some u):((vs.toArray.map (cL h)).all fun x=>x.isSome)=true:=by
 rw [Qh];intro i hi;simp at hi;obtain ⟨u,q⟩:=j vs[i] (Mv hi);simp [q]
theorem vq {h:Heap} {vs:List h6} {x:h6} (hx:x∈(R0 id (vs.toArray.map (cL h))).toList):∃ v∈vs,cL h v=some x:=by
 simp at hx;exact hx
theorem vt {h:Heap} {v:h6} {vs:List h6} {u:h6} (j:cL h v=some u) : 0 < (R0 id ((v::vs).toArray.map (cL h))).size:=by
 rw [<- HJ];simp [j]
theorem m9 {h:Heap} {v:h6} {d:IJ} {xs:List IJ} {as:List Addr} (r:LZ h v (.tuple (d::xs)) as):∃ a o u us n bs,v = .ref a/\h.get? a=some o/\o.cls = .type "tuple" /\ o.data = .seq (u::us).toArray n/\LZ h u d bs:=by
 cases r with
 | @tuple a o vs n xs as h1 h2 j h4 =>
  generalize q:vs.toList=vl at h4
  cases h4 with
  | @cons u us _ _ bs _ z p2=>exact ⟨_,_,u,us,n,bs,rfl,h1,h2,by rw [j];congr 1;apply Mw.mp;simpa using q,z⟩
theorem E8 {n:Nat} {v:h6} {vs:List h6} {ds:List IJ} (U:RdL s.heap (v::vs) ds) (hs:oF n ds) (z:A.units+n+1 < JS) :
 ∃ kd,(∀ (E:h6->z4->Prop) (Q:Ln->z4->Prop),Q kd s->Hm (Hv prog w) A (keyKind' (v::vs).toArray) Q E s)/\Cm prog w A s kd (fun x=>x.1∈v::vs) (fun x y=>ltK (dL s.heap x) (dL s.heap y)):=by
 rcases hs.kind with G | G | G
 ·refine ⟨oneType',fun E Q q => ?_,sK U hs fun x y d e as bs E Q hd he ra rb q => ?_⟩
  ·have hint:∀ u∈v::vs, ∃ i t,u = .int i t:=fun u z=>by
    obtain ⟨d,hd,as,ra⟩:=U u z;obtain ⟨i,rfl⟩:=G d hd
    cases ra
    exact ⟨_,_,rfl⟩
   rw [QR];refine gV (eN (g:=fun _=>(none:Option h6)) (fun u z R r => ?_) ?_)
   ·obtain ⟨i,t,rfl⟩:=hint u (by simpa using z)
    rw [firstOfTuple'_int];exact q7 r
   ·have e1:((Mx (fun _=>(none:Option h6)) (v::vs).toArray).all fun x=>x.isSome)=false:=by
     simp
    rw [e1];have e2:((Mx (fun _=>(none:Option h6)) (v::vs).toArray)[0]?.bind id).isSome=false:=by simp
    simp only [e2,J4,if_false];refine gV (gw (T := "int") (by simp) (fun u z R r => ?_) ?_)
    ·obtain ⟨i,t,rfl⟩:=hint u (by simpa using z)
     exact q7 r
    ·exact q7 q
  ·obtain ⟨i,rfl⟩:=G d hd;obtain ⟨j,rfl⟩:=G e he
   cases ra;cases rb
   rw [keyLt'_oneType];exact oneLt_int (by rw [<- i4];exact q)
 ·refine ⟨tuples' true,fun E Q q => ?_,sK U hs fun x y d e as bs E Q hd he ra rb q => ?_⟩
  ·have hf:∀ u∈v::vs, ∃ a o i t us n,u = .ref a/\s.heap.get? a=some o/\o.cls = .type "tuple" /\ o.data = .seq (.int i t::us).toArray n:=fun u z=>by
    obtain ⟨d,hd,as,ra⟩:=U u z;obtain ⟨i,xs,rfl⟩:=G d hd;obtain ⟨a,o,Z,us,n,bs,e1,e2,J,F,L⟩:=m9 ra
    cases L
    exact ⟨a,o,_,_,us,n,e1,e2,J,F⟩
   have B:∀ u∈v::vs, ∃ i t,cL s.heap u=some (.int i t):=fun u z=>by
    obtain ⟨a,o,i,t,us,n,rfl,e2,J,F⟩:=hf u z;exact ⟨i,t,by simp [cL,e2,F]⟩
   rw [QR];refine gV (eN (g:=cL s.heap) (fun u z R r => ?_) ?_)
   ·obtain ⟨a,o,i,t,us,n,rfl,e2,J,F⟩:=hf u (by simpa using z)
    refine lZ e2 J F ?_;simpa [cL,e2,F] using r
   ·rw [oG (fun u z=>let ⟨i,t,e⟩:=B u z; ⟨_,e⟩)];refine gV (IT ?_);obtain ⟨i0,t0,e0⟩:=B v (by simp)
    refine gV (gw (T := "int") (vt e0) (fun u z R r => ?_) ?_)
    ·obtain ⟨u',O,e⟩:=vq z;obtain ⟨i,t,e'⟩:=B u' O;rw [e'] at e;cases e;exact q7 r
    ·exact q7 q
  ·obtain ⟨i,xs,rfl⟩:=G d hd;obtain ⟨j,ys,rfl⟩:=G e he;have l1:=hs.lay _ hd;have l2:=hs.lay _ he;refine m8 (n:=n) (fun _ d e hd he => ?_) (hs.cmp _ hd _ he) ra rb (by simpa [Mf] using l1.1) (by simpa [Mf] using l2.1) (by have:=l1.2;simp [KH] at this;lia) z q
   simp at hd he;subst hd he;exact ⟨⟨_,rfl⟩,_,rfl⟩
 ·refine ⟨tuples' false,fun E Q q => ?_,sK U hs fun x y d e as bs E Q hd he ra rb q => ?_⟩
  ·have hf:∀ u∈v::vs, ∃ a o b ob us n,u = .ref a/\s.heap.get? a=some o/\o.cls = .type "tuple" /\ o.data = .seq (.ref b::us).toArray n/\s.heap.get? b=some ob/\ob.cls = .type "tuple" := fun u z=>by
    obtain ⟨d,hd,as,ra⟩:=U u z;obtain ⟨ys,xs,rfl⟩:=G d hd;obtain ⟨a,o,Z,us,n,bs,e1,e2,J,F,L⟩:=m9 ra
    cases L with
    | tuple h1 h2 h3 h4=>exact ⟨a,o,_,_,us,n,e1,e2,J,F,h1,h2⟩
   have B:∀ u∈v::vs, ∃ b ob,cL s.heap u=some (.ref b)/\s.heap.get? b=some ob/\ob.cls = .type "tuple" := fun u z=>by
    obtain ⟨a,o,b,ob,us,n,rfl,e2,J,F,L,Y⟩:=hf u z;exact ⟨b,ob,by simp [cL,e2,F],L,Y⟩
   rw [QR];refine gV (eN (g:=cL s.heap) (fun u z R r => ?_) ?_)
   ·obtain ⟨a,o,b,ob,us,n,rfl,e2,J,F,L,Y⟩:=hf u (by simpa using z)
    refine lZ e2 J F ?_;simpa [cL,e2,F] using r
   ·rw [oG (fun u z=>let ⟨i,t,e,_⟩:=B u z; ⟨_,e⟩)];refine gV (IT ?_);obtain ⟨i0,t0,e0,_⟩:=B v (by simp)
    refine gV (gw (T := "tuple") (vt e0) (fun u z R r => ?_) ?_)
    ·obtain ⟨u',O,e⟩:=vq z;obtain ⟨b,ob,e',L,Y⟩:=B u' O;rw [e'] at e;cases e;exact AO L Y r
    ·exact q7 q
  ·obtain ⟨zs,xs,rfl⟩:=G d hd;obtain ⟨zs',ys,rfl⟩:=G e he;have l1:=hs.lay _ hd;have l2:=hs.lay _ he;exact m8 (n:=n) (fun h=>by cases h) (hs.cmp _ hd _ he) ra rb (by simpa [Mf] using l1.1) (by simpa [Mf] using l2.1) (by have:=l1.2;simp [KH] at this;lia) z q
end
end Srt
end L2
namespace L2
namespace Srt
open PySem PySem.Spec PyProof.Rows
inductive Pl:IJ->Prop where
 | int (i:Int):Pl (.int i)
 | tup (xs:List IJ):(∀ x∈xs,Pl x)->Pl (.tuple xs)
theorem bA {h h':Heap} (k:∀ b o,h.get? b=some o->o.cls = .type "tuple" -> h'.get? b=some o) {d:IJ} (p:Pl d):∀ {v:h6} {as:List Addr},LZ h v d as->LZ h' v d as:=by
 induction p with
 | int i=>intro v as r;cases r;exact .int _ _
 | tup xs hx ih =>
   intro v as r
   cases r with
   | tuple h1 h2 q z =>
     refine .tuple (k _ _ h1 h2) h2 q ?_;have g:∀ (xs:List IJ),(∀ x∈xs, ∀ {v:h6} {as:List Addr},LZ h v x as->LZ h' v x as) -> ∀ (vs:List h6) (as:List Addr),OW h vs xs as->OW h' vs xs as:=by
      intro xs
      induction xs with
      | nil=>intro _ vs as r;cases r;exact .nil
      | cons x xs ihx =>
        intro j vs as r
        cases r with
        | cons B p2=>exact .cons (j x (by simp) B) (ihx (fun y F=>j y (by simp [F])) _ _ p2)
     exact g xs ih _ _ z
section
variable {prog:HI} {w:Ic} {A:Ik} {E:h6->z4->Prop} {s:z4}
theorem AQ {cap:Nat} (S:hZ cap) {m:Nat} {a:Addr} {vs:List h6} {n:Nat} {ds:List IJ} (ha:s.heap.get? a=some (Qy "list" vs.toArray n)) (Y:RdL s.heap vs ds) (hs:oF m ds) (hp:∀ d∈ds,Pl d) (hl:vs.length<=Hh) (F5:vs.length<=cap) (hu:A.units+m+1 < JS) {Q:PySem.Fin->z4->Prop}
 (q:∀ (h':Heap) (out:List h6) (n':Nat),(∀ b o,b≠a->s.heap.get? b=some o->h'.get? b=some o)->h'.get? a=some (Qy "list" out.toArray n')->out.Perm vs->out.Pairwise (fun x y=>ltK (toK (Jc s.heap y)) (toK (Jc s.heap x))=false)->Q (.done (.ret .none)) { s with heap:=h' }) :
 Hm (Hv prog w) A (Jy.«list.sort» ⟨[.ref a],[]⟩) Q E s:=by
 rw [list_sort_plain];refine gV (Qg ha rfl ?_);refine gV (MD ha rfl ?_ (by simpa using hl) (by simp))
 have g1:=Lu ha (fun _ => #[]);generalize F6:s.heap.update a (Kl fun _ => #[])=h1 at g1;generalize (if ((#[]:Array h6).size==vs.toArray.size)=true then n else n+1)=n1 at g1
 refine gV (QS g1 rfl ?_);refine gV (Nt ?_ (by simpa using hl))
 refine gV (NU ?_ (by simp))
 refine ID ?_;dsimp only;generalize L:({ heap:=(h1.push { cls:=IM "tuple",data:=MN vs.toArray.toList.toArray }).push { cls:=IM "list",data:=MN [].toArray },gens:=s.gens,drawn:=s.drawn,toks:=s.toks,os:=s.os }:z4)=s3;have g3:s3.heap.get? a=some (Qy "list" #[] n1):=by
  rw [<- L];exact hH _ (hH _ g1)
 have keep:∀ b o,b≠a->s.heap.get? b=some o->s3.heap.get? b=some o:=fun b o hb G=>by
  rw [<- L, <- F6];exact hH _ (hH _ (by rw [Ji _ _ _ _ hb];exact G))
 have keepT:∀ b o,s.heap.get? b=some o->o.cls = .type "tuple" -> s3.heap.get? b=some o:=fun b o hb hc=>keep b o (fun z=>by
  rw [z,ha] at hb;cases hb;simp at hc) hb
 have F7:RdL s3.heap vs ds:=fun v hv=>by
  obtain ⟨d,hd,as,r⟩:=Y v hv;exact ⟨d,hd,as,bA keepT (hp d hd) r⟩
 have same:∀ v∈vs,Jc s3.heap v=Jc s.heap v:=fun v hv=>by
  obtain ⟨d,hd,as,r⟩:=Y v hv;rw [K5 (hs.lay d hd).1 r,K5 (hs.lay d hd).1 (bA keepT (hp d hd) r)]
 have q:∀ (h':Heap) (out:List h6) (n':Nat),(∀ b o,b≠a->s.heap.get? b=some o->h'.get? b=some o)->h'.get? a=some (Qy "list" out.toArray n')->out.Perm vs->out.Pairwise (fun x y=>ltK (toK (Jc s.heap y)) (toK (Jc s.heap x))=false)->Q (.done (.ret .none)) { s3 with heap:=h' }:=by
  rw [<- L];exact q
 have F8:∀ A':Ik,A'.units=A.units->True:=fun _ _=>trivial;clear L
 let Good:Iv->Prop:=fun st'=>JM st'=none/\(Ib st').toList.Perm (vs.zip vs)/\(Ib st').toList.Pairwise (fun x y=>ltK (dL s3.heap y) (dL s3.heap x)=false)
 by_cases F:vs.toArray.size < 2
 ·rw [if_pos F,if_pos F];refine gV (q7 ?_);have B:vs.length < 2:=by simpa using F
  have run:Hm (Hv prog w) A ((pure ():StateT Iv Sem Unit).run (Mu general' (vs.toArray.zip vs.toArray) #[] 7 none)) (fun r s'=>s'=s3/\Good r.2) E s3:=by
   refine q7 ⟨rfl,rfl, ?_, ?_⟩
   ·show (vs.toArray.zip vs.toArray).toList.Perm _;simp
   ·show List.Pairwise _ (vs.toArray.zip vs.toArray).toList
    match vs,B with
    | [],_=>simp
    | [x],_=>simp
  refine gV (Jr (Q:=fun r s'=>s'=s3/\Good r.2) run (fun r s' Y => ?_) (fun _ _ z=>z));obtain ⟨rfl,J,j,O⟩:=Y;obtain ⟨u,st'⟩:=r;refine gV (QS g3 rfl ?_);refine gV (MD g3 rfl ?_ (by simp) (by simp only [Array.size_map];have:=j.length_eq;simp at this;rw [this];lia))
  dsimp only at J;rw [J];simp only [bne_self_eq_false,J4,if_false];refine q7 ?_;have gq:=Lu g3 (fun _=>Mx (fun x=>x.snd) (Ib st'));have eo:Mx (fun x=>x.snd) (Ib st')=((Ib st').toList.map fun x=>x.snd).toArray:=by apply Mw.mp;simp
  refine q _ ((Ib st').toList.map fun x=>x.snd) _ (fun b o hb G => ?_) (by rw [gq,eo]) ?_ ?_
  ·rw [Ji _ _ _ _ hb];exact keep b o hb G
  ·have Z:=j.map (fun x:Hf=>x.snd);rw [Qz (by simp)] at Z
   exact Z
  ·rw [Jd];refine O.imp_of_mem fun {x y} hx hy hxy => ?_;have mx:=Ng (j.mem_iff.mp hx);have my:=Ng (j.mem_iff.mp hy);unfold dL at hxy;rw [mx.1,my.1,same y.2 (by rw [<- my.1];exact my.2),same x.2 (by rw [<- mx.1];exact mx.2)] at hxy
   exact hxy
 ·rw [if_neg F,if_neg F];have B : 2<=vs.length:=by simpa using F
  obtain ⟨v0,U,EX⟩:∃ v0 U,vs=v0::U:=by
   match vs,B with
   | v::t,_=>exact ⟨v,t,rfl⟩
  obtain ⟨kd,EY,EZ⟩:=E8 (prog:=prog) (w:=w) (A:=A) (v:=v0) (vs:=U) (by rw [<- EX];exact F7) hs hu
  rw [<- EX] at EY EZ;refine gV (EY E _ ?_);have run:Hm (Hv prog w) A (sortRuns'.run (Mu kd (vs.toArray.zip vs.toArray) #[] 7 none)) (fun r s'=>s'=s3/\Good r.2) E s3:=by
   have ez:(Ib (Mu kd (vs.toArray.zip vs.toArray) #[] 7 none)).toList=vs.zip vs:=by
    show (vs.toArray.zip vs.toArray).toList=_;simp
   have h9:wpS (Hv prog w) A E s3 sortRuns' (fun _ st'=>Good st') (Mu kd (vs.toArray.zip vs.toArray) #[] 7 none):=by
    have F1:(Ib (Mu kd (vs.toArray.zip vs.toArray) #[] 7 none)).size=vs.length:=by rw [<- HJ,ez];simp
    refine S _ _ _ _ _ _ _ _ EZ (Mu kd (vs.toArray.zip vs.toArray) #[] 7 none) _ rfl rfl rfl (fun x hx => ?_) (by rw [F1];exact B) (by rw [F1];exact F5) fun st' p1 p2 p3=>⟨p3,by rw [ez] at p1;exact p1,p2⟩
    rw [ez] at hx;exact (Ng hx).2
   exact h9
  refine gV (Jr (Q:=fun r s'=>s'=s3/\Good r.2) run (fun r s' Y => ?_) (fun _ _ z=>z));obtain ⟨rfl,J,j,O⟩:=Y;obtain ⟨u,st'⟩:=r;refine gV (QS g3 rfl ?_);refine gV (MD g3 rfl ?_ (by simp) (by simp only [Array.size_map];have:=j.length_eq;simp at this;rw [this];lia))
  dsimp only at J;rw [J];simp only [bne_self_eq_false,J4,if_false];refine q7 ?_;have gq:=Lu g3 (fun _=>Mx (fun x=>x.snd) (Ib st'));have eo:Mx (fun x=>x.snd) (Ib st')=((Ib st').toList.map fun x=>x.snd).toArray:=by apply Mw.mp;simp
  refine q _ ((Ib st').toList.map fun x=>x.snd) _ (fun b o hb G => ?_) (by rw [gq,eo]) ?_ ?_
  ·rw [Ji _ _ _ _ hb];exact keep b o hb G
  ·have Z:=j.map (fun x:Hf=>x.snd);rw [Qz (by simp)] at Z
   exact Z
  ·rw [Jd];refine O.imp_of_mem fun {x y} hx hy hxy => ?_;have mx:=Ng (j.mem_iff.mp hx);have my:=Ng (j.mem_iff.mp hy);unfold dL at hxy;rw [mx.1,my.1,same y.2 (by rw [<- my.1];exact my.2),same x.2 (by rw [<- mx.1];exact mx.2)] at hxy
   exact hxy
theorem sL (u:h6):Qu "sorted" ⟨[u],[]⟩=pure ():=by kernel_rfl
theorem vw {cap:Nat} (S:hZ cap) {m:Nat} {u:h6} {ds:List IJ} {C:Heap->List h6->Prop} {Q:h6->z4->Prop} (hu:A.units+m+3 < JS) (hs:oF m ds) (B:∀ d∈ds,Pl d)
 (F:∀ (E:h6->z4->Prop) (R:List h6->z4->Prop),(∀ (h':Heap) (vs':List h6) (t':Nat),C h' vs'->RdL h' vs' ds->vs'.length<=Hh/\vs'.length<=cap->s.toks<=t'->R vs' { s with heap:=h',toks:=t' })->Hm (Hv prog w) A.in1 (collect u) R E s)
 (q:∀ (h1 h2:Heap) (vs out:List h6) (n' t':Nat),C h1 vs->(∀ b o,h1.get? b=some o->h2.get? b=some o)->h2.get? h1.objs.size=some (Qy "list" out.toArray n')->out.Perm vs->out.Pairwise (fun x y=>ltK (toK (Jc h2 y)) (toK (Jc h2 x))=false)->RdL h2 out ds->vs.length<=Hh->s.toks<=t'->Q (.ref h1.objs.size) { s with heap:=h2,toks:=t' }) :
 Hm (Hv prog w) A (call (.builtin "sorted") [u]) Q E s:=by
 refine wpAny_call (codeAny_call_builtin plain_sorted entry_sorted (Ku (sL u) ?_));unfold Builtin.sorted;refine gV (Ku (a:=()) (by kernel_rfl) ?_)
 refine gV (F _ _ fun h1 vs t' hC J G ht => ?_);obtain ⟨G,L⟩:=G;refine gV (NU ?_ G);refine gV (ID ?_);have O:RdL (h1.push { cls:=IM "list",data:=MN vs.toArray }) vs ds:=fun v z=>by
  obtain ⟨d,hd,as,r⟩:=J v z;exact ⟨d,hd,as,bA (fun b o hb _=>hH _ hb) (B d hd) r⟩
 have Z:(h1.push { cls:=IM "list",data:=MN vs.toArray }).get? h1.objs.size=some (Qy "list" vs.toArray 0):=D1 _ rfl;refine Ig slot_list_sort (T := "list") ⟨_,Z,rfl⟩ entry_list_sort ?_ (args_list_sort _);refine AQ S (m:=m) Z O hs B G L (by show A.units+1+1+m+1 < JS;lia) fun h2 out n' keep g2 j U=>⟨_,rfl,q7 ?_⟩
 have old:∀ b o,h1.get? b=some o->h2.get? b=some o:=fun b o hb=>keep b o (I0 (Hi hb)) (hH _ hb);have Y:RdL h2 vs ds:=fun v z=>by
  obtain ⟨d,hd,as,r⟩:=J v z;exact ⟨d,hd,as,bA (fun b o hb _=>old b o hb) (B d hd) r⟩
 refine q h1 h2 vs out n' t' hC old g2 j ?_ (fun v z=>Y v (j.mem_iff.mp z)) G ht;have same:∀ v∈vs,Jc (h1.push { cls:=IM "list",data:=MN vs.toArray }) v=Jc h2 v:=fun v z=>by
  obtain ⟨d,hd,as,r⟩:=J v z;rw [K5 (hs.lay d hd).1 (bA (fun b o hb _=>old b o hb) (B d hd) r),K5 (hs.lay d hd).1 (bA (fun b o hb _=>hH _ hb) (B d hd) r)]
 refine U.imp_of_mem fun {x y} hx hy hxy => ?_;rw [same y (j.mem_iff.mp hy),same x (j.mem_iff.mp hx)] at hxy;exact hxy
end
end Srt
end L2
namespace L2
namespace It
open PySem PySem.Spec PyProof.Rows
end It
end L2
namespace L2
namespace It
open PySem PySem.Spec PyProof.Rows
end It
end L2
namespace L2
namespace It
open PySem PySem.Spec PyProof.Rows
end It
end L2
namespace L2
open PySem PySem.Spec PyProof.Rows
section
section
variable {P:HI} {w:Ic} {H:Hp} {h:Heap} {a:Addr} {o:HO}
theorem ObjOk.there (x:ObjOk P w H h a o):∃ ob,h.get? a=some ob:=by
 cases o with
 | lst xs=>obtain ⟨_,_,_,_,e⟩:=x;exact ⟨_,e⟩
 | tup xs=>obtain ⟨_,_,_,_,e,_⟩:=x;exact ⟨_,e⟩
 | dK kvs=>obtain ⟨_,_,_,_,o,_,_,e,_⟩:=x;exact ⟨_,e⟩
 | dT kvs=>obtain ⟨_,_,_,_,o,_,_,e,_⟩:=x;exact ⟨_,e⟩
 | set S n=>obtain ⟨o,_,_,_,e,_⟩:=x;exact ⟨_,e⟩
 | ins C dx fs=>obtain ⟨_,_,_,e,_⟩:=x;exact ⟨_,e⟩
 | own y=>obtain ⟨_,e⟩:=x;exact ⟨_,e⟩
 | xd fs=>obtain ⟨_,⟨_,_,_,e,_⟩,_⟩:=x;exact ⟨_,e⟩
 | rng lo hi=>obtain ⟨_,_,_,e⟩:=x;exact ⟨_,e⟩
 | frz ob u=>obtain ⟨e,_⟩:=x;exact ⟨_,e⟩
 | tbl ps=>exact ⟨_,show h.get? a=some _ from x⟩
 | met f y=>exact ⟨_,show h.get? a=some _ from x⟩
 | ext φ => obtain ⟨_,⟨_,e⟩,_⟩:=x;exact ⟨_,e⟩
end
noncomputable def lay (H:Hp) (N:Addr->Option HO):Hp:=fun b=>match N b with | some o=>some o | none=>H b
section
variable {X:Cx} {pins:List (Addr×Obj)} {σ:List (Option V)} {H:Hp} {s:z4} {h':Heap} {N:Addr->Option HO}
theorem AR {b:Addr} {o:HO} (e:N b=some o):lay H N b=some o:=by unfold lay;rw [e]
theorem kG {b:Addr} (e:N b=none):lay H N b=H b:=by unfold lay;rw [e]
theorem Inv.fresh' (I:Inv X pins σ H s) {b:Addr} (e:s.heap.get? b=none):H b=none:=by
 cases q:H b with
 | none=>rfl
 | some o=>obtain ⟨ob,eo⟩:=(I.hok b o q).there;rw [e] at eo;cases eo
theorem Inv.laidN {t':Nat} (I:Inv X pins σ H s) (k:∀ b u,s.heap.get? b=some u->h'.get? b=some u) (j:∀ b o,N b=some o->s.heap.get? b=none) (new:∀ b o,N b=some o->ObjOk X.prog X.w (lay H N) h' b o):Inv X pins σ (lay H N) { s with heap:=h',toks:=t' }:=by
 have old:∀ b u,s.heap.get? b=some u->N b=none:=fun b u e=>by
  cases q:N b with
  | none=>rfl
  | some o=>rw [j b o q] at e;cases e
 have oldH:∀ b o,H b=some o->lay H N b=some o:=fun b o e=>by
  obtain ⟨ob,eo⟩:=(I.hok b o e).there;rw [kG (old b ob eo)];exact e
 refine I.un ⟨fun b u q _ _ _=>k b u q,fun b u q _ _ _=>⟨u.slots,k b u q⟩,fun b u q n _=>by rw [kG (old b u q)];exact n,fun b u q _=>⟨u,k b u q⟩,fun b xs q=>oldH b _ q,fun b u xs q=>oldH b _ q,fun b ps q=>⟨#[],by rw [oldH b _ q];simp⟩⟩ fun b o e => ?_
 cases q:N b with
 | some o'=>rw [AR q] at e;cases e;exact new b o q
 | none =>
   rw [kG q] at e;exact (I.hok b o e).stay (fun c v _ q=>k c v q) (fun c q=>oldH c _ q) fun c xs q=>oldH c _ q
end
namespace Mi
open L2.Srt
inductive Sh where
 | int
 | tup (l:List Sh)
mutual
noncomputable def hs:Sh->D->Bool
 | .int, .int _=>true
 | .tup l, .tup ds=>hss l ds
 | _,_=>false
noncomputable def hss:List Sh->List D->Bool
 | [],[] => true
 | s::l,d::ds=>hs s d&&hss l ds
 | _,_=>false
end
mutual
noncomputable def pd:D->IJ
 | .int i => .int i
 | .tup ds => .tuple (pds ds)
 | _ => .none
noncomputable def pds:List D->List IJ
 | [] => []
 | d::ds=>pd d::pds ds
end
mutual
noncomputable def dep:Sh->Nat
 | .int => 0
 | .tup l=>deps l+1
noncomputable def deps:List Sh->Nat
 | [] => 0
 | s::l=>max (dep s) (deps l)
end
noncomputable def iO:Sh->Bool
 | .int=>true
 | .tup (.int::l)=>decide (deps l<=6)
 | .tup (.tup a::l)=>decide (deps (.tup a::l)<=6)
 | .tup [] => false
noncomputable def kyD (d:D):Ky:=toK (pd d)
mutual
theorem vx:∀ (s:Sh) (x y:D),hs s x=true->hs s y=true->Cmpb (pd x) (pd y)
 | .int, .int a, .int b,_,_=>by simp only [pd];exact .int a b
 | .tup l, .tup a, .tup b,h,g=>by simp only [hs] at h g;simp only [pd];exact hss_cmp l a b h g
 | .int, .int _, .non,_,g=>by simp [hs] at g
 | .int, .int _, .bl _,_,g=>by simp [hs] at g
 | .int, .int _, .str _,_,g=>by simp [hs] at g
 | .int, .int _, .tup _,_,g=>by simp [hs] at g
 | .int, .int _, .con _,_,g=>by simp [hs] at g
 | .int, .int _, .ref _,_,g=>by simp [hs] at g
 | .int, .non,_,h,_=>by simp [hs] at h
 | .int, .bl _,_,h,_=>by simp [hs] at h
 | .int, .str _,_,h,_=>by simp [hs] at h
 | .int, .tup _,_,h,_=>by simp [hs] at h
 | .int, .con _,_,h,_=>by simp [hs] at h
 | .int, .ref _,_,h,_=>by simp [hs] at h
 | .tup _, .non,_,h,_=>by simp [hs] at h
 | .tup _, .bl _,_,h,_=>by simp [hs] at h
 | .tup _, .int _,_,h,_=>by simp [hs] at h
 | .tup _, .str _,_,h,_=>by simp [hs] at h
 | .tup _, .con _,_,h,_=>by simp [hs] at h
 | .tup _, .ref _,_,h,_=>by simp [hs] at h
 | .tup _, .tup _, .non,_,g=>by simp [hs] at g
 | .tup _, .tup _, .bl _,_,g=>by simp [hs] at g
 | .tup _, .tup _, .int _,_,g=>by simp [hs] at g
 | .tup _, .tup _, .str _,_,g=>by simp [hs] at g
 | .tup _, .tup _, .con _,_,g=>by simp [hs] at g
 | .tup _, .tup _, .ref _,_,g=>by simp [hs] at g
theorem hss_cmp:∀ (l:List Sh) (a b:List D),hss l a=true->hss l b=true->Cmpb (.tuple (pds a)) (.tuple (pds b))
 | [],[],[],_,_=>by simp only [pds];exact .nil _
 | [],[],_::_,_,g=>by simp [hss] at g
 | [],_::_,_,h,_=>by simp [hss] at h
 | _::_,[],_,h,_=>by simp [hss] at h
 | _::_,_::_,[],_,g=>by simp [hss] at g
 | s::l,x::a,y::b,h,g=>by
   simp only [hss,tv] at h g;simp only [pds];exact .cons (vx s x y h.1 g.1) (hss_cmp l a b h.2 g.2)
end
mutual
theorem sM:∀ (s:Sh) (x:D),hs s x=true->Pl (pd x)/\(pd x).canLay0=true/\(pd x).depth<=dep s
 | .int, .int a,_=>by simp only [pd];exact ⟨.int a,rfl,by simp [KH]⟩
 | .tup l, .tup a,h=>by
  simp only [hs] at h;obtain ⟨h1,h2,j⟩:=hss_pl l a h;simp only [pd];exact ⟨.tup _ h1,by simpa [Mf] using h2,by simp [KH,dep];lia⟩
 | .int, .non,h=>by simp [hs] at h
 | .int, .bl _,h=>by simp [hs] at h
 | .int, .str _,h=>by simp [hs] at h
 | .int, .tup _,h=>by simp [hs] at h
 | .int, .con _,h=>by simp [hs] at h
 | .int, .ref _,h=>by simp [hs] at h
 | .tup _, .non,h=>by simp [hs] at h
 | .tup _, .bl _,h=>by simp [hs] at h
 | .tup _, .int _,h=>by simp [hs] at h
 | .tup _, .str _,h=>by simp [hs] at h
 | .tup _, .con _,h=>by simp [hs] at h
 | .tup _, .ref _,h=>by simp [hs] at h
theorem hss_pl:∀ (l:List Sh) (a:List D),hss l a=true->(∀ x∈pds a,Pl x)/\IS (pds a)=true/\JK (pds a)<=deps l
 | [],[],_=>by simp [pds,IS,JK]
 | [],_::_,h=>by simp [hss] at h
 | _::_,[],h=>by simp [hss] at h
 | s::l,x::a,h=>by
   simp only [hss,tv] at h;obtain ⟨h1,h2,q⟩:=sM s x h.1;obtain ⟨g1,g2,g3⟩:=hss_pl l a h.2;simp only [pds];refine ⟨fun y j => ?_,by simp [IS,h2,g2],by simp [JK,deps];lia⟩
   rcases Hg.mp j with z | z
   ·rw [z];exact h1
   ·exact g1 y z
end
mutual
theorem zo (M:Mem):∀ (s:Sh) (x:D) (n:Nat),hs s x=true->dep s<=n->rb n M x=some (pd x)
 | .int, .int a,n,_,_=>by cases n <;> simp [rb,pd]
 | .tup l, .tup a,n,h,hn=>by
  simp only [hs] at h;simp only [dep] at hn;obtain ⟨k,rfl⟩:∃ k,n=k+1:=⟨n - 1,by lia⟩
  simp only [rb,pd];rw [hss_rb M l a k h (by lia)];rfl
 | .int, .non,_,h,_=>by simp [hs] at h
 | .int, .bl _,_,h,_=>by simp [hs] at h
 | .int, .str _,_,h,_=>by simp [hs] at h
 | .int, .tup _,_,h,_=>by simp [hs] at h
 | .int, .con _,_,h,_=>by simp [hs] at h
 | .int, .ref _,_,h,_=>by simp [hs] at h
 | .tup _, .non,_,h,_=>by simp [hs] at h
 | .tup _, .bl _,_,h,_=>by simp [hs] at h
 | .tup _, .int _,_,h,_=>by simp [hs] at h
 | .tup _, .str _,_,h,_=>by simp [hs] at h
 | .tup _, .con _,_,h,_=>by simp [hs] at h
 | .tup _, .ref _,_,h,_=>by simp [hs] at h
theorem hss_rb (M:Mem):∀ (l:List Sh) (a:List D) (n:Nat),hss l a=true->deps l<=n->aN (rb n M) a=some (pds a)
 | [],[],_,_,_=>by simp [pds,aN]
 | [],_::_,_,h,_=>by simp [hss] at h
 | _::_,[],_,h,_=>by simp [hss] at h
 | s::l,x::a,n,h,hn=>by
   simp only [hss,tv] at h;simp only [deps] at hn;simp only [pds,aN];rw [zo M s x n h.1 (by lia),hss_rb M l a n h.2 (by lia)];rfl
end
theorem oH {s:Sh} (h:iO s=true):dep s<=7:=by
 match s,h with
 | .int,_=>simp [dep]
 | .tup (.int::l),h=>simp [iO] at h;simp [dep,deps];lia
 | .tup (.tup a::l),h=>simp only [iO,decide_eq_true_eq] at h;simp only [dep];lia
theorem AS {s:Sh} (h:iO s=true) {xs:List D} (hx:∀ x∈xs,hs s x=true):oF 7 (xs.map pd) /\ ∀ d∈xs.map pd,Pl d:=by
 refine ⟨⟨?_, ?_, ?_⟩, ?_⟩
 ·intro d hd e he;obtain ⟨x,h1,rfl⟩:=Hu.mp hd;obtain ⟨y,h2,rfl⟩:=Hu.mp he;exact vx s x y (hx x h1) (hx y h2)
 ·intro d hd;obtain ⟨x,h1,rfl⟩:=Hu.mp hd;obtain ⟨_,g2,g3⟩:=sM s x (hx x h1);exact ⟨g2,by have:=oH h;lia⟩
 ·match s,h with
  | .int,_ =>
   left
   intro d hd;obtain ⟨x,h1,rfl⟩:=Hu.mp hd;have:=hx x h1
   cases x <;> simp [hs] at this
   exact ⟨_,rfl⟩
  | .tup (.int::l),_ =>
   right;left
   intro d hd;obtain ⟨x,h1,rfl⟩:=Hu.mp hd;have:=hx x h1
   cases x <;> simp [hs] at this
   rename_i ds
   cases ds with
   | nil=>simp [hss] at this
   | cons y ys =>
     simp [hss] at this
     cases y <;> simp [hs] at this
     exact ⟨_,_,rfl⟩
  | .tup (.tup a::l),_ =>
   right;right
   intro d hd;obtain ⟨x,h1,rfl⟩:=Hu.mp hd;have:=hx x h1
   cases x <;> simp [hs] at this
   rename_i ds
   cases ds with
   | nil=>simp [hss] at this
   | cons y ys =>
     simp [hss] at this
     cases y <;> simp [hs] at this
     exact ⟨_,_,rfl⟩
 ·intro d hd;obtain ⟨x,h1,rfl⟩:=Hu.mp hd;exact (sM s x (hx x h1)).1
theorem md {α β:Type} (f : α -> β):∀ {l m:List β},l.Perm m -> ∀ {t:List α},t.map f=m -> ∃ t':List α,t'.Perm t/\t'.map f=l:=by
 intro l m h
 induction h with
 | nil=>intro t e;exact ⟨[],by rw [List.map_eq_nil_iff.mp e],rfl⟩
 | cons x h ih =>
   intro t e
   cases t with
   | nil=>simp at e
   | cons a t =>
     simp at e;obtain ⟨t',h1,h2⟩:=ih e.2;exact ⟨a::t',h1.cons a,by simp [h2,e.1]⟩
 | swap x y l =>
   intro t e
   match t,e with
   | a::b::t,e =>
     simp at e;exact ⟨b::a::t, .swap _ _ _,by simp [e]⟩
 | trans h1 h2 j q =>
   intro t e;obtain ⟨B,p2,e2⟩:=q e;obtain ⟨t1,z,e1⟩:=j e2;exact ⟨t1,z.trans p2,e1⟩
def kH (ys:List D):Prop:=ys.Pairwise fun a b=>ltK (kyD b) (kyD a)=false
theorem qH {K:Frag} {H:Hp}:∀ {ds:List D} {vs:List V} {us:List h6},RDs K H ds vs->Vals vs us -> ∃ t:List (D×V×h6),t.map (·.1)=ds/\t.map (·.2.1)=vs/\t.map (·.2.2)=us /\ ∀ p∈t,RD K H p.1 p.2.1/\RelV p.2.1 p.2.2
 | [],vs,us,h,g=>by
  cases RDs.nil_iff.mp h
  cases g
  exact ⟨[],rfl,rfl,rfl,fun _ h=>by simp at h⟩
 | d::ds,vs,us,h,g=>by
   obtain ⟨v,r,rfl,h1,h2⟩:=Rw.mp h
   cases g with
   | cons g1 g2 =>
     rename_i u us;obtain ⟨t,e1,e2,j,q⟩:=qH h2 g2;exact ⟨(d,v,u)::t,by simp [e1],by simp [e2],by simp [j],fun p B=>by
      rcases Hg.mp B with z | z
      ·rw [z];exact ⟨h1,g1⟩
      ·exact q p z⟩
theorem qI {K:Frag} {H:Hp}:∀ {t:List (D×V×h6)},(∀ p∈t,RD K H p.1 p.2.1/\RelV p.2.1 p.2.2)->RDs K H (t.map (·.1)) (t.map (·.2.1))/\Vals (t.map (·.2.1)) (t.map (·.2.2))
 | [],_=>⟨RDs.nil, .nil⟩
 | p::t,h=>by
   obtain ⟨h1,h2⟩:=qI (t:=t) fun q j=>h q (by simp [j])
   exact ⟨RDs.cons (h p (by simp)).1 h1, .cons (h p (by simp)).2 h2⟩
section
variable {X:Cx}
theorem qg {cap:Nat} (S:hZ cap) (J:X.A.units+16 < JS) {pins:List (Addr×Obj)} {s:z4} {σ:St} {H:Hp} {Q:VK} (I:Inv X pins σ H s) {M:Mem} (rm:RM X.K M H) {es:List D} {sh:Sh} {vs:List V} {p:Addr} (rvs:RDs X.K H es vs) (hok:iO sh=true) (L:∀ d∈es,hs sh d=true)
 (q:∀ p ys,M p=none->ys.Perm es->kH ys->KE' X.K M H Q (.ref p) (ah M p (.lst ys))) {its:List h6} (hv:Vals vs its) (hl:vs.length<=Hh) (EY:vs.length<=cap)
 (O:∀ (E:h6->z4->Prop) (R:List h6->z4->Prop),(∀ (h':Heap) (tk:Nat),(∀ b o,s.heap.get? b=some o->h'.get? b=some o)->s.toks<=tk->R its { s with heap:=h',toks:=tk })->Hm (Hv X.prog X.w) X.A.in1 (collect (.ref p)) R E s) :
 Hm (Hv X.prog X.w) X.A (call (.builtin "sorted") [.ref p]) (EP X pins σ Q) X.xe s:=by
 obtain ⟨hS,G⟩:=AS hok L;have F5:=oH hok;obtain ⟨t,t1,t2,t3,t4⟩:=qH rvs hv;have U:∀ pp∈t, ∃ as,LZ s.heap pp.2.2 (pd pp.1) as:=fun pp j=>by
  have hm:pp.1∈es:=by rw [<- t1];exact HX j
  exact bX I rm 16 pp.1 (pd pp.1) pp.2.1 pp.2.2 (zo M sh pp.1 16 (L _ hm) (by lia)) (t4 pp j).1 (t4 pp j).2
 have Y:RdL s.heap its (es.map pd):=fun u J=>by
  rw [<- t3] at J;obtain ⟨pp,j,rfl⟩:=Hu.mp J;obtain ⟨as,ra⟩:=U pp j;exact ⟨pd pp.1,HX (by rw [<- t1];exact HX j),as,ra⟩
 refine vw S (m := 7) (ds:=es.map pd) (C:=fun h' vs'=>vs'=its /\ ∀ b o,s.heap.get? b=some o->h'.get? b=some o) (by lia) hS G (fun E R hR => ?_) fun h1 h2 vs' out n' tk hC old g2 B Z F6 F7 ht => ?_
 ·refine O E R fun h' tk kp EZ=>hR h' its tk ⟨rfl,kp⟩ (fun u J => ?_) ⟨by rw [<- hv.length];exact hl,by rw [<- hv.length];exact EY⟩ EZ
  obtain ⟨d,hd,as,ra⟩:=Y u J;exact ⟨d,hd,as,bA (fun b o e _=>kp b o e) (G d hd) ra⟩
 ·obtain ⟨rfl,kp⟩:=hC;rw [<- t3] at B;obtain ⟨t',p1,p2⟩:=md (fun pp:D×V×h6=>pp.2.2) B rfl;have hz:=qI (t:=t') fun pp j=>t4 pp (p1.mem_iff.mp j);have EX:∀ b o,s.heap.get? b=some o->h2.get? b=some o:=fun b o e=>old b o (kp b o e);have z:s.heap.get? h1.objs.size=none:=by
   cases hq:s.heap.get? h1.objs.size with
   | none=>rfl
   | some o=>exact absurd (Hi (kp _ _ hq)) (IZ _)
  have F1:=I.fresh' z;have hlen:(t'.map (·.2.1)).length<=Hh:=by
   rw [A0,p1.length_eq, <- A0 (f:=fun pp:D×V×h6=>pp.2.1),t2];exact hl
  have I2:=I.laidN (t':=tk) (h':=h2) (N:=fun b=>if b=h1.objs.size then some (.lst (t'.map (·.2.1))) else none) EX (fun b o e=>by
   by_cases hb:b=h1.objs.size
   ·rw [hb];exact z
   ·rw [if_neg hb] at e;cases e) (fun b o e=>by
   by_cases hb:b=h1.objs.size
   ·subst hb;rw [if_pos rfl] at e;cases e;exact ⟨hlen,out,n',by rw [<- p2];exact hz.2,g2⟩
   ·rw [if_neg hb] at e;cases e)
  have eH:lay H (fun b=>if b=h1.objs.size then some (.lst (t'.map (·.2.1))) else none)=upd H h1.objs.size (.lst (t'.map (·.2.1))):=by
   funext b
   unfold lay upd;dsimp only
   by_cases hb:b=h1.objs.size
   ·rw [if_pos hb,if_pos hb]
   ·rw [if_neg hb,if_neg hb]
  rw [eH] at I2;refine ⟨.ref h1.objs.size,_,I2,rfl, ?_⟩;refine cD rm hz.1 (fun p' n=>q p' _ n ?_ ?_) F1
  ·have:=p1.map (fun pp:D×V×h6=>pp.1);rw [t1] at this;exact this
  ·unfold kH;rw [Jd];rw [<- p2,Jd] at Z;refine Z.imp_of_mem fun {a b} ha hb hab => ?_;have rd:∀ pp∈t',Jc h2 pp.2.2=pd pp.1:=fun pp j=>by
    have F:=p1.mem_iff.mp j;obtain ⟨as,ra⟩:=U pp F;have hm:pp.1∈es:=by rw [<- t1];exact HX F
    exact K5 (hS.lay _ (HX hm)).1 (bA (fun b o e _=>EX b o e) (G _ (HX hm)) ra)
   rw [rd a ha,rd b hb] at hab;exact hab
end
end Mi
end
end L2
namespace L2
namespace Mi
open PySem PySem.Spec PyProof.Rows L2.Srt
def kI (K:Frag) (H:Hp) (kv:D×D) (e:JT):Prop := ∃ kV vV,RD K H kv.1 kV/\RelV kV e.key/\RD K H kv.2 vV/\RelV vV e.val
theorem qJ {K:Frag} {H:Hp} {d:D} {k:Key} (h:RKey d k):RD K H d (kV k):=by
 cases d <;> first
  | exact h.elim
  | (cases h;first | exact Rt.mpr rfl | exact RC.mpr rfl)
theorem mf {K:Frag} {H:Hp}:∀ {ds:List D} {ks:List Key},Ih RKey ds ks->RDs K H ds (ks.map kV)
 | _,_, .nil=>RDs.nil
 | _,_, .cons r t=>RDs.cons (qJ r) (mf t)
theorem zp {P:HI} {w:Ic} {K:Frag} {H:Hp}:∀ {kvs:List (D×D)} {ps:List (Key×V)} {vs:List (Key×h6)} {es:List JT},Ih (fun (p:D×D) (q:Key×V)=>RKey p.1 q.1/\RD K H p.2 q.2) kvs ps->KV ps vs->Pairs (aK P w) es vs->Ih (kI K H) kvs es
 | _,_,_,_, .nil, .nil, .nil => .nil
 | _,_,_,_, .cons j t1, .cons z B, .cons h1 h2 t3=>by
   refine .cons ⟨kV _,_,qJ j.1, ?_,j.2,by rw [h2];exact z.2⟩ (zp t1 B t3)
   rw [<- z.1] at h1
   rcases aU h1 with ⟨i,t,e1,e2⟩ | ⟨x,t,e1,e2⟩
   ·rw [e1,e2];exact ⟨t,rfl⟩
   ·rw [e1,e2];exact ⟨t,rfl⟩
theorem zq {P:HI} {w:Ic} {K:Frag} {H:Hp}:∀ {kvs:List (D×D)} {ps:List (List Key×V)} {xs:List (List Key×Addr×h6)},Ih (fun (p:D×D) (q:List Key×V)=>RKeys p.1 q.1/\RD K H p.2 q.2) kvs ps->Ih (fun (p:List Key×V) (q:List Key×Addr×h6)=>p.1=q.1/\H q.2.1=some (.tup (p.1.map kV))/\RelV p.2 q.2.2) ps xs->Ih (kI K H) kvs (xs.map (entryOfKey (LA (aK P w))))
 | _,_,_, .nil, .nil => .nil
 | kv::_,_,_, .cons z t1, .cons B F=>by
   refine .cons ?_ (zq t1 F);obtain ⟨d,v⟩:=kv;have j:=z.1
   cases d <;> first
    | exact j.elim
    | exact ⟨.ref _,_,RF ⟨_,_,rfl,B.2.1,mf j⟩,rfl,z.2,B.2.2⟩
theorem b8 {α β:Type} {R : α -> β -> Prop}:∀ {l:List α} {m:List β},Ih R l m->l.length=m.length
 | _,_, .nil=>rfl
 | _,_, .cons _ t=>by simp [b8 t]
section
variable {X:Cx}
theorem oI {H:Hp} {h:Heap} {P:HI} {w:Ic} {K:Frag} {a:Addr} {ps:List (List Key×V)} {kvs:List (D×D)} (ok:ObjOk P w H h a (.dT ps)) (pr:Ih (fun (p:D×D) (q:List Key×V)=>RKeys p.1 q.1/\RD K H p.2 q.2) kvs ps) :
 ∃ cd dd sl es ep,h.get? a=some { cls:=cd,dict:=dd,data := .dict es ep,slots:=sl }/\es.size<=Hh/\Ih (kI K H) kvs es.toList:=by
 obtain ⟨G,B,xs,j,o,es,ep,h1,h2,z,F,J⟩:=ok;obtain ⟨cd,dd,dat,sl⟩:=o;dsimp only at z;subst z;have pp:=zq (P:=P) (w:=w) pr j;rw [<- F] at pp;refine ⟨cd,dd,sl,es,ep,h1, ?_,pp⟩;have:=b8 pp;have:=b8 pr;simp at *;lia
theorem AT {pins:List (Addr×Obj)} {σ:St} {H:Hp} {s:z4} {M:Mem} (I:Inv X pins σ H s) (rm:RM X.K M H) {a:Addr} {t:Bool} {kvs:List (D×D)} (e:M a=some (.dct t kvs)) :
 ∃ cd dd sl es ep,s.heap.get? a=some { cls:=cd,dict:=dd,data := .dict es ep,slots:=sl }/\es.size<=Hh/\Ih (kI X.K H) kvs es.toList/\IsD H a:=by
 have ro:=rm a _ e
 cases t with
 | false =>
   obtain ⟨ps,j,pr⟩:=ro;obtain ⟨G,B,vs,z,o,es,ep,h1,h2,q,J,F,L⟩:=I.hok a _ j;obtain ⟨cd,dd,dat,sl⟩:=o;dsimp only at q;subst q;have pp:=zp pr z F;refine ⟨cd,dd,sl,es,ep,h1, ?_,pp, .inl ⟨_,Rd.of j⟩⟩;have:=b8 pp;have:=b8 pr;simp at *;lia
 | true =>
   obtain ⟨ps,j,pr⟩:=ro;obtain ⟨cd,dd,sl,es,ep,h1,h2,q⟩:=oI (I.hok a _ j) pr;exact ⟨cd,dd,sl,es,ep,h1,h2,q, .inr ⟨_,Rd.of j⟩⟩
end
section
noncomputable def jI (to tk tx:TEd):TEd:=fun ρ M Q=>to ρ M fun x M1 => ∃ a t kvs,x = .ref a/\M1 a=some (.dct t kvs)/\tk ρ M1 fun k M2=>tx ρ M2 fun z M3 => ∃ t' kvs',M3 a=some (.dct t' kvs')/\gP t' k=true/\Q ((dget kvs' k).getD z) M3
theorem vy {to tk tx:TEd} (h1:ae to) (h2:ae tk) (j:ae tx):ae (jI to tk tx):=fun ρ M Q Q' i q=>h1 _ _ _ _ (fun x L ⟨a,t,kvs,e,e1,B⟩=>⟨a,t,kvs,e,e1,h2 _ _ _ _ (fun k M2 F=>j _ _ _ _ (fun z O ⟨t',kvs',G,ok,J⟩=>⟨t',kvs',G,ok,i _ _ J⟩) F) B⟩) q
section
variable {X:Cx}
theorem CT {K:Frag} {M:Mem} {H:Hp} (rm:RM K M H) {a:Addr} {t:Bool} {kvs:List (D×D)} (e:M a=some (.dct t kvs)):IsD H a:=by
 have ro:=rm a _ e
 cases t with
 | false=>obtain ⟨ps,j,_⟩:=ro;exact .inl ⟨_,Rd.of j⟩
 | true=>obtain ⟨ps,j,_⟩:=ro;exact .inr ⟨_,Rd.of j⟩
theorem AU {o e f:Expr} {to tk tx:TEd} {apos cpos:Pos} (Y:X.A.units+1 < JS) (mo:ae to) (mk:ae tk) (mx:ae tx) (ho:PE X o (lE X.K to)) (he:PE X e (lE X.K tk)) (hf:PE X f (lE X.K tx)) (m:M2 X o "get" apos e f cpos) :
 PE X (.Call (.Attribute o "get" apos) [e,f] [] cpos) (lE X.K (jI to tk tx)):=by
 refine PE.imp (xf Y ho he hf m) fun σ H Q h => ?_;obtain ⟨ρ,M,rs,rm,q⟩:=h;refine ⟨ρ,M,rs,rm,mo _ _ _ _ (fun x Z ⟨a,t,kvs,e,e1,q1⟩ v H1 L j rd1 => ?_) q⟩;subst e
 cases Ru.mp rd1
 have B:=rs.mono (L.stab rm);refine ⟨a,rfl,CT j e1, ρ,Z,B,j,mk _ _ _ _ (fun k M2 q2 v2 H2 O F G => ?_) q1⟩;have J:=B.mono (O.stab j);refine ⟨ρ,M2,J,F,mx _ _ _ _ (fun z M3 ⟨t',kvs',e3,ok,q3⟩ v3 H3 U rm3 rd3 => ?_) q2⟩;obtain ⟨w,g,g1,g2⟩:=qv rm3 e3 ok (G.mono (U.stab F));refine ⟨w,g, ?_⟩;refine q3 _ H3 (L.trans (O.trans U)) rm3 ?_
 cases e4:dget kvs' k with
 | none=>rw [g2 e4];exact rd3
 | some d =>
   obtain ⟨w',e5,r5⟩:=g1 d e4;rw [e5];exact r5
end
end
end Mi
end L2
namespace L2
open PySem PySem.Spec PyProof.Rows
namespace Mi
end Mi
end L2
namespace L2
open PySem PySem.Spec PyProof.Rows
namespace Mi
end Mi
end L2
namespace L2
open PySem PySem.Spec PyProof.Rows
namespace Mi
end Mi
end L2
namespace L2
open PySem PySem.Spec PyProof.Rows
section
section
variable {prog:HI} {w:Ic} {A:Ik} {E:h6->z4->Prop} {s:z4}
theorem AV:typeLookup (.type "list") "keys" = pure none:=by rw [typeLookup_type,OM];kernel_rfl
theorem AW {l:Addr} {o:Obj} {xs:Array h6} {k:Nat} {Q:Option h6->z4->Prop} (hn:A.handled=none) (ho:s.heap.get? l=some o) (z:o.cls = .type "list") (hd:o.data = .seq xs k) (j:o.dict=none)
 (q:∀ h' tk,(∀ b o,s.heap.get? b=some o->h'.get? b=some o)->Q none { s with heap:=h',toks:=tk }):Hm (model prog w) A (getAttr? (.ref l) "keys") Q E s:=by
 have ty:s.TypeIs (.ref l) "list" := ⟨_,ho,z⟩;unfold getAttr?;unfold mkText;refine gV ?_;refine gV (wpAny_fresh ?_);refine q7 ?_;unfold getAttrBy?;refine gV (JA ?_);unfold getAttrBy;refine ID ?_;refine gV (K8 (s := { s with toks:=s.toks+1 }) ty ?_)
 refine gV (Ku F.slot_list_getattribute.lookup ?_);refine OE (by decide) ?_
 unfold getAttrByItsOwn hookBefore;rw [if_neg (by decide)]
 refine gV (q7 ?_);refine gV (JA (ID ?_));unfold callGetattribute boundAndCalled;rw [if_neg (by decide)]
 refine gV (Ku (F.slot_list_getattribute.bind _) ?_);dsimp only;obtain ⟨cls,dd,dat,sl⟩:=o;dsimp only at z hd j;subst z hd j;refine Q9 F.slot_list_getattribute (s := { s with toks:=s.toks+1 }) ty am_entry_list_getattribute (F.args_list_getattribute_2 _ _) ((meets_getattribute_miss_list l xs k sl "keys" s.toks AV (by decide) (by decide)).inModel prog w) ⟨ho,hn,fun h' tk a ne => ?_⟩
 ·have ne:s.heap.NewAttrErr h' a (.ref l) "keys" := ne;obtain ⟨t,u,he⟩:=ne.there;unfold getattributeRaised;refine gV (Jt (T := "AttributeError") (b:=true) ⟨_,he,rfl⟩ (by rw [Me];kernel_rfl) ?_)
  rw [if_pos rfl];unfold hookBehind;rw [if_neg (by decide)]
  refine gV (Ku am_list_getattr_none ?_);unfold hookOrError attributeErrorLeaves;dsimp only;rw [if_pos (by decide)]
  refine gV (QM ?_);refine gV (Jt (T := "AttributeError") (b:=true) ⟨_,he,rfl⟩ (by rw [Me];kernel_rfl) ?_)
  rw [if_pos rfl];exact q7 (q h' tk ne.keeps)
end
end
section
theorem oJ:entryFor table "dict.update.loop" = some Jy.«dict.update.loop» := QA (by kernel_rfl)
theorem oK:plainId "dict.update.loop" = true:=by decide +kernel
section
variable {X:Cx} {pins:List (Addr×Obj)} {σ:St} {H:Hp}
def PrV (H:Hp) (v:V) (kv:List Key×V):Prop := ∃ t b,v = .ref t/\H t=some (.tup [.ref b,kv.2])/\H b=some (.tup (kv.1.map kV))
noncomputable abbrev bQ (kvs:List (List Key×V)):List (List Key×V):=kvs.foldl (fun a kv=>bq a kv.1 kv.2) []
theorem sN (kvs:List (List Key×V)):(bQ kvs).length<=kvs.length:=by
 have g:∀ (r:List (List Key×V)) (a:List (List Key×V)),(r.foldl (fun a kv=>bq a kv.1 kv.2) a).length<=a.length+r.length:=by
  intro r
  induction r with
  | nil=>intro a;simp
  | cons x r ih =>
    intro a;have h1:=ih (bq a x.1 x.2);have h2:=dj a x.1 x.2;simp only [Lq,HS];lia
 have:=g kvs [];simpa using this
theorem jJ {α β:Type} {R : α -> β -> Prop}:∀ {l:List α} {m:List β} {i:Nat} {x : α},Ih R l m->l[i]? = some x -> ∃ y,m[i]? = some y/\R x y
 | _,_,_,_, .nil,e=>by simp at e
 | _,_,0,_, .cons r _,e=>by simp at e;subst e;exact ⟨_,rfl,r⟩
 | _,_,i+1,x, .cons _ t,e=>by
   simp at e;obtain ⟨y,h1,h2⟩:=jJ t e;exact ⟨y,by simpa using h1,h2⟩
theorem AX {A:Ik} (hu:A.units+1 < JS) (hn:A.handled=none) {l it p:Addr} {vs:List V} {kvs:List (List Key×V)} (Y:H p=none) (U:H l=some (.lst vs)) (F:Ih (PrV H) vs kvs) (hz:vs.length < Hh) {R:Result->z4->Prop} (hf:cj X pins H it) (j:it≠p) :
 ∀ (k i:Nat) (s:z4),vs.length - i=k->i<=vs.length->Inv X pins σ (upd H p (.dT (bQ (kvs.take i)))) s->s.heap.IsListIter it l i ->
  (∀ s',Inv X pins σ (upd H p (.dT (bQ kvs))) s'->R (.ok (.ret .none)) s') ->
  MA (model X.prog X.w) A (.builtin "dict.update.loop" ⟨[.ref p, .ref it,LM i, .none],[]⟩) R s:=by
 have G:l≠p:=fun z=>by rw [z,Y] at U;cases U
 have hlen:vs.length=kvs.length:=Kh F;obtain ⟨f0,f1,f2,f3,f4,f5⟩:=hf;intro k
 induction k with
 | zero =>
   intro i s hk hi I st q;have Z:i=vs.length:=by lia
   obtain ⟨its,rv,pl,_⟩:=I.list (SqL.of (K:=X.K) ((ak G).trans U));refine N1 oJ ?_;unfold Jy.«dict.update.loop»;dsimp only;refine gV (OK hn st pl.isList (by have:=rv.length;simp;lia) fun h' eb => ?_)
   refine gV ?_;unfold Builtin.Dict.addKeywords;refine gV ?_;have B:=I.turned (t':=s.toks) (h':=h') (fun b o hb e=>eb b o hb e) ((ak j).trans f0) f1 f3 f4 f5;rw [Z,hlen,List.take_length] at B;exact q7 (q7 (q7 (q _ B)))
 | succ k ih =>
   intro i s hk hi I st q;have J:i < vs.length:=by lia
   obtain ⟨its,rv,pl,_⟩:=I.list (SqL.of (K:=X.K) ((ak G).trans U));obtain ⟨u,EX,ru⟩:=rv.get (A2 J);obtain ⟨kv,EY,t,b,hv,ht,hb⟩:=jJ F (A2 J);rw [hv] at ru
   cases (show u=Ii t from ru)
   refine N1 oJ ?_;rw [Q0 (by rfl) (by rfl)]
   unfold Jy.«dict.update.loop»;dsimp only;refine gV (Ol st pl.isList (x := .ref t) (by simpa using EX) fun h' st' sb => ?_)
   have B:=I.turned (t':=s.toks) (h':=h') (fun b o hb e=>(sb.2 b hb).trans e) ((ak j).trans f0) f1 f3 f4 f5;dsimp only;have EZ:t≠p:=fun z=>by rw [z,Y] at ht;cases ht
   have F1:b≠p:=fun z=>by rw [z,Y] at hb;cases hb
   obtain ⟨tits,rt,tt,_⟩:=B.tuple (SqT.of (K:=X.K) ((ak EZ).trans ht));obtain ⟨ob,L,F5,nt,F6⟩:=id tt
   cases rt with
   | cons r1 rt =>
     cases rt with
     | cons r2 rt =>
       cases rt
       cases (show _=Ii b from r1)
       rename_i uv;refine gV (ID ?_);refine gV (wpAny_tryCatch ?_);unfold Builtin.Dict.pairItems;refine gV (K8 (T := "tuple") (s := { s with heap:=h' }) ⟨ob,L,F5⟩ ?_)
       rw [if_pos (by decide)]
       refine gV (Il (s := { s with heap:=h' }) L F6 ?_)
       refine q7 ?_;refine ID ?_;obtain ⟨z,hd,xs,rel,dd⟩:=zd (a:=p) B.hok aw;have F7:xs.length<=Hh:=by rw [<- Kh rel];exact z
       have O:upd H p (.dT (bQ (kvs.take i))) b=some (.tup (kv.1.map kV)):=(ak F1).trans hb;have F8:(bq (bQ (kvs.take i)) kv.1 kv.2).length<=Hh:=by
        have h1:=dj (bQ (kvs.take i)) kv.1 kv.2;have h2:=sN (kvs.take i);rw [Hz] at h2;lia
       have etk:bq (bQ (kvs.take i)) kv.1 kv.2=bQ (kvs.take (i+1)):=by
        unfold bQ;rw [List.take_succ,EY,List.foldl_append];rfl
       refine wpAny_dictSet_heap (hsz:=F7) (knd:=LA (aK X.prog X.w)) (KD hu) (gc B.hok O) dd fun h2 dd' hs => ?_;obtain ⟨q',es,ep,hq,g2,g3,g4,_,g5⟩:=dd';have I2:=kj (t':=s.toks+(LA (aK X.prog X.w)).draws kv.1) B (a:=p) (ob := .dT (bq (bQ (kvs.take i)) kv.1 kv.2)) (by rw [aw];exact J3) hs ⟨q',hq⟩ ⟨F8,hd,_,(rel.put kv.1 O r2).keeps fun c ys ec => ?_,q',es,ep,hq,g2,g3,g4,g5⟩
       ·rw [zN,etk] at I2;refine q7 ⟨Pt oK _,ih (i+1) _ (by lia) (by lia) I2 ?_ q⟩
        exact st'.at fun o e=>(hs.2 it j).trans e
       ·rw [ak (yQ ec aw (fun z=>nomatch z))];exact ec
end
section
variable {X:Cx}
theorem jK (hu:X.A.units+16 < JS) (hc:X.calm=true):CallR X (.type "dict") (fun xs H Q => ∃ l vs kvs,xs=[V.ref l]/\H l=some (.lst vs)/\Ih (PrV H) vs kvs/\vs.length < Hh /\ ∀ p,H p=none->Q (.ref p) (upd H p (.dT (bQ kvs)))):=by
 intro pins s σ H xs us Q I r h;obtain ⟨l,vs,kvs,rfl,J,L,hz,q⟩:=h
 cases r with
 | cons r1 rr =>
 cases rr
 cases (show _=Ii l from r1)
 have hn:=I.ok.hd hc;have O:H s.heap.objs.size=none:=I.hok.fresh (Hk _);have Z:=I.laid (a:=s.heap.objs.size) (o := .dT []) (t':=s.toks) (fun _ _ q=>hH _ q) (Hk _) (no s.heap I.big);have U:l≠s.heap.objs.size:=fun z=>by rw [z,O] at J;cases J
 refine callType_codes (Q₁ := fun obj s₁ => obj = .ref s.heap.objs.size/\s₁ = { s with heap:=s.heap.push { cls := .type "dict",data := .dict #[] } }) F.kt_called_dict (F.kt_typeCall_dict_1 _) F.entry_dict_init (kt_code_dict_new _ ⟨rfl,rfl⟩) fun obj s₁ h₁ => ?_
 obtain ⟨rfl,rfl⟩:=h₁;refine ⟨⟨_,D1 _ rfl,rfl⟩,F.args_dict_init_2 _ _, ?_⟩;unfold Jy.«dict.__init__»;refine gV ?_;unfold Builtin.Dict.selfAndRest;unfold Builtin.Dict.notOrdered;rw [if_pos (by decide)]
 have tyd:Shared.TypeIs { s with heap:=s.heap.push { cls := .type "dict",data := .dict #[] } } (.ref s.heap.objs.size) "dict" := ⟨_,D1 _ rfl,rfl⟩
 refine gV (gV (K8 tyd ?_));rw [if_neg (by decide)]
 refine q7 ?_;refine gV (q7 (q7 ?_));unfold Builtin.Dict.updateCommon Builtin.Dict.updateFrom;dsimp only;obtain ⟨its,rv,pl,_⟩:=Z.list (SqL.of (K:=X.K) ((ak U).trans J));have il:=pl.isList;refine gV (K8 il.typeIs ?_);rw [if_pos (by decide)]
 obtain ⟨ob,nn,e1,j,B,G⟩:=id pl;refine gV (AW hn e1 j G B fun h1 tk kp => ?_);rw [if_pos (show (none:Option h6).isNone=true from rfl)];refine gV (IT ?_);have Y:=Z.kept (t':=tk) kp;refine gV (Jb (s := { s with heap:=h1,toks:=tk }) (PlainL.isList (⟨ob,nn,kp _ _ e1,j,B,G⟩)) ?_)
 have I3:=Y.kept (t':=tk) (h':=h1.push { cls := .type "list_iterator",data := .fields #[.ref l, .int 0 0] }) fun b o e=>hH _ e;refine q7 ⟨Pt oK _, ?_⟩;have hle:s.heap.objs.size < h1.objs.size:=Hi (kp _ _ (D1 _ rfl));have hf:cj X pins H h1.objs.size:=by
  have:=Y.fpOk (H':=upd H s.heap.objs.size (.dT [])) (Hk _) (Y.hok.fresh (Hk _));exact ⟨by rw [<- this.1,ak (J1 hle)],this.2⟩
 refine AX (A:=X.A.in1) (X:=X) (pins:=pins) (σ := σ) (H:=H) (p:=s.heap.objs.size) (kvs:=kvs) (by have:X.A.in1.units=X.A.units+1:=rfl;lia) hn O J L hz hf (J1 hle) vs.length 0 _ (by lia) (by lia) I3 ⟨_,D1 _ rfl,rfl,rfl⟩ fun s' I' => ?_
 exact ⟨rfl, .ref s.heap.objs.size,_,I',rfl,q _ O⟩
end
end
end L2
namespace L2
namespace Mi
open PySem PySem.Spec PyProof.Rows
section
section
variable {X:Cx}
noncomputable def sP (kvs:List (D×D)):List (D×D):=kvs.foldl (fun a kv=>cz a kv.1 kv.2) []
noncomputable def sQ:RAd:=fun ds M Q => ∃ a kvs,ds=[.ref a]/\M a=some (.lst (kvs.map fun kv:D×D => .tup [kv.1,kv.2]))/\(∀ kv∈kvs,bW kv.1=true)/\kvs.length < Hh /\ ∀ p,M p=none->Q (.ref p) (ah M p (.dct true (sP kvs)))
theorem mj:b9 sQ:=fun _ _ _ _ h ⟨a,kvs,e,e1,e2,j,q⟩=>⟨a,kvs,e,e1,e2,j,fun p n=>h _ _ (q p n)⟩
theorem oM {K:Frag} {H:Hp}:∀ {kvs:List (D×D)} {vs:List V},RDs K H (kvs.map fun kv:D×D => .tup [kv.1,kv.2]) vs->(∀ kv∈kvs,bW kv.1=true) ->
 ∃ ps:List (List Key×V),Ih (PrV H) vs ps/\Ih (fun (p:D×D) (q:List Key×V)=>RKeys p.1 q.1/\RD K H p.2 q.2) kvs ps
 | [],vs,r,_=>by rw [RDs.nil_iff.mp r];exact ⟨[], .nil, .nil⟩
 | kv::kvs,vs,r,h=>by
   rw [Hs] at r;obtain ⟨v,vr,rfl,F,G⟩:=Rw.mp r;obtain ⟨ps,h1,h2⟩:=oM G fun x hx=>h x (HF _ hx);have z:=h kv (Ie ..);obtain ⟨k,v⟩:=kv;obtain ⟨ks,j⟩:=ko z
   cases k <;> first
    | exact j.elim
    | (obtain ⟨t,us,rfl,B,ru⟩:=RL rfl F
       obtain ⟨Y,ur,rfl,J,ru⟩:=Rw.mp ru;obtain ⟨L,O,rfl,U,ru⟩:=Rw.mp ru;rw [RDs.nil_iff.mp ru] at B;obtain ⟨b,ws,rfl,hb,rw'⟩:=RL (ku z) J;rw [fH j rw'] at hb;exact ⟨(ks,L)::ps, .cons ⟨t,b,rfl,B,hb⟩ h1, .cons ⟨j,U⟩ h2⟩)
theorem oO {K:Frag} {H:Hp}:∀ {kvs:List (D×D)} {ps:List (List Key×V)} {a:List (D×D)} {b:List (List Key×V)},Ih (fun (p:D×D) (q:List Key×V)=>RKeys p.1 q.1/\RD K H p.2 q.2) kvs ps->Ih (fun (p:D×D) (q:List Key×V)=>RKeys p.1 q.1/\RD K H p.2 q.2) a b ->
 Ih (fun (p:D×D) (q:List Key×V)=>RKeys p.1 q.1/\RD K H p.2 q.2) (kvs.foldl (fun a kv=>cz a kv.1 kv.2) a) (ps.foldl (fun a kv=>bq a kv.1 kv.2) b)
 | _,_,_,_, .nil,h=>h
 | _,_,_,_, .cons r t,h=>by
   have g:=oO t (iK (RK:=RKeys) RKeys.inj RKeys.fun r.1 r.2 h);exact g
theorem qh (j:X.A.units+16 < JS) (B:X.calm=true):CallR X (.type "dict") (lR X.K sQ):=by
 refine CallR.of (jK j B) fun vs H Q h => ?_;obtain ⟨ds,M,rm,rs,a,kvs,rfl,e,F,G,q⟩:=h;obtain ⟨v,rfl,r⟩:=rs.one
 cases Ru.mp r
 obtain ⟨us,J,ru⟩:=rm _ _ e;obtain ⟨ps,h1,h2⟩:=oM ru F;refine ⟨a,us,ps,rfl,J,h1,by rw [ru.length,A0];exact G,fun p n => ?_⟩
 have st:Stab H (upd H p (.dT (bQ ps))):=(RE (M:=M) n).stab rm;exact q p (rm.out n) (.ref p) _ (Ext.lay n) (rm.lay n ⟨_,aw,Rz (oO h2 .nil) fun _ _ z=>⟨z.1,z.2.mono st⟩⟩) (Ru.mpr rfl)
end
end
end Mi
end L2
namespace L2
namespace Dk
open PySem PySem.Spec PyProof.Rows
section
variable {prog:HI} {w:Ic} {A:Ik} {E:h6->z4->Prop} {s:z4}
noncomputable def kO (d:Addr) (i n ep:Nat):Obj := { cls := .type "dict_keyiterator",data := .fields #[.ref d, .int i 0, .int n 0, .int ep 0] }
theorem slot_next:Slot "dict_keyiterator" "__next__" "dict_keyiterator.__next__" := .of (owner := "dict_keyiterator") (n := "__next__") (by rw [typeLookup_type,OM];kernel_rfl) (by decide +kernel) (by decide +kernel) (by decide +kernel) (.inl (by decide +kernel)) (by rw [Me];kernel_rfl)
theorem jL:entryFor table "dict_keyiterator.__next__" = some Jy.«dict_keyiterator.__next__» := QA (by kernel_rfl)
theorem mm (a:h6):argsOk "dict_keyiterator.__next__" ⟨[a],[]⟩:=by unfold argsOk;kernel_rfl
theorem vz {it:Addr} (ty:s.TypeIs (.ref it) "dict_keyiterator") {types:List String} {Q:Bool->z4->Prop} (q:Q (types.any fun t => [IM "dict_keyiterator",IM "object"].contains (IM t)) s):Hm (model prog w) A (Nz (.ref it) types) Q E s:=by
 have hm:=Pu;unfold Nz
 wp_walk
 exact q
theorem nx_item {it d:Addr} {i ep:Nat} {cd:h6} {dd:Option Addr} {sl:Array (Option h6)} {es:Array JT} {e:JT} {Q:Option h6->z4->Prop} (hi:s.heap.get? it=some (kO d i es.size ep)) (hd:s.heap.get? d=some { cls:=cd,dict:=dd,data := .dict es ep,slots:=sl }) (he:es[i]? = some e)
 (q:∀ h',h'.get? it=some (kO d (i+1) es.size ep)->IV it s.heap h'->Q (some e.key) { s with heap:=h' }):Hm (model prog w) A (KR (.ref it)) Q E s:=by
 have ty:s.TypeIs (.ref it) "dict_keyiterator" := ⟨_,hi,rfl⟩;unfold KR;refine gV (JA (HZ (name:=Iq "__next__") ty slot_next (Ig slot_next ty jL ?_ (mm _))));unfold Jy.«dict_keyiterator.__next__»;have hm:=Pu
 wp_walk
 dsimp only;rw [if_neg (by simp)]
 simp only [HA,he];refine gV (Jr (Q:=fun n s'=>n=0/\s'=s) ?_ (fun n s' hs => ?_) fun _ _ z=>z)
 ·wp_walk
  exact ⟨by kernel_rfl,rfl⟩
 obtain ⟨rfl,rfl⟩:=hs;refine gV (vz ty ?_);refine gV (HP hi (by simp) fun h1 e1 s1 => ?_)
 rw [if_neg (by decide +kernel)] at e1
 have e1:h1.get? it=some (kO d (i+1) es.size ep):=e1;have j:Shared.TypeIs { s' with heap:=h1 } (.ref it) "dict_keyiterator" := ⟨_,e1,rfl⟩
 refine gV (ID ?_);refine gV (vz j ?_);refine P4 (by decide +kernel) ?_
 refine q7 (q7 ⟨_,rfl,q7 ?_⟩);exact q h1 e1 s1
theorem nx_end {it d:Addr} {ep:Nat} {cd:h6} {dd:Option Addr} {sl:Array (Option h6)} {es:Array JT} {Q:Option h6->z4->Prop} (hn:A.handled=none) (hi:s.heap.get? it=some (kO d es.size es.size ep)) (hd:s.heap.get? d=some { cls:=cd,dict:=dd,data := .dict es ep,slots:=sl })
 (q:∀ h',(∀ b o,b≠it->s.heap.get? b=some o->h'.get? b=some o)->Q none { s with heap:=h' }):Hm (model prog w) A (KR (.ref it)) Q E s:=by
 have ty:s.TypeIs (.ref it) "dict_keyiterator" := ⟨_,hi,rfl⟩;unfold KR;refine gV (JA (HZ (name:=Iq "__next__") ty slot_next (Ig slot_next ty jL ?_ (mm _))));unfold Jy.«dict_keyiterator.__next__»;have hm:=Pu
 wp_walk
 dsimp only;rw [if_neg (by simp)]
 have he:es[es.size]? = none:=Mg (Hk _);simp only [HA,he];refine gV (Jr (Q:=fun n s'=>n=0/\s'=s) ?_ (fun n s' hs => ?_) fun _ _ z=>z)
 ·wp_walk
  exact ⟨by kernel_rfl,rfl⟩
 obtain ⟨rfl,rfl⟩:=hs;refine gV (HP hi (by simp) fun h1 e1 s1 => ?_)
 refine gV (m:=newExc (.type "StopIteration") []) ?_;simp only [newExc,newTuple];refine gV (IQ ?_ (by size_fits))
 refine gV (m:=Nr _ _) (Ku (a:=Kg) (by first | rfl | (simp only [Nr];rfl)) (IQ ?_ (by size_fits)))
 simp only [raiseNew];refine gV (wpAny_handled ?_)
 first | rw [show A.in1.handled=none from hn] | rw [hn]
 refine gV (q7 (QM ?_));exact gV (Jt (T := "StopIteration") (b:=true) ⟨_,D1 _ rfl,rfl⟩ Nu (q7 (q _ fun b o hb e=>hH _ (hH _ (s1.extBut b o hb e)))))
theorem it_dict {d:Addr} {es:Array JT} {ep:Nat} {dd:Option Addr} {sl:Array (Option h6)} {Q:h6->z4->Prop} (j:(d==IF)=false) (hd:s.heap.get? d=some { cls := .type "dict",dict:=dd,data := .dict es ep,slots:=sl })
 (q:Q (.ref s.heap.objs.size) { s with heap:=s.heap.push (kO d 0 es.size ep) }):Hm (model prog w) A (PH (.ref d)) Q E s:=by
 have ty:s.TypeIs (.ref d) "dict" := ⟨_,hd,rfl⟩;refine wpAny_pyIter_slot ty QB (Ig QB ty F.entry_dict_iter ?_ (F.args_dict_iter_1 _));unfold Jy.«dict.__iter__»
 wp_walk
 exact ⟨_,rfl, "dict_keyiterator",_,⟨_,D1 _ rfl,rfl⟩,slot_next.lookup,q⟩
theorem walk (hn:A.handled=none) (it d:Addr) (hne:d≠it) (es:Array JT) (ep:Nat) :
 Walks prog w A it [it,d] [it] es.size (fun i v => ∃ e,es[i]? = some e/\v=e.key) (fun i h=>h.get? it=some (kO d i es.size ep) /\ ∃ cd dd sl,h.get? d=some { cls:=cd,dict:=dd,data := .dict es ep,slots:=sl }) where
 sub:=fun b hb=>by simp at hb;simp [hb]
 frame:=fun _ _ _ st k=>⟨k it (by simp) _ st.1,by obtain ⟨cd,dd,sl,h⟩:=st.2;exact ⟨cd,dd,sl,k d (by simp) _ h⟩⟩
 item:=fun i s Q E hi st q=>by
  obtain ⟨h1,cd,dd,sl,h2⟩:=st;refine nx_item (e:=es[i]) h1 h2 (HY hi) fun h' e' s' => ?_;exact q _ h' s.toks ⟨_,HY hi,rfl⟩ ⟨e',cd,dd,sl,s'.extBut d _ hne h2⟩ fun b o hb x=>s'.extBut b o (fun z=>hb (by simp [z])) x
 done:=fun s Q E st q=>by
  obtain ⟨h1,cd,dd,sl,h2⟩:=st;exact nx_end hn h1 h2 fun h' k=>q h' s.toks fun b o hb x=>k b o (fun z=>hb (by simp [z])) x
 self:=fun i s Q E st q=>P5 ⟨_,st.1,rfl,rfl⟩ q
theorem vA {d:Addr} {Q:Bool->z4->Prop} (ty:s.TypeIs (.ref d) "dict") (q:Q false s):Hm (model prog w) A (Nh (.ref d)) Q E s:=by
 unfold Nh;refine gV (wpAny_specialOf ty F.slot_dict_len.lookup ?_);generalize j:("dict.__len__":String)=z
 (fail_if_success (clear j z));wp_delta
 rw [show splitId z=some ("dict", "__len__") from by subst j;decide +kernel]
 subst j;refine gV (Jt (b:=true) ty (by rw [Me];kernel_rfl) ?_)
 rw [if_neg (by decide)]
 refine P4 (by decide +kernel) ?_
 refine gV (K8 ty ?_);exact q7 q
open Builtin.List in
theorem xZ (hn:A.handled=none) {S d:Addr} {es:Array JT} {ep c:Nat} {dd:Option Addr} {sl:Array (Option h6)} {R:Result->z4->Prop} (res:h6) (Y:(d==IF)=false) (hd:s.heap.get? d=some { cls := .type "dict",dict:=dd,data := .dict es ep,slots:=sl }) (U:s.heap.get? S=some { cls := .type "list",data := .seq #[] c }) (hz:es.size<=Hh)
 (q:∀ (h':Heap) (tk:Nat) (acc':Array h6) (c':Nat),(∀ b o,b≠S->s.heap.get? b=some o->h'.get? b=some o)->h'.get? S=some { cls := .type "list",data := .seq acc' c' }->acc'.toList=es.toList.map (·.key)->s.toks<=tk->R (.ok (.ret res)) { s with heap:=h',toks:=tk }) :
 Hm (model prog w) A.in1 (listExtendWith (.ref S) (.ref d) res) (fun fin s'=>match fin with | .done f=>R (.ok f) s' | .again c'=>c'.quiet=true/\MA (model prog w) A c' R s') (fun e s'=>R (.error e) s') s:=by
 have ty:s.TypeIs (.ref d) "dict" := ⟨_,hd,rfl⟩;have G:S≠d:=fun e=>by rw [e,hd] at U;simp at U
 have h1:listSameRef (.ref S) (.ref d)=false:=by simp [listSameRef,G]
 unfold listExtendWith;refine gV (K8 ty ?_);rw [if_neg (by rw [h1];decide)]
 refine gV (it_dict Y hd ?_);refine gV (ID (vA (s := { s with heap:=s.heap.push (kO d 0 es.size ep) }) ⟨_,hH _ hd,rfl⟩ ?_))
 have B:=Hi U;have J:=Hi hd;have W:=(walk (prog:=prog) (w:=w) (A:=A.in1) hn s.heap.objs.size d (I0 J) es ep).toS;have Z:S∉[s.heap.objs.size,d]:=fun hm=>by
  simp only [Hg,HE,or_false] at hm
  rcases hm with e | e
  ·exact absurd (e ▸ B) (IZ _)
  ·exact G e
 refine P4 (by decide +kernel) ?_
 refine gV (IT ?_);unfold listTouch;have L:(s.heap.push (kO d 0 es.size ep)).get? S=some (Qy "list" #[] c):=hH _ U;refine gV (gV (MD L rfl ?_ (by simp) (by simp)))
 have O:=Lu L (fun x=>x.push Kg);refine MD O rfl ?_ (by simp;decide) (by simp)
 have EX:=Lu O (fun x=>x.pop);have oth:∀ b o,b≠S->s.heap.get? b=some o->(((s.heap.push (kO d 0 es.size ep)).update S (Kl fun x=>x.push Kg)).update S (Kl fun x=>x.pop)).get? b=some o:=fun b o hb e=>by
  rw [Ji _ _ _ _ hb,Ji _ _ _ _ hb];exact hH _ e
 have hit:(((s.heap.push (kO d 0 es.size ep)).update S (Kl fun x=>x.push Kg)).update S (Kl fun x=>x.pop)).get? s.heap.objs.size=some (kO d 0 es.size ep):=by
  rw [Ji _ _ _ _ (J1 B),Ji _ _ _ _ (J1 B)];exact D1 _ rfl
 refine q7 ⟨Pt F.plain_extend_loop _,codeAny_extend_loopS W hz _ Z _ es.size 0 _ _ _ rfl (J9 _) ⟨hit,_,_,_,oth d _ G.symm hd⟩ EX (ItemsOf.nil _) fun s' acc c' hm EY ha => ?_⟩;rw [hm.eq_with];refine q _ _ acc c' (fun b o hb e => ?_) EY ?_ hm.toks
 ·exact hm.heap b o (fun z=>by
   simp only [Hg,HE,or_false] at z
   rcases z with z | z
   ·exact hb z
   ·exact absurd (z ▸ Hi e) (IZ _)) (oth b o hb e)
 ·obtain ⟨g1,g2⟩:=ha;apply Kc;intro j;rw [HM,HC,HM]
  by_cases hj:j < es.size
  ·obtain ⟨e,he,hv⟩:=g2 j (acc[j]'(by lia)) (HY (by lia))
   rw [HY (by lia),hv,he];rfl
  ·rw [Mg (by lia),Mg (by lia)];rfl
theorem collect_dict (hn:A.handled=none) {d:Addr} {es:Array JT} {ep:Nat} {dd:Option Addr} {sl:Array (Option h6)} {Q:List h6->z4->Prop} (j:(d==IF)=false) (hd:s.heap.get? d=some { cls := .type "dict",dict:=dd,data := .dict es ep,slots:=sl }) (L:es.size<=Hh)
 (q:∀ (h':Heap) (tk:Nat),(∀ b o,s.heap.get? b=some o->h'.get? b=some o)->s.toks<=tk->Q (es.toList.map (·.key)) { s with heap:=h',toks:=tk }):Hm (model prog w) A (collect (.ref d)) Q E s:=by
 unfold collect;refine gV (wpAny_runValue (N1 F.entry_proto_collect ?_));unfold Jy.«proto.collect»;dsimp only;refine gV (NU ?_ (by simp))
 refine q7 ⟨Code.quiet_builtin _ (by decide +kernel), ?_⟩
 refine N1 entry_list_iadd' ?_;unfold Jy.«list.__iadd__»;refine gV (Ku (a:=(Ii s.heap.objs.size,[Ii d])) (by kernel_rfl) ?_)
 have z:(s.heap.push { cls:=IM "list",data:=MN [].toArray }).get? s.heap.objs.size=some { cls:=IM "list",data:=MN #[] 0 }:=D1 _ rfl;rw [Q0 (by rfl) (by rfl)]
 refine Jr (xZ (s := { s with heap:=s.heap.push { cls:=IM "list",data:=MN [].toArray } }) (R:=fun r s'=>r = .ok (.ret (.ref s.heap.objs.size))/\Hm (model prog w) A (do
  let o <- load s.heap.objs.size
  match o.data with
  | .seq xs _=>pure xs.toList
  | _=>unsupported "internal:collect") Q E s') hn (Ii s.heap.objs.size) j (hH _ hd) z L fun h' tk acc c' kp B O G=>⟨rfl, ?_⟩) (fun fn s' h => ?_) (fun e s' h => ?_)
 ·refine gV (wpAny_load B ?_);refine q7 ?_;rw [O];exact q h' tk (fun b o e=>kp b o (I0 (Hi e)) (hH _ e)) G
 ·cases fn with
  | done f =>
    obtain ⟨e,h⟩:=h
    cases e
    exact h
  | again c' =>
    refine ⟨h.1,LQ h.2 fun r s1 J => ?_⟩;obtain ⟨rfl,J⟩:=J;exact J
 ·cases h.1
end
end Dk
end L2
namespace L2
namespace Mi
open PySem PySem.Spec PyProof.Rows L2.Srt
noncomputable def oP:RAd:=fun ds M Q => ∃ a t kvs sh,ds=[.ref a]/\M a=some (.dct t kvs)/\iO sh=true/\(∀ kv∈kvs,hs sh kv.1=true) /\ ∀ p ys,M p=none->ys.Perm (kvs.map (·.1))->kH ys->Q (.ref p) (ah M p (.lst ys))
theorem jM:b9 oP:=fun _ _ _ _ h ⟨a,t,kvs,sh,e,e1,e2,j,q⟩=>⟨a,t,kvs,sh,e,e1,e2,j,fun p ys n z hs=>h _ _ (q p ys n z hs)⟩
theorem qK {K:Frag} {H:Hp}:∀ {kvs:List (D×D)} {es:List JT},Ih (kI K H) kvs es -> ∃ vs,RDs K H (kvs.map (·.1)) vs/\Vals vs (es.map (·.key))
 | _,_, .nil=>⟨[],RDs.nil, .nil⟩
 | _,_, .cons r t=>by
   obtain ⟨vs,h1,h2⟩:=qK t;obtain ⟨kV,vV,g1,g2,_,_⟩:=r;exact ⟨kV::vs,RDs.cons g1 h1, .cons g2 h2⟩
section
variable {X:Cx}
theorem oQ (L:X.A.units+16 < JS) (O:X.calm=true):CallR X (.builtin "sorted") (lR X.K oP):=by
 intro pins s σ H xs us Q I r h;obtain ⟨ds,M,rm,rs,a,t,kvs,sh,rfl,e,hok,j,q⟩:=h;obtain ⟨v,rfl,rv⟩:=rs.one;obtain ⟨u,rfl,ru⟩:=eJ r
 cases Ru.mp rv
 cases (show u=Ii a from ru)
 obtain ⟨cd,dd,sl,es,ep,hd,U,z,Y⟩:=AT I rm e;obtain ⟨t1,t2,B⟩:=jc I Y;obtain ⟨vs,h1,h2⟩:=qK z;have F:cd = .type "dict" := by
  obtain ⟨o,g1,g2⟩:=t1;rw [hd] at g1;cases g1;exact g2
 subst F;have hn:X.A.in1.handled=none:=I.ok.hd O;exact qg (cap:=Hh) sJ L I rm h1 hok (fun d hd=>by
  obtain ⟨kv,G,rfl⟩:=Hu.mp hd;exact j kv G) q h2 (by have:=h2.length;rw [A0] at this;simp at this;lia) (by have:=h2.length;rw [A0] at this;simp at this;lia) fun E R Z=>Dk.collect_dict hn B hd U fun h' tk kp J=>Z h' tk kp J
end
end Mi
end L2
namespace L2
open PySem PySem.Spec PyProof.Rows
section
section
variable {X:Cx} {pins:List (Addr×Obj)} {σ:St} {H:Hp} {s:z4}
theorem AY {x:V} {u:h6} {t:String} (I:Inv X pins σ H s) (rx:RelV x u) (ty:ck X.K H x (.type t)):∃ P,PySem.W.KitX X.K u (.type t) P/\P s.heap/\u≠Value.builtin "__main__.__loader__#opaque" := by
 generalize j:IM t=T at ty
 cases ty with
 | non=>cases (show u=Kg from rx);exact ⟨_,Q3,J3,fun z=>nomatch z⟩
 | bl y=>cases (show u=Oi y from rx);exact ⟨_,Q4,J3,fun z=>nomatch z⟩
 | int i=>obtain ⟨t,rfl⟩:=(show ∃ t,u=Pf i t from rx);exact ⟨_,Qo,J3,fun z=>nomatch z⟩
 | str y=>obtain ⟨t,rfl⟩:=(show ∃ t,u=Pg y t from rx);exact ⟨_,Qp,J3,fun z=>nomatch z⟩
 | flt y=>obtain ⟨t,rfl⟩:=(show ∃ t,u=QK y t from rx);exact ⟨_,PM,J3,fun z=>nomatch z⟩
 | @lst a xs ea =>
  cases (show u=Ii a from rx)
  obtain ⟨_,_,n,_,h1⟩:=(show ObjOk X.prog X.w H s.heap a (.lst xs) from I.hok a _ ea);exact ⟨_,LN,⟨_,h1,rfl⟩,fun z=>nomatch z⟩
 | @frz a ob xs ea =>
  cases (show u=Ii a from rx)
  obtain ⟨_,_,_,n,_,h1⟩:=(show ObjOk X.prog X.w H s.heap a (.frz ob (.lst xs)) from I.hok a _ ea);exact ⟨_,LN,⟨_,h1,rfl⟩,fun z=>nomatch z⟩
 | @tup a xs ea =>
  cases (show u=Ii a from rx)
  obtain ⟨_,_,⟨o,h1,h2,_⟩,_⟩:=I.tuple ea;exact ⟨_,PN,⟨o,h1,h2⟩,fun z=>nomatch z⟩
 | @dK a kvs ea =>
  cases (show u=Ii a from rx)
  obtain ⟨_,_,vs,_,o,es,ep,h1,h2,_⟩:=(show ObjOk X.prog X.w H s.heap a (.dK kvs) from I.hok a _ ea);exact ⟨_,LO,⟨o,h1,h2.1⟩,fun z=>nomatch z⟩
 | @dT a kvs ea =>
  cases (show u=Ii a from rx)
  obtain ⟨_,_,xs,_,o,es,ep,h1,h2,_⟩:=(show ObjOk X.prog X.w H s.heap a (.dT kvs) from I.hok a _ ea);exact ⟨_,LO,⟨o,h1,h2.1⟩,fun z=>nomatch z⟩
 | ins=>cases j
end
namespace Mi
section
variable {X:Cx}
theorem AZ (K:Frag) {T U:String} (q:T∈["bool", "int", "str", "tuple", "list", "dict"]) (z:U∈["bool", "int", "str", "tuple", "list", "dict"]) {t:String} (j:t∈cE):P6 K (.type t) [.type T, .type U]=some (eh T t || eh U t):=by
 have h1:=kA K T q t j;have h2:=kA K U z t j;unfold P6;rw [h1]
 cases e1:eh T t with
 | true=>rfl
 | false =>
   dsimp only;unfold P6;rw [h2]
   cases eh U t <;> rfl
theorem sR {T U:String} (z:T∈["bool", "int", "str", "tuple", "list", "dict"]) (B:U∈["bool", "int", "str", "tuple", "list", "dict"]):CallR X (.builtin "isinstance") (fun vs H Q => ∃ v t p,vs=[v, .ref p]/\H p=some (.tup [.ty T, .ty U])/\ck X.K H v (.type t)/\t∈cE/\Q (.bl (eh T t || eh U t)) H):=by
 intro pins s σ H xs us Q I r h;obtain ⟨v,t,p,rfl,F,ty,G,q⟩:=h;obtain ⟨u,c,rfl,ru,rc⟩:=mP r
 cases (show c=Ii p from rc)
 obtain ⟨P,g1,g2,g3⟩:=AY I ru ty;obtain ⟨_,its,rv,⟨cls,dd,dat,sl⟩,h1,h2,n,j⟩:=(show ObjOk X.prog X.w H s.heap p (.tup [.ty T, .ty U]) from I.hok p _ F);dsimp only at h2 j;subst h2 j
 cases rv with
 | cons J rv =>
 cases rv with
 | cons L rv =>
 cases rv
 cases J
 cases L
 exact PySem.W.kia_tup g1 I.kIn g2 h1 (AZ X.K z B G) g3 fun tk=>⟨.bl _,H,I.tok tk,rfl,q⟩
noncomputable def gx (T U:String) (ta:TEd):TEd:=fun ρ M Q=>ta ρ M fun x M1 => ∃ t,tyN M1 x=some t/\Q (.bl (eh T t || eh U t)) M1
theorem sU {T U:String} {ta:TEd} (h:ae ta):ae (gx T U ta):=fun ρ M Q Q' i q=>h _ _ _ _ (fun x z ⟨t,e,j⟩=>⟨t,e,i _ _ j⟩) q
theorem y4 {e:Expr} {ta:TEd} {T U:String} {y z:Str} {k:Nat} {p p2 j G pos:Pos} (hT:T∈["bool", "int", "str", "tuple", "list", "dict"]) (hU:U∈["bool", "int", "str", "tuple", "list", "dict"]) (m:ae ta) (he:PE X e (lE X.K ta)) (hg:Gl X "isinstance") (hm:X.mg "isinstance" = none)
 (J:Gl X y) (L:X.mg y=none) (hv:JO y=some (.type T)) (hn:y ≠ "__name__") (O:(y==("__debug__":Str))=false)
 (Y:Gl X z) (Z:X.mg z=none) (EX:JO z=some (.type U)) (EY:z ≠ "__name__") (B:(z==("__debug__":Str))=false)
 (hs:HG [e, .Tuple [.Name y p2, .Name z j] k G] X.env=(false,eval e X.env)::HG [.Tuple [.Name y p2, .Name z j] k G] X.env) :
 PE X (.Call (.Name "isinstance" p) [e, .Tuple [.Name y p2, .Name z j] k G] [] pos) (lE X.K (gx T U ta)):=by
 have h2:PE X (.Name y p2) (tC (.ty T)):=ke J L hv rfl hn O;have h3:PE X (.Name z j) (tC (.ty U)):=ke Y Z EX rfl EY B;have h4:PE X (.Tuple [.Name y p2, .Name z j] k G) _:=u7 (cT h2 (cT h3 j8 rfl) rfl);refine PE.imp (cy (sR hT hU) hg hm (by decide +kernel) (cT he (cT h4 j8 rfl) hs) (by decide) (by decide) hs rfl) fun σ H Q h => ?_
 obtain ⟨ρ,M,rs,rm,q⟩:=h;refine ⟨ρ,M,rs,rm,m _ _ _ _ (fun x M1 ⟨t,e,q1⟩ v H1 x1 rm1 EZ => ?_) q⟩;refine ⟨by simp;decide,fun pp n => ?_⟩
 have st:=(RE (M:=M1) (ho := .tup [.ty T, .ty U]) n).stab rm1;have F:=rm1.new (ho := .tup [.ty T, .ty U]) n;exact ⟨v,t,pp,rfl,aw,zg F (EZ.mono st) e,qw e,q1 _ _ (x1.trans (RE n)) F (Rx.mpr rfl)⟩
end
end Mi
end
section
section
variable {X:Cx} {pins:List (Addr×Obj)} {σ:St} {H:Hp} {s:z4}
theorem Inv.freeze (I:Inv X pins σ H s) {a:Addr} {ps:List (List Key×V)} (e:H a=some (.dT ps)):∃ o,Inv X pins σ (upd H a (.frz o (.dT ps))) s:=by
 obtain ⟨B,j,xs,pr,o,es,ep,h1,h2,F,G,J⟩:=id (I.hok a _ e);have mu:Mut (H a):=by rw [e];exact J3
 have u:Un X.fs [] H (upd H a (.frz o (.dT ps))) s.heap s.heap:=Un.write mu (.inl rfl) (fun b u _ q=>q) ⟨_,h1⟩;have ok:HOk X.prog X.w (upd H a (.frz o (.dT ps))) s.heap:=HOk.write I.hok mu (.inl rfl) (fun b u _ q=>q) ⟨_,h1⟩
  ⟨h1,(I.hok a _ e).stay (fun b u _ q=>q) (fun b q=>by rw [ak (fun z=>by subst z;rw [e] at q;cases q)];exact q) (fun b xs q=>by rw [ak (fun z=>by subst z;rw [e] at q;cases q)];exact q)⟩
 exact ⟨o,I.un (t':=s.toks) u ok⟩
end
noncomputable def Itk (n:Nat) (G:Hp->Prop) (yl:Nat->V->Hp->Prop):It:=⟨fun i H=>i < n/\G H,fun i H x H'=>H'=H/\yl i x H,fun i H=>n<=i/\G H⟩
theorem vB {P:HI} {w:Ic} {K:Frag} {tg:Expr} (a it:Addr) {cd:h6} {dd:Option Addr} {sl:Array (Option h6)} {es:Array JT} {ep:Nat} {G:Hp->Prop} {yl:Nat->V->Hp->Prop}
 (O:∀ H,G H -> ∃ u,H a=some (.frz { cls:=cd,dict:=dd,data := .dict es ep,slots:=sl } u)) (Y:∀ i H h,HOk P w H h->G H -> ∀ e,es[i]? = some e -> ∃ x,RelV x e.key/\yl i x H) :
 fD P w K tg (Itk es.size G yl) [it] it (fun i h=>i<=es.size/\h.get? it=some (Dk.kO a i es.size ep)) where
 mem:=by simp
 obj:=fun i h st b hb=>by
  have e:b=it:=by simpa using hb
  subst e;exact ⟨_,st.2,fun v z=>by cases z⟩
 keep:=fun i h h' st k=>⟨st.1,k it (by simp) _ st.2⟩
 item:=by
  intro X q hw B U i pins s σ H E I hf st j;subst q hw B;obtain ⟨hi,j⟩:=j;obtain ⟨u,F⟩:=O H j;obtain ⟨f0,f1,f2,J,f4,L⟩:=hf it (by simp)
  obtain ⟨x,rx,yx⟩:=Y i H s.heap I.hok j es[i] (HY hi);refine Dk.nx_item (e:=es[i]) st.2 (I.hok a _ F).1 (HY hi) fun h' st' sb => ?_;have Z:Inv X pins σ H { s with heap:=h' }:=I.turned (t':=s.toks) (fun b o hb e=>(sb.2 b hb).trans e) f0 f1 J f4 L
  exact ⟨_,rfl,mN (s := { s with heap:=h' }) (n := "dict_keyiterator") st' rfl rfl (by decide) ⟨x,H,Z,rx,⟨rfl,yx⟩,⟨hi,st'⟩,fun b hb=>(hf b hb).1⟩⟩
 done:=by
  intro X q hw B U i pins s σ H E I hf st j;subst q hw B;obtain ⟨hi,j⟩:=j;obtain ⟨u,F⟩:=O H j;obtain ⟨f0,f1,f2,J,f4,L⟩:=hf it (by simp)
  have e:i=es.size:=by have:=st.1;lia
  subst e;exact Dk.nx_end (I.ok.hd U) st.2 (I.hok a _ F).1 fun h' k=>⟨rfl,I.turned (t':=s.toks) (fun b o hb e=>k b o hb e) f0 f1 J f4 L⟩
 self:=fun A i s Q E st h=>P5 ⟨_,st.2,rfl,rfl⟩ h
namespace Mi
section
variable {X:Cx}
noncomputable def sV (i:Nat) (t:TSd):TSd:=fun A ρ M => ∃ a kvs, ρ[i]? = some (some (.ref a))/\((M a=some (.dct true kvs)/\t A ρ (ah M a (.fdc kvs)))∨(M a=some (.fdc kvs)/\t A ρ M))
theorem y7 {i:Nat} {t:TSd} (h:aI t):aI (sV i t):=fun a b ρ M l ⟨p,kvs,e,q⟩=>⟨p,kvs,e,q.imp (fun q=>⟨q.1,h _ _ _ _ l q.2⟩) fun q=>⟨q.1,h _ _ _ _ l q.2⟩⟩
theorem CU {st:Stmt} {i:Nat} {t:TSd} (h:PS X st (lS X.K t)):PS X st (lS X.K (sV i t)):=by
 intro pins s σ H D I ⟨ρ,M,A,rs,rm,lk,a,kvs,e,q⟩
 rcases q with ⟨m,q⟩ | ⟨m,q⟩
 ·obtain ⟨ps,j,pr⟩:=rm a _ m;obtain ⟨o,I'⟩:=I.freeze j;have sb:Stab H (upd H a (.frz o (.dT ps))):=rm.stabPut m;exact h pins s σ _ D I' ⟨ρ,ah M a (.fdc kvs),A,rs.mono sb,rm.put m ⟨o,ps,aw,Rz pr fun _ _ z=>⟨z.1,z.2.mono sb⟩⟩,lk.ext (Ext.put m),q⟩
 ·exact h pins s σ H D I ⟨ρ,M,A,rs,rm,lk,q⟩
noncomputable def jN (ta:TEd):TId:=fun ρ M R=>ta ρ M fun x M1 => ∃ a kvs,x = .ref a/\M1 a=some (.fdc kvs)/\R (kvs.map (·.1)) (fun _=>True) M1
theorem vC {ta:TEd} (h:ae ta):ce (jN ta):=fun ρ M Q Q' i q=>h _ _ _ _ (fun x z ⟨a,ds,e,e1,j⟩=>⟨a,ds,e,e1,i _ _ _ j⟩) q
theorem qL {K:Frag} {H:Hp}:∀ {kvs:List (D×D)} {es:List JT},Ih (kI K H) kvs es -> ∀ (i:Nat) (e:JT),es[i]? = some e -> ∃ (kv:D×D) (v:V),kvs[i]? = some kv/\RD K H kv.1 v/\RelV v e.key
 | _,_, .nil,_,_,h=>by simp at h
 | _,_, .cons r t,0,_,h=>by
   simp at h;subst h;obtain ⟨kV,vV,g1,g2,_,_⟩:=r;exact ⟨_,kV,rfl,g1,g2⟩
 | _,_, .cons _ t,i+1,e,h=>by
   obtain ⟨kv,v,h1,h2⟩:=qL t i e (by simpa using h)
   exact ⟨kv,v,by simpa using h1,h2⟩
theorem B3 {tg e:Expr} {ta:TEd} (m:ae ta) (he:PE X e (lE X.K ta)):PI X tg e (lI X.K (jN ta)):=by
 intro pins s σ H R I h;obtain ⟨ρ,M,rs,rm,q⟩:=h;have hq:lE X.K ta σ H (fun v H1 => ∃ a kvs B,v = .ref a/\Ext M H B H1/\RM X.K B H1/\B a=some (.fdc kvs) /\ ∀ J,fL X.K H1 (kvs.map (·.1)) (fun _=>True) J->R J H1) :=
  ⟨ρ,M,rs,rm,m _ _ _ _ (fun x B ⟨a,kvs,e,e1,O⟩ v H1 U j rd1=>by
    subst e
    cases Ru.mp rd1
    exact ⟨a,kvs,B,rfl,U,j,e1,fun J ij=>O J H1 U j ij⟩) q⟩
 refine thn (he pins s σ H _ I hq) fun u s1 ⟨x,H1,F,r1,a,kvs,B,e0,U,j,e1,O⟩ => ?_;subst e0
 cases r1
 obtain ⟨o,ps,Y,pr⟩:=j _ _ e1;obtain ⟨Z,ok⟩:=F.hok a _ Y;obtain ⟨cd,dd,sl,es,ep,g1,g2,g3⟩:=oI ok pr;obtain ⟨ty,_,EX⟩:=jc F (.inr ⟨ps, .inr ⟨o,Y⟩⟩);rw [Z] at g1
 cases g1
 have EY:cd = .type "dict" := by
  obtain ⟨o,h1,h2⟩:=ty;rw [Z] at h1;cases h1;exact h2
 subst EY;have lz:kvs.length=es.size:=by have:=b8 g3;simpa using this
 refine Dk.it_dict EX Z ?_;refine ⟨s1.heap.objs.size,[s1.heap.objs.size],_,_,H1,rfl,F.kept (t':=s1.toks) fun b o e=>hH _ e,vB (G:=fun H=>H a=some (.frz { cls := .type "dict",dict:=dd,data := .dict es ep,slots:=sl } (.dT ps))/\Ih (fun (p:D×D) (q:List Key×V)=>RKeys p.1 q.1/\RD X.K H p.2 q.2) kvs ps) (yl:=fun i x H => ∃ kv,kvs[i]? = some kv/\RD X.K H kv.1 x) a _ (fun H h=>⟨_,h.1⟩) (fun i H h hok ⟨ha,pr'⟩ e he => ?_),⟨J9 _,D1 _ rfl⟩,fun b hb => ?_,O _ ?_⟩
 ·obtain ⟨z0,ok'⟩:=hok a _ ha;obtain ⟨cd,dd,sl',es',ep',z1,_,z3⟩:=oI ok' pr';rw [z0] at z1
  cases z1
  obtain ⟨kv,v,y1,y2,y3⟩:=qL z3 i e (by simpa using he)
  exact ⟨v,y3,kv,y1,y2⟩
 ·have e:b=s1.heap.objs.size:=by simpa using hb
  subst e;exact F.fpOk (Hk _) (F.hok.fresh (Hk _))
 ·intro M' H' st rm' _ i;have L:=st.frz _ _ _ Y;have pr':Ih (fun (p:D×D) (q:List Key×V)=>RKeys p.1 q.1/\RD X.K H' p.2 q.2) kvs ps:=Rz pr fun _ _ z=>⟨z.1,z.2.mono st⟩;rw [A0,lz];refine ⟨fun hi=>⟨hi,L,pr'⟩,fun hi=>⟨⟨hi,L,pr'⟩,fun x H'' y => ?_⟩⟩;obtain ⟨e,kv,y1,y2⟩:=y;subst e;exact ⟨.inl rfl,kv.1,by rw [HC,y1];rfl,y2⟩
end
end Mi
end
section
section
variable {prog:HI} {w:Ic} {K:Type} [DecidableEq K] {knd:HeapKind prog w K} {A:Ik} {E:h6->z4->Prop} {s:z4}
noncomputable def dA (ev:h6->h6->Bool) (xb:List (K×Addr×h6)) (x:K×Addr×h6):Bool:=match OS xb x.1 with
 | some p=>ev x.2.2 p.2
 | none=>false
theorem CV {nm:String} {a b:Addr} {xa xb:List (K×Addr×h6)} {ev:h6->h6->Bool} {Q:Bool->z4->Prop} (hu:knd.room A) (ha:(a==IF)=false) (hb:(b==IF)=false)
 (da:s.heap.DictOfH knd a xa) (db:s.heap.DictOfH knd b xb) (F6:∀ x∈xa, ∀ y∈xb,PR A s x.2.2 y.2.2 (ev x.2.2 y.2.2)) (h:Q (xa.length==xb.length&&xa.all (dA ev xb)) s) :
 Hm (model prog w) A (Oz nm a b) Q E s:=by
 obtain ⟨oa,es,ep,F,_,G,EZ,F7,Fd⟩:=da;obtain ⟨ob,es',ep',L,_,O,U,F8,F1⟩:=db;have Y:xa.length=es.size:=(size_of_entries EZ).symm;have F9:xb.length=es'.size:=(size_of_entries U).symm;rw [Y,F9] at h;unfold Oz Builtin.Dict.showsAll;rw [if_neg (show ¬ (a==IF)=true by rw [ha];exact He),if_neg (show ¬ (b==IF)=true by rw [hb];exact He)]
 refine gV (q7 (gV (q7 ?_)));refine gV (Mh F G ?_);dsimp only;refine gV (Mh L O ?_)
 by_cases hsz:es.size=es'.size
 case neg =>
  rw [if_pos (by simpa using hsz)]
  have Fa:(es.size==es'.size)=false:=by simpa using hsz
  rw [Fa,Nk] at h;exact gV (IT (q7 h))
 case pos =>
  have h':Q (xa.all (dA ev xb)) s:=by simpa [hsz] using h
  rw [if_neg (by rw [hsz];simp)]
  refine gV (wpAny_dictEpoch F G ?_);refine gV ?_;rw [Std.Legacy.Range.forIn_eq_forIn_range'];simp only [Std.Legacy.Range.size,Nat.sub_zero,PZ,Nat.div_one];refine wpAny_forIn_list _
   (fun rest q s'=>s'=s/\q=(none,()) /\ ∃ i,rest=List.range' i (es.size - i)/\i<=es.size/\xa.all (dA ev xb)=(xa.drop i).all (dA ev xb))
   _ ?_ ?_ _ _ ⟨rfl,rfl,0,by simp,J9 _,by simp⟩
  ·rintro x rest q s' ⟨rfl,rfl,i,Z,hi,z⟩;have F5:i < es.size:=by
    rcases Nat.lt_or_ge i es.size with h | h
    ·exact h
    ·rw [Nat.sub_eq_zero_of_le h] at Z;simp at Z
   obtain ⟨rfl,EX⟩:x=i/\rest=List.range' (i+1) (es.size - (i+1)):=by
    have e:es.size - i=(es.size - (i+1))+1:=by lia
    rw [e,QC] at Z
    injection Z with h1 h2
    exact ⟨h1,h2⟩
   have B:x < xa.length:=by rw [Y];exact F5
   refine gV (Mh F G ?_);rw [entry_at EZ x,A2 B];have EY:xa.drop x=xa[x]::xa.drop (x+1):=IG B;have J:xa[x]∈xa:=Mv B;rw [EY,Jv] at z;show Hm _ _ (holding [_,_] _ >>= _) _ _ _;refine gV (ID (gV (wpAny_dictFind_heap (k:=xa[x].1) (a:=xa[x].2.1) hu (F7 _ J) L O U F8 F1 (fun Fb => ?_) (fun j p hj => ?_))))
   ·have hn:dA ev xb xa[x]=false:=by unfold dA;rw [atKey_none_of_get Fb]
    rw [z,hn,Nk] at h';refine q7 ?_;show Hm _ _ (if (!false)=true then _ else _) _ _ _
    rw [if_pos (by decide)]
    exact q7 (q7 h')
   ·have hn:dA ev xb xa[x]=ev xa[x].2.2 p.2:=by unfold dA;rw [atKey_of_get F1 hj]
    refine gV (Mh L O ?_);rw [entry_at U j,hj];refine ID (F6 _ J _ (HN hj) prog w _ _ ?_);show Hm _ _ (if (!(ev xa[x].2.2 p.2))=true then _ else _) _ _ _
    rw [hn] at z
    cases e:ev xa[x].2.2 p.2 with
    | false =>
      rw [e,Nk] at z;rw [z] at h';rw [if_pos (by decide)]
      exact q7 (q7 h')
    | true =>
      rw [e,Bool.true_and] at z;rw [if_neg (by decide)]
      refine gV (wpAny_dictEpoch F G ?_);rw [if_neg (by simp)]
      exact q7 ⟨rfl,rfl,x+1,EX,F5,z⟩
  ·rintro q s' ⟨rfl,rfl,i,Z,hi,z⟩;have Fc:i=es.size:=by
    rcases Nat.lt_or_ge i es.size with h | h
    ·have e:es.size - i=(es.size - (i+1))+1:=by lia
     rw [e,QC] at Z;exact nomatch Z
    ·exact Nat.le_antisymm hi h
   refine q7 ?_;rw [Fc, <- Y,Oc] at z;rw [z] at h';exact h'
theorem E9 {a b:Addr} {xa xb:List (K×Addr×h6)} {ev:h6->h6->Bool} {Q:h6->z4->Prop} (q:A.units < JS) (z:knd.room A.in1) (B:(a==IF)=false) (hb:(b==IF)=false)
 (da:s.heap.DictOfH knd a xa) (db:s.heap.DictOfH knd b xb) (j:∀ x∈xa, ∀ y∈xb,PR A.in1 s x.2.2 y.2.2 (ev x.2.2 y.2.2)) (h:Q (.bool (!(xa.length==xb.length&&xa.all (dA ev xb)))) s) :
 Hm (model prog w) A (J6 .NotEq (.ref a) (.ref b)) Q E s:=by
 refine Nf (op := .NotEq) da.typeIs db.typeIs P7 (Ig P7 da.typeIs PySem.F.entry_dict_ne ?_ (PySem.F.args_dict_ne_2 _ _)) q;show Hm _ _ (NI "__ne__" ⟨[.ref a, .ref b],[]⟩ >>= _) _ _ s;refine gV ?_;unfold NI;refine gV (wpAny_notOrdered_dict da.typeIs ?_);show Hm _ _ (pure (Ii a,Ii b)) _ _ s;refine q7 ?_;refine gV (Jt (T := "dict") db.typeIs PySem.F.sub_dict_dict ?_);simp only [Bool.not_true,J4,if_false];refine gV (q7 (gV (q7 ?_)));refine gV (CV z B hb da db j ?_);refine q7 ⟨_,rfl, ?_, ?_⟩
 ·exact fun x=>nomatch x
 ·simpa using h
end
namespace Mi
section
variable {X:Cx}
def dI (M:Mem) (a:Addr) (kvs:List (D×D)):Prop:=(M a=some (.dct true kvs)∨M a=some (.fdc kvs)) /\ ∀ kv∈kvs, ∃ i,kv.2 = .int i
noncomputable def eqD (ps qs:List (D×D)):Bool:=ps.length==qs.length&&ps.all fun kv=>decide (dget qs kv.1=some kv.2)
noncomputable def sW:R2d:=fun x y M Q => ∃ a b ps qs,x = .ref a/\y = .ref b/\dI M a ps/\dI M b qs/\Q (.bl (!eqD ps qs)) M
theorem y8:aJ sW:=fun _ _ _ _ _ h ⟨a,b,ps,qs,e1,e2,j,z,q⟩=>⟨a,b,ps,qs,e1,e2,j,z,h _ _ q⟩
noncomputable def evI:h6->h6->Bool
 | .int i _, .int j _=>i==j
 | _,_=>false
theorem dI.at {K:Frag} {M:Mem} {H:Hp} {a:Addr} {kvs:List (D×D)} (rm:RM K M H) (h:dI M a kvs):∃ ps,Rd H a (.dT ps)/\Ih (fun (p:D×D) (q:List Key×V)=>RKeys p.1 q.1/\RD K H p.2 q.2) kvs ps:=by
 rcases h.1 with e | e
 ·obtain ⟨ps,j,pr⟩:=rm a _ e;exact ⟨ps, .inl j,pr⟩
 ·obtain ⟨o,ps,j,pr⟩:=rm a _ e;exact ⟨ps, .inr ⟨o,j⟩,pr⟩
theorem oR {K:Frag} {H:Hp} {kvs:List (D×D)} {ps:List (List Key×V)} {xs:List (List Key×Addr×h6)} (pr:Ih (fun (p:D×D) (q:List Key×V)=>RKeys p.1 q.1/\RD K H p.2 q.2) kvs ps) (kt:KT H ps xs) (hi:∀ kv∈kvs, ∃ i,kv.2 = .int i):∀ x∈xs, ∃ i t,x.2.2 = .int i t:=by
 induction pr generalizing xs with
 | nil=>cases kt;intro x hx;exact nomatch hx
 | @cons p q ps qs h t ih =>
  cases kt with
  | cons g gt =>
    intro x hx
    rcases Hg.mp hx with e | hx
    ·subst e;obtain ⟨i,ei⟩:=hi p (by simp)
     have:=h.2;rw [ei] at this;have z:=g.2.2;rw [Rt.mp this] at z;obtain ⟨t,B⟩:=z;exact ⟨i,t,B⟩
    ·exact ih gt (fun kv j=>hi kv (by simp [j])) x hx
theorem CW {K:Frag} {H:Hp} {kvs:List (D×D)} {ps:List (List Key×V)} {xs:List (List Key×Addr×h6)} (pr:Ih (fun (p:D×D) (q:List Key×V)=>RKeys p.1 q.1/\RD K H p.2 q.2) kvs ps) (kt:KT H ps xs) (hi:∀ kv∈kvs, ∃ i,kv.2 = .int i)
 {k:D} {q:List Key} (G:RKeys k q) (i:Int) (t:Tok) (b:Addr):dA evI xs (q,b, .int i t)=decide (dget kvs k=some (.int i)):=by
 obtain ⟨g1,g2⟩:=fI (RK:=RKeys) RKeys.inj RKeys.fun G pr;have B:=KT.val kt q;unfold dA;dsimp only
 cases e:dget kvs k with
 | none =>
   rw [g2 e] at B
   cases z:OS xs q with
   | none=>simp
   | some p=>rw [z] at B;exact B.elim
 | some d =>
   obtain ⟨v,e1,e2⟩:=g1 d e;rw [e1] at B
   cases z:OS xs q with
   | none=>rw [z] at B;exact B.elim
   | some p =>
     rw [z] at B;obtain ⟨j,ej⟩:∃ j,d = .int j:=by
      unfold dget at e;obtain ⟨kv,h1,h2⟩:=KA.mp e;obtain ⟨j,J⟩:=hi kv (List.mem_of_find?_eq_some h1);exact ⟨j,by rw [<- h2];exact J⟩
     subst ej
     cases Rt.mp e2
     obtain ⟨t',L⟩:∃ t',p.2 = .int j t':=B;dsimp only;rw [L];show (i==j)=decide (some (D.int j)=some (D.int i))
     by_cases hij:i=j
     ·subst hij;simp
     ·have F : ¬ j=i:=fun z=>hij z.symm;simp [hij,F]
theorem CY {K:Frag} {H:Hp} {kvs ls:List (D×D)} {ps us:List (List Key×V)} {xs ys:List (List Key×Addr×h6)} (pr:Ih (fun (p:D×D) (q:List Key×V)=>RKeys p.1 q.1/\RD K H p.2 q.2) kvs ps) (kt:KT H ps xs) (hi:∀ kv∈kvs, ∃ i,kv.2 = .int i)
 (pr':Ih (fun (p:D×D) (q:List Key×V)=>RKeys p.1 q.1/\RD K H p.2 q.2) ls us) (kt':KT H us ys) (j:∀ kv∈ls, ∃ i,kv.2 = .int i) :
 (xs.length==ys.length&&xs.all (dA evI ys))=eqD kvs ls:=by
 have l1:xs.length=kvs.length:=by rw [b8 pr,b8 kt]
 have l2:ys.length=ls.length:=by rw [b8 pr',b8 kt']
 unfold eqD;rw [l1,l2];congr 1;clear l1 l2
 induction pr generalizing xs with
 | nil=>cases kt;rfl
 | @cons p q ps qs h t ih =>
  cases kt with
  | @cons _ x _ xs g gt =>
   rw [Jv,Jv,ih gt (fun kv B=>hi kv (by simp [B]))]
   congr 1;obtain ⟨i,ei⟩:=hi p (by simp)
   have:=h.2;rw [ei] at this;have z:=g.2.2;rw [Rt.mp this] at z;obtain ⟨t,F⟩:∃ t',x.2.2 = .int i t':=z;obtain ⟨J,G,L⟩:=x;dsimp only at F g;subst F;rw [ei, <- g.1];exact CW pr' kt' j h.1 i t G
theorem y9 {pins:List (Addr×Obj)} {σ:St} {H:Hp} {s:z4} {M:Mem} {A:Ik} {E:h6->z4->Prop} {Q:h6->z4->Prop} {ps qs:List (D×D)} {a b:Addr} (J:A.units+2 < JS) (I:Inv X pins σ H s) (rm:RM X.K M H) (h1:dI M a ps) (h2:dI M b qs) (h:Q (.bool (!eqD ps qs)) s):Hm (model X.prog X.w) A (J6 .NotEq (.ref a) (.ref b)) Q E s:=by
 obtain ⟨us,z,pr⟩:=h1.at rm;obtain ⟨vs,q,pr'⟩:=h2.at rm;obtain ⟨_,sm,xs,kt,dd⟩:=gO I.hok z;obtain ⟨_,sm',ys,kt',dd'⟩:=gO I.hok q;have B:=oR pr kt h1.2;have F:=oR pr' kt' h2.2;refine E9 (ev:=evI) (by lia) (KD (by lia)) sm sm' dd dd' (fun x hx y G => ?_) (by rw [CY pr kt h1.2 pr' kt' h2.2];exact h)
 obtain ⟨i,t,e⟩:=B x hx;obtain ⟨j,u,e'⟩:=F y G;rw [e,e'];exact PU i t j u
theorem ya (j:X.A.units+2 < JS):OpR X (J6 .NotEq) (l2 X.K sW):=by
 intro pins s σ H x y v u Q I rx ry h;obtain ⟨x',y',M,rm,rdx,rdy,a,b,ps,qs,rfl,rfl,h1,h2,q⟩:=h
 cases Ru.mp rdx
 cases Ru.mp rdy
 cases rx
 cases ry
 exact y9 j I rm h1 h2 ⟨.bl (!eqD ps qs),H,I,rfl,q _ H Ext.refl rm (Rx.mpr rfl)⟩
end
end Mi
end
section
section
variable {X:Cx}
noncomputable def qM:V->List V->Hp->VK->Prop:=fun x vs H Q => ∃ (l:Addr) (xs:List V) (i:Int) (y:V),x = .ref l/\vs=[.int i,y]/\H l=some (.lst xs)/\0<=i/\i.toNat<=xs.length/\xs.length < Hh/\Q .non (upd H l (.lst (xs.take i.toNat++y::xs.drop i.toNat)))
theorem RQ:∀ {xs:List V} {us:List h6} (n:Nat),Vals xs us->Vals (xs.take n) (us.take n)
 | _,_,0,_=>by simp only [List.take_zero];exact .nil
 | _,_,_+1, .nil => .nil
 | _,_,n+1, .cons r t => .cons r (RQ n t)
theorem RP:∀ {xs:List V} {us:List h6} (n:Nat),Vals xs us->Vals (xs.drop n) (us.drop n)
 | _,_,0,r=>r
 | _,_,_+1, .nil => .nil
 | _,_,n+1, .cons _ t=>RP n t
theorem vD:MtM X "list.insert" qM:=by
 intro pins s σ H x vs v us Q I rx rv h;obtain ⟨l,xs,i,y,rfl,rfl,G,h0,L,J,q⟩:=h
 cases rx
 obtain ⟨u,j,rfl,ru,B⟩:=mP rv;obtain ⟨t,rfl⟩:=ru;obtain ⟨z,its,n,r,O,e⟩:=I.lstM G;have hf : ¬(!Builtin.List.listFitsIndex i)=true:=by
  have:NA i=true:=by
   unfold NA;rw [B2] at J;rw [tv];exact ⟨decide_eq_true (by lia),decide_eq_true (by lia)⟩
  rw [this];decide
 have hs:its.toArray.size<=Hh:=by rw [Hj];lia
 have mt:=PySem.AutoSeq1.list_insert_list_int_val_1 l its.toArray n i t j hf hs;refine Lv NW ⟨_,e,rfl⟩ PySem.F.entry_list_insert (PySem.F.args_list_insert_3 _ _ _) mt ⟨e, ?_⟩;refine ⟨.non,_,I.lset (its':=its.take i.toNat++j::its.drop i.toNat) G e ?_ ((RQ i.toNat r).append (.cons B (RP i.toNat r))) ?_,rfl,q⟩
 ·have hm:(if i < 0 then (i+(its.toArray.size:Int)).toNat else min i.toNat its.toArray.size)=i.toNat:=by
   rw [if_neg (by lia),Hj];lia
  show (its.toArray.extract 0 (if i < 0 then (i+(its.toArray.size:Int)).toNat else min i.toNat its.toArray.size)).push j++its.toArray.extract (if i < 0 then (i+(its.toArray.size:Int)).toNat else min i.toNat its.toArray.size)=_
  rw [hm];apply Array.ext';simp only [List.extract_toArray,List.push_toArray,List.append_toArray];simp [KG]
 ·rw [A1,HS,Hz,J8];lia
end
namespace Mi
noncomputable def kJ:D->List D->Mem->QD->Prop:=fun x ds M Q => ∃ (a:Addr) (xs:List D) (i:Int) (y:D),x = .ref a/\ds=[.int i,y]/\M a=some (.lst xs)/\0<=i/\i.toNat<=xs.length/\xs.length < Hh/\Q .non (ah M a (.lst (xs.take i.toNat++y::xs.drop i.toNat)))
theorem ir:dJ kJ:=fun _ _ _ _ _ h ⟨a,xs,k,y,e1,e2,j,B,z,F,q⟩=>⟨a,xs,k,y,e1,e2,j,B,z,F,h _ _ q⟩
theorem yb {K:Frag} (v:V) (vs:List V) (H:Hp) (Q:VK) (h:lMt K kJ v vs H Q):qM v vs H Q:=by
 obtain ⟨x,ds,M,rm,rx,rs,a,xs,i,y,rfl,rfl,e,j,z,B,q⟩:=h
 cases Ru.mp rx
 obtain ⟨J,w,rfl,F,rw'⟩:=rs.two
 cases Rt.mp F
 obtain ⟨us,G,ru⟩:=rm _ _ e;exact ⟨a,us,i,w,rfl,rfl,G,j,by rw [ru.length];exact z,by rw [ru.length];exact B,gS rm e ((ru.take i.toNat).append (RDs.cons rw' (ru.drop i.toNat))) (RB.mpr rfl) q⟩
end Mi
end
end L2
namespace L2
namespace Mi
open PySem PySem.Spec PyProof.Rows
section
section
variable {X:Cx}
noncomputable def yc:R2d
 | .int i,y,M,Q => ∃ ns:List Int,ar M y=some (ns.map .int)/\Q (.bl (decide (i∈ns))) M
 | _,_,_,_=>False
theorem yd:aJ yc:=by
 intro x y M Q Q' h q
 cases x <;> first
  | exact q.elim
  | (obtain ⟨ns,e,q⟩:=q;exact ⟨ns,e,h _ _ q⟩)
theorem oS {i:Int}:∀ ns:List Int,inV (.int i) (ns.map V.int)=decide (i∈ns)
 | [] => by simp [inV]
 | n::ns=>by
   have ih:=oS (i:=i) ns;unfold inV at ih ⊢;rw [Hs,Jw,ih];show (n==i || decide (i∈ns))=_
   by_cases h:n=i
   ·subst h;simp
   ·rw [show (n==i)=false by simpa using h]
    simp only [MB,Hg];exact decide_eq_decide.mpr ⟨.inr,fun z=>z.resolve_left fun w=>h w.symm⟩
theorem ye:OpR X (J6 .In) (l2 X.K yc):=by
 refine OpR.of ub fun v u H Q h => ?_;obtain ⟨x,y,M,rm,rx,ry,q⟩:=h
 cases x <;> first
  | exact q.elim
  | skip
 case int i =>
  obtain ⟨ns,e,q⟩:=q;obtain ⟨p,vs,rfl,hs,r⟩:=nM rm ry e;have rv:=r.ints_eq;subst rv
  cases Rt.mp rx
  refine ⟨p,_,rfl,hs,rfl, ?_, ?_⟩
  ·simp [dD]
  ·rw [if_neg He,oS];exact q _ H Ext.refl rm (Rx.mpr rfl)
end
end
end Mi
end L2
namespace L2
namespace It
open PySem PySem.Spec PyProof.Rows
end It
open PySem PySem.Spec PyProof.Rows
namespace Mi
end Mi
end L2
namespace L2
open PySem PySem.Spec PyProof.Rows
namespace Mi
end Mi
end L2
namespace L2
open PySem PySem.Spec PyProof.Rows
namespace Mi
open L2.Srt
end Mi
end L2
namespace L2
open PySem PySem.Spec PyProof.Rows
end L2
namespace L2
namespace Mi
open PySem PySem.Spec PyProof.Rows
end Mi
end L2
namespace L2
open PySem PySem.Spec PyProof.Rows
namespace Mi
end Mi
end L2
namespace L2
namespace Mi
open PySem PySem.Spec PyProof.Rows
section
mutual
noncomputable def GV (K:Frag):D->h6->Prop
 | .int i,v => ∃ t,v = .int i t
 | .str x,v => ∃ t,v = .str x t
 | .tup ds,v => ∃ a o its n,v = .ref a/\K.lookup a=some o/\o.cls = .type "tuple" /\ o.data = .seq its n/\its.size<=Hh/\fk ds=false/\GVs K ds its.toList
 | _,_=>False
noncomputable def GVs (K:Frag):List D->List h6->Prop
 | [],us=>us=[]
 | d::ds,us => ∃ u r,us=u::r/\GV K d u/\GVs K ds r
end
end
section
inductive BOp where | add | sub | mul | fdiv | mod | pow
inductive COp where | eq | ne | lt | gt | ge | neD | inS
inductive BF where | len | abs | min2 | int | list | tuple | all | dict | sortk
inductive MF where | append
inductive MF0 where | clear | reverse
mutual
inductive MG where
 | name (i:Nat)
 | tup (gs:MGs)
inductive MGs where
 | nil
 | cons (g:MG) (r:MGs)
end
mutual
inductive ME where
 | var (i:Nat)
 | int (i:Int)
 | bl (b:Bool)
 | non
 | bin (op:BOp) (a b:ME)
 | neg (a:ME)
 | cmp (op:COp) (a b:ME)
 | and (es:MEs)
 | or (es:MEs)
 | not (a:ME)
 | ite (c:MT) (a b:ME)
 | tup (es:MEs)
 | lst (es:MEs)
 | ix (a b:ME)
 | sl (a:ME) (lo hi:MO)
 | call (f:Nat) (es:MEs)
 | blt (f:BF) (es:MEs)
 | isin (a:ME) (T:String)
 | isin2 (a:ME) (T U:String)
 | lrng (a:ME)
 | dnew (t:Bool)
 | dget (o k x:ME)
 | meth (m:MF) (o a:ME)
 | meth0 (m:MF0) (o:ME)
 | ins (o i a:ME)
 | comp (fr:List (Option Nat)) (N:List Str) (c:MC)
inductive MEs where
 | nil
 | cons (e:ME) (r:MEs)
inductive MO where
 | none
 | some (e:ME)
inductive MT where
 | tru (e:ME)
 | cmp (op:COp) (a b:ME)
 | and (ts:MTs)
 | or (ts:MTs)
 | not (t:MT)
inductive MTs where
 | nil
 | cons (t:MT) (r:MTs)
inductive MI where
 | seq (e:ME)
 | rng1 (a:ME)
 | zip (a b:ME)
 | zip3 (a b c:ME)
 | enum (a:ME)
 | keys (a:ME)
inductive MC where
 | last (src:MI) (g:MG) (ifs:MTs) (elt:ME)
 | more (src:MI) (g:MG) (ifs:MTs) (rest:MC)
end
mutual
inductive MS where
 | asg (g:MG) (e:ME)
 | par (i j:Nat) (a b:ME)
 | par3 (i j l:Nat) (a b c:ME)
 | put (o i e:ME)
 | augI (o i:ME) (op:BOp) (e:ME)
 | drop (e:ME)
 | ret (e:ME)
 | ite (c:MT) (a b:MSs)
 | for (g:MG) (src:MI) (b:MSs)
 | while (c:MT) (b:MSs)
 | frz (i:Nat) (s:MS)
 | pass | brk | cnt
inductive MSs where
 | nil
 | cons (s:MS) (r:MSs)
end
noncomputable def opB:BOp->R2d
 | .add=>iD | .sub=>ky | .mul=>gi | .fdiv=>jj | .mod=>nF | .pow=>sk
noncomputable def opC:COp->R2d
 | .eq=>wEq | .ne=>wNe | .lt=>wLt| .gt=>wGt | .ge=>wGe| .neD=>sW| .inS=>yc
noncomputable def opF:BF->RAd
 | .len=>fJ | .abs=>nI| .min2=>mU | .int=>nJ | .list=>sv | .tuple=>nN| .all=>sF| .dict=>sQ | .sortk=>oP
noncomputable def opM:MF->D->List D->Mem->QD->Prop
 | .append=>kC
noncomputable def sX:MF0->D->List D->Mem->QD->Prop
 | .clear=>nU | .reverse=>iG
noncomputable def opI:BOp->R2d
 | .add=>mV | .sub=>mW | .mul=>mX | _=>fun _ _ _ _=>False
theorem oT:∀ o,aJ (opB o)
 | .add=>xq | .sub=>xr | .mul=>xt | .fdiv=>uC | .mod=>xu | .pow=>xv
theorem fR:∀ o,aJ (opC o)
 | .eq=>Ai | .ne=>Aj | .lt=>Am| .gt=>An | .ge=>Ao| .neD=>y8| .inS=>yd
theorem yf:∀ o,b9 (opF o)
 | .len=>nH | .abs=>nK| .min2=>lB | .int=>nL | .list=>lD | .tuple=>jm| .all=>ot| .dict=>mj | .sortk=>jM
theorem yg:∀ o,dJ (opM o)
 | .append=>im
theorem vE:∀ o,dJ (sX o)
 | .clear=>jv | .reverse=>gj
theorem yh:∀ o,aJ (opI o)
 | .add=>lN | .sub=>lP | .mul=>lQ
 | .fdiv=>fun _ _ _ _ _ _ q=>q.elim | .mod=>fun _ _ _ _ _ _ q=>q.elim | .pow=>fun _ _ _ _ _ _ q=>q.elim
noncomputable abbrev Phi:=Nat->RAd
mutual
noncomputable def bG:MG->BT
 | .name i=>aQ i
 | .tup gs=>kD (bGs gs)
noncomputable def bGs:MGs->BTs
 | .nil=>dz
 | .cons g r=>aX (bG g) (bGs r)
end
mutual
noncomputable def wE (Φ:Phi):ME->TEd
 | .var i=>bu i
 | .int i=>wC (.int i)
 | .bl b=>wC (.bl b)
 | .non=>wC .non
 | .bin op a b=>wOp (opB op) (wE Φ a) (wE Φ b)
 | .neg a=>wUn sn (wE Φ a)
 | .cmp op a b=>wOp (opC op) (wE Φ a) (wE Φ b)
 | .and es=>wAnds Φ es
 | .or es=>wOrs Φ es
 | .not a=>jr (wE Φ a)
 | .ite c a b=>wIf (wT Φ c) (wE Φ a) (wE Φ b)
 | .tup es=>wAr nC (wA Φ es)
 | .lst es=>wAr nD (wA Φ es)
 | .ix a b=>wOp wIx (wE Φ a) (wE Φ b)
 | .sl a lo hi=>wSl (wE Φ a) (wO Φ lo) (wO Φ hi)
 | .call f es=>wAr (Φ f) (wA Φ es)
 | .blt f es=>wAr (opF f) (wA Φ es)
 | .isin a T=>ju T (wE Φ a)
 | .isin2 a T U=>gx T U (wE Φ a)
 | .lrng a=>ji (wE Φ a)
 | .dnew t=>jD t
 | .dget o k x=>jI (wE Φ o) (wE Φ k) (wE Φ x)
 | .meth m o a=>wBM (opM m) (wE Φ o) (ax (wE Φ a) bv)
 | .meth0 m o=>wBM (sX m) (wE Φ o) bv
 | .ins o i a=>wBM kJ (wE Φ o) (ax (wE Φ i) (ax (wE Φ a) bv))
 | .comp fr _ c=>wCmp Φ fr c
noncomputable def wA (Φ:Phi):MEs->TAd
 | .nil=>bv
 | .cons e r=>ax (wE Φ e) (wA Φ r)
noncomputable def wAnds (Φ:Phi):MEs->TEd
 | .nil=>fun _ _ _=>False
 | .cons e .nil=>wE Φ e
 | .cons e (.cons f r)=>jq (wE Φ e) (wAnds Φ (.cons f r))
noncomputable def wOrs (Φ:Phi):MEs->TEd
 | .nil=>fun _ _ _=>False
 | .cons e .nil=>wE Φ e
 | .cons e (.cons f r)=>nR (wE Φ e) (wOrs Φ (.cons f r))
noncomputable def wO (Φ:Phi):MO->TOd
 | .none=>eX
 | .some e=>jt (wE Φ e)
noncomputable def wT (Φ:Phi):MT->TTd
 | .tru e=>nP (wE Φ e)
 | .cmp op a b=>iB (wOp (opC op) (wE Φ a) (wE Φ b))
 | .and ts=>wAndTs Φ ts
 | .or ts=>wOrTs Φ ts
 | .not t=>jn (wT Φ t)
noncomputable def wAndTs (Φ:Phi):MTs->TTd
 | .nil=>fun _ _ _=>False
 | .cons e .nil=>wT Φ e
 | .cons e (.cons f r)=>jo (wT Φ e) (wAndTs Φ (.cons f r))
noncomputable def wOrTs (Φ:Phi):MTs->TTd
 | .nil=>fun _ _ _=>False
 | .cons e .nil=>wT Φ e
 | .cons e (.cons f r)=>nQ (wT Φ e) (wOrTs Φ (.cons f r))
noncomputable def wTl (Φ:Phi):MTs->List TTd
 | .nil => []
 | .cons t r=>wT Φ t::wTl Φ r
noncomputable def wI (Φ:Phi):MI->TId
 | .seq e=>kE (wE Φ e)
 | .rng1 a=>jw (ax (wE Φ a) bv)
 | .zip a b=>nV (wE Φ a) (wE Φ b)
 | .zip3 a b c=>jx (wE Φ a) (wE Φ b) (wE Φ c)
 | .enum a=>jy (wE Φ a)
 | .keys a=>jN (wE Φ a)
noncomputable def wCl (Φ:Phi):MC->TCd
 | .last src g ifs elt=>cU (wI Φ src) (bG g) (bw (wTl Φ ifs) (ci (wE Φ elt)))
 | .more src g ifs rest=>cU (wI Φ src) (bG g) (bw (wTl Φ ifs) (wCl Φ rest))
noncomputable def wCmp (Φ:Phi) (fr:List (Option Nat)):MC->TEd
 | .last src g ifs elt=>gU fr (wI Φ src) (bG g) (bw (wTl Φ ifs) (ci (wE Φ elt)))
 | .more src g ifs rest=>gU fr (wI Φ src) (bG g) (bw (wTl Φ ifs) (wCl Φ rest))
end
mutual
noncomputable def wS (Φ:Phi):MS->TSd
 | .asg g e=>iI (wE Φ e) (bG g)
 | .par i j a b=>iJ (ax (wE Φ a) (ax (wE Φ b) bv)) (aX (aQ i) (aX (aQ j) dz))
 | .par3 i j l a b c=>iJ (ax (wE Φ a) (ax (wE Φ b) (ax (wE Φ c) bv))) (aX (aQ i) (aX (aQ j) (aX (aQ l) dz)))
 | .put o i e=>oh (wE Φ e) (wE Φ o) (wE Φ i)
 | .augI o i op e=>jC (wE Φ o) (wE Φ i) (wE Φ e) (opI op)
 | .drop e=>jB (wE Φ e)
 | .ret e=>nY (wE Φ e)
 | .ite c a b=>sIf (wT Φ c) (wSs Φ a) (wSs Φ b)
 | .for g src b=>nZ (wI Φ src) (bG g) (wSs Φ b)
 | .while c b=>gp (wT Φ c) (wSs Φ b)
 | .frz i s=>sV i (wS Φ s)
 | .pass=>gW
 | .brk=>gn
 | .cnt=>jA
noncomputable def wSs (Φ:Phi):MSs->TSd
 | .nil=>gW
 | .cons s r=>nX (wS Φ s) (wSs Φ r)
end
section
variable {Φ:Phi} (hΦ:∀ f,b9 (Φ f))
include hΦ
mutual
theorem mE:∀ m,ae (wE Φ m)
 | .var _=>xk
 | .int _=>nB
 | .bl _=>nB
 | .non=>nB
 | .bin op a b=>eW (oT op) (mE a) (mE b)
 | .neg a=>Ad nG (mE a)
 | .cmp op a b=>eW (fR op) (mE a) (mE b)
 | .and es=>mAnds es
 | .or es=>mOrs es
 | .not a=>uI (mE a)
 | .ite c a b=>Av (mT c) (mE a) (mE b)
 | .tup es=>gQ ut (mA es)
 | .lst es=>gQ uu (mA es)
 | .ix a b=>eW qu (mE a) (mE b)
 | .sl a lo hi=>Ay (mE a) (mO lo) (mO hi)
 | .call f es=>gQ (hΦ f) (mA es)
 | .blt f es=>gQ (yf f) (mA es)
 | .isin a T=>uL (mE a)
 | .isin2 a T U=>sU (mE a)
 | .lrng a=>uw (mE a)
 | .dnew _=>vc
 | .dget o k x=>vy (mE o) (mE k) (mE x)
 | .meth m o a=>kB (yg m) (mE o) (aj (mE a) aq)
 | .meth0 m o=>kB (vE m) (mE o) aq
 | .ins o i a=>kB ir (mE o) (aj (mE i) (aj (mE a) aq))
 | .comp fr _ c=>mCmp fr c
theorem mA:∀ m,bp (wA Φ m)
 | .nil=>aq
 | .cons e r=>aj (mE e) (mA r)
theorem mAnds:∀ m,ae (wAnds Φ m)
 | .nil=>fun _ _ _ _ _ q=>q.elim
 | .cons e .nil=>mE e
 | .cons e (.cons f r)=>uH (mE e) (mAnds (.cons f r))
theorem mOrs:∀ m,ae (wOrs Φ m)
 | .nil=>fun _ _ _ _ _ q=>q.elim
 | .cons e .nil=>mE e
 | .cons e (.cons f r)=>xH (mE e) (mOrs (.cons f r))
theorem mO:∀ m,fK (wO Φ m)
 | .none=>qb
 | .some e=>uK (mE e)
theorem mT:∀ m,aH (wT Φ m)
 | .tru e=>xF (mE e)
 | .cmp op a b=>xm (eW (fR op) (mE a) (mE b))
 | .and ts=>mAndTs ts
 | .or ts=>mOrTs ts
 | .not t=>uF (mT t)
theorem mAndTs:∀ m,aH (wAndTs Φ m)
 | .nil=>fun _ _ _ _ _ q=>q.elim
 | .cons e .nil=>mT e
 | .cons e (.cons f r)=>uG (mT e) (mAndTs (.cons f r))
theorem mOrTs:∀ m,aH (wOrTs Φ m)
 | .nil=>fun _ _ _ _ _ q=>q.elim
 | .cons e .nil=>mT e
 | .cons e (.cons f r)=>xG (mT e) (mOrTs (.cons f r))
theorem mTl:∀ m, ∀ t∈wTl Φ m,aH t
 | .nil=>by rw [wTl];intro t j;simp at j
 | .cons t r=>by
  rw [wTl];intro t' j
  rcases Hg.mp j with e | e
  ·rw [e];exact mT t
  ·exact mTl r t' e
theorem mI:∀ m,ce (wI Φ m)
 | .seq e=>xK (mE e)
 | .rng1 a=>uP (aj (mE a) aq)
 | .zip a b=>xL (mE a) (mE b)
 | .zip3 a b c=>uQ (mE a) (mE b) (mE c)
 | .enum a=>uR (mE a)
 | .keys a=>vC (mE a)
theorem mCl:∀ m,cg (wCl Φ m)
 | .last src g ifs elt=>io (mI src) (aS (bI (mE elt)) (mTl ifs))
 | .more src g ifs rest=>io (mI src) (aS (mCl rest) (mTl ifs))
theorem mCmp (fr:List (Option Nat)):∀ m,ae (wCmp Φ fr m)
 | .last src g ifs elt=>lF (mI src) (aS (bI (mE elt)) (mTl ifs))
 | .more src g ifs rest=>lF (mI src) (aS (mCl rest) (mTl ifs))
end
mutual
theorem mS:∀ m,aI (wS Φ m)
 | .asg g e=>xO (mE hΦ e)
 | .par i j a b=>og (aj (mE hΦ a) (aj (mE hΦ b) aq))
 | .par3 i j l a b c=>og (aj (mE hΦ a) (aj (mE hΦ b) (aj (mE hΦ c) aq)))
 | .put o i e=>xU (mE hΦ e) (mE hΦ o) (mE hΦ i)
 | .augI o i op e=>va (mE hΦ o) (mE hΦ i) (mE hΦ e) (yh op)
 | .drop e=>uU (mE hΦ e)
 | .ret e=>xM (mE hΦ e)
 | .ite c a b=>xN (mT hΦ c) (mSs a) (mSs b)
 | .for g src b=>xP (mI hΦ src) (mSs b)
 | .while c b=>sB (mT hΦ c) (mSs b)
 | .frz i s=>y7 (mS s)
 | .pass=>lJ
 | .brk=>sy
 | .cnt=>uS
theorem mSs:∀ m,aI (wSs Φ m)
 | .nil=>lJ
 | .cons s r=>uT (mS s) (mSs r)
end
end
end
section
structure Ctx where
 Γ:List Str
 N:List Str
 sc:Scope
 fn:List Str
 cs:List (Str×D)
noncomputable def glB (sc:Scope) (x:Str):Bool:=sc.names.lookup x==some .globalImplicit
noncomputable def yi (sc:Scope) (x:Str):Bool:=sc.names.lookup x==some .local || sc.names.lookup x==some .cell || sc.names.lookup x==some .free
noncomputable def yj (sc:Scope) (x:Str):Bool:=sc.names.lookup x==some .local || sc.names.lookup x==some .cell
noncomputable def ay:Expr->Bool
 | .Starred .. => false
 | _=>true
noncomputable def oU:Expr->Bool
 | .Name .. | .Call .. | .Subscript .. | .Constant .. | .BinOp .. | .Attribute .. => true
 | _=>false
noncomputable def cX:Expr->Bool
 | .Slice .. => false
 | _=>true
noncomputable def gy:Expr->Bool
 | .ListComp .. | .SetComp .. | .DictComp .. => false
 | _=>true
noncomputable def jO:Expr->Bool
 | .Set .. => false
 | _=>true
noncomputable def dR:Expr->Bool
 | .Call .. => false
 | _=>true
noncomputable def opO:BOp->LJ
 | .add => .Add | .sub => .Sub | .mul => .Mult | .fdiv => .FloorDiv | .mod => .Mod | .pow => .Pow
noncomputable def yk:COp->CmpOp
 | .eq => .Eq | .ne => .NotEq | .lt => .Lt| .gt => .Gt | .ge => .GtE| .neD => .NotEq| .inS => .In
noncomputable def oV:BF->Str
 | .len => "len" | .abs => "abs"| .min2 => "min" | .int => "int" | .list => "list" | .tuple => "tuple"| .all => "all"| .dict => "dict" | .sortk => "sorted"
noncomputable def CZ:MF->Str
 | .append => "append"
noncomputable def B4:MF0->Str
 | .clear => "clear" | .reverse => "reverse"
noncomputable def bltNames:List Str := ["len", "abs", "max", "min", "int", "list", "tuple", "sum", "isinstance", "range", "bool", "str", "dict", "zip", "enumerate", "reversed", "sorted", "all", "any", "set"]
noncomputable def iP (sc osc:Scope):Scope :=
 { sc with names:=sc.names.map fun (n,k)=>if (k == .free&&osc.kind == .function&&osc.names.lookup n==some .cell) then (n, .cell) else (n,k) }
theorem qi (sc:Scope) (env:Env):relabel sc env=iP sc env.scope:=rfl
noncomputable def ym (sc osc:Scope) (oN N':List Str) (fr:List (Option Nat)):Bool :=
 decide (sc.kind = .function)&&decide ((sc.names.map (·.1)).Nodup)&&decide (N'.Nodup)
  && sc.names.all (fun x => !(x.2 == .free) || osc.names.lookup x.1==some .cell || osc.names.lookup x.1==some .free)
  && decide (fr.length=N'.length)
  && (B0 N'.length).all fun i=>match fr[i]?,N'[i]? with
   | some (some j),some x=>decide (oN[j]? = some x)&&sc.names.any (fun y=>decide (y=(x,I8)))
   | _,_=>true
theorem pk {p:Prop} [d:Decidable p] {t:p->Bool} (h:dite p t (fun _=>false)=true):∃ c,t c=true:=by
 cases d with
 | isTrue c=>exact ⟨c,h⟩
 | isFalse c=>cases h
noncomputable def cv (e:Expr) (f:Str->Pos->Bool):Bool:=if h:e.ctorIdx=23 then @Rl.elim (fun _=>Bool) e h f else false
@[elab_as_elim]
theorem cM {P:Expr->Prop} (e:Expr) {f:Str->Pos->Bool} (h:cv e f=true) (k:∀ a b,f a b=true->P (.Name a b)):P e :=
 (pk h).elim fun c => @Rl.elim (fun e => ∀ c, @Rl.elim (fun _=>Bool) e c f=true->P e) e c (fun a b _ h=>k a b h) c
noncomputable def eO (e:Expr) (f:Const->Nat->Pos->Bool):Bool:=if h:e.ctorIdx=19 then @Pw.elim (fun _=>Bool) e h f else false
@[elab_as_elim]
theorem gA {P:Expr->Prop} (e:Expr) {f:Const->Nat->Pos->Bool} (h:eO e f=true) (k:∀ a b c,f a b c=true->P (.Constant a b c)):P e :=
 (pk h).elim fun c => @Pw.elim (fun e => ∀ c, @Pw.elim (fun _=>Bool) e c f=true->P e) e c (fun a b c _ h=>k a b c h) c
noncomputable def vF (e:Expr) (f:Expr->LJ->Expr->Pos->Bool):Bool:=if h:e.ctorIdx=2 then @Rc.elim (fun _=>Bool) e h f else false
@[elab_as_elim]
theorem D3 {P:Expr->Prop} (e:Expr) {f:Expr->LJ->Expr->Pos->Bool} (h:vF e f=true) (k:∀ a b c d,f a b c d=true->P (.BinOp a b c d)):P e :=
 (pk h).elim fun c => @Rc.elim (fun e => ∀ c, @Rc.elim (fun _=>Bool) e c f=true->P e) e c (fun a b c d _ h=>k a b c d h) c
noncomputable def fS (e:Expr) (f:UnaryOp->Expr->Pos->Bool):Bool:=if h:e.ctorIdx=3 then @Qi.elim (fun _=>Bool) e h f else false
@[elab_as_elim]
theorem iQ {P:Expr->Prop} (e:Expr) {f:UnaryOp->Expr->Pos->Bool} (h:fS e f=true) (k:∀ a b c,f a b c=true->P (.UnaryOp a b c)):P e :=
 (pk h).elim fun c => @Qi.elim (fun e => ∀ c, @Qi.elim (fun _=>Bool) e c f=true->P e) e c (fun a b c _ h=>k a b c h) c
noncomputable def iR (e:Expr) (f:Expr->List CmpOp->List Expr->Pos->Bool):Bool:=if h:e.ctorIdx=15 then @Qj.elim (fun _=>Bool) e h f else false
@[elab_as_elim]
theorem oW {P:Expr->Prop} (e:Expr) {f:Expr->List CmpOp->List Expr->Pos->Bool} (h:iR e f=true) (k:∀ a b c d,f a b c d=true->P (.Compare a b c d)):P e :=
 (pk h).elim fun c => @Qj.elim (fun e => ∀ c, @Qj.elim (fun _=>Bool) e c f=true->P e) e c (fun a b c d _ h=>k a b c d h) c
noncomputable def eZ (e:Expr) (f:BoolOp->List Expr->Pos->Bool):Bool:=if h:e.ctorIdx=0 then @QT.elim (fun _=>Bool) e h f else false
@[elab_as_elim]
theorem i5 {P:Expr->Prop} (e:Expr) {f:BoolOp->List Expr->Pos->Bool} (h:eZ e f=true) (k:∀ a b c,f a b c=true->P (.BoolOp a b c)):P e :=
 (pk h).elim fun c => @QT.elim (fun e => ∀ c, @QT.elim (fun _=>Bool) e c f=true->P e) e c (fun a b c _ h=>k a b c h) c
noncomputable def vG (e:Expr) (f:Expr->Expr->Expr->Pos->Bool):Bool:=if h:e.ctorIdx=5 then @Rf.elim (fun _=>Bool) e h f else false
@[elab_as_elim]
theorem D4 {P:Expr->Prop} (e:Expr) {f:Expr->Expr->Expr->Pos->Bool} (h:vG e f=true) (k:∀ a b c d,f a b c d=true->P (.IfExp a b c d)):P e :=
 (pk h).elim fun c => @Rf.elim (fun e => ∀ c, @Rf.elim (fun _=>Bool) e c f=true->P e) e c (fun a b c d _ h=>k a b c d h) c
noncomputable def bZ (e:Expr) (f:List Expr->Nat->Pos->Bool):Bool:=if h:e.ctorIdx=25 then @Rg.elim (fun _=>Bool) e h f else false
@[elab_as_elim]
theorem cq {P:Expr->Prop} (e:Expr) {f:List Expr->Nat->Pos->Bool} (h:bZ e f=true) (k:∀ a b c,f a b c=true->P (.Tuple a b c)):P e :=
 (pk h).elim fun c => @Rg.elim (fun e => ∀ c, @Rg.elim (fun _=>Bool) e c f=true->P e) e c (fun a b c _ h=>k a b c h) c
noncomputable def zr (e:Expr) (f:List Expr->Pos->Bool):Bool:=if h:e.ctorIdx=24 then @Rm.elim (fun _=>Bool) e h f else false
@[elab_as_elim]
theorem Ea {P:Expr->Prop} (e:Expr) {f:List Expr->Pos->Bool} (h:zr e f=true) (k:∀ a b,f a b=true->P (.List a b)):P e :=
 (pk h).elim fun c => @Rm.elim (fun e => ∀ c, @Rm.elim (fun _=>Bool) e c f=true->P e) e c (fun a b _ h=>k a b h) c
noncomputable def cN (e:Expr) (f:Expr->Expr->Pos->Bool):Bool:=if h:e.ctorIdx=21 then @Pa.elim (fun _=>Bool) e h f else false
@[elab_as_elim]
theorem dM {P:Expr->Prop} (e:Expr) {f:Expr->Expr->Pos->Bool} (h:cN e f=true) (k:∀ a b c,f a b c=true->P (.Subscript a b c)):P e :=
 (pk h).elim fun c => @Pa.elim (fun e => ∀ c, @Pa.elim (fun _=>Bool) e c f=true->P e) e c (fun a b c _ h=>k a b c h) c
noncomputable def sY (e:Expr) (f:Expr->List Expr->List N8->Pos->Bool):Bool:=if h:e.ctorIdx=16 then @Ro.elim (fun _=>Bool) e h f else false
@[elab_as_elim]
theorem zt {P:Expr->Prop} (e:Expr) {f:Expr->List Expr->List N8->Pos->Bool} (h:sY e f=true) (k:∀ a b c d,f a b c d=true->P (.Call a b c d)):P e :=
 (pk h).elim fun c => @Ro.elim (fun e => ∀ c, @Ro.elim (fun _=>Bool) e c f=true->P e) e c (fun a b c d _ h=>k a b c d h) c
noncomputable def jP (e:Expr) (f:Expr->Str->Pos->Bool):Bool:=if h:e.ctorIdx=20 then @Pb.elim (fun _=>Bool) e h f else false
@[elab_as_elim]
theorem sZ {P:Expr->Prop} (e:Expr) {f:Expr->Str->Pos->Bool} (h:jP e f=true) (k:∀ a b c,f a b c=true->P (.Attribute a b c)):P e :=
 (pk h).elim fun c => @Pb.elim (fun e => ∀ c, @Pb.elim (fun _=>Bool) e c f=true->P e) e c (fun a b c _ h=>k a b c h) c
noncomputable def vH (e:Expr) (f:Option Expr->Option Expr->Option Expr->Pos->Bool):Bool:=if h:e.ctorIdx=26 then @Rh.elim (fun _=>Bool) e h f else false
@[elab_as_elim]
theorem D5 {P:Expr->Prop} (e:Expr) {f:Option Expr->Option Expr->Option Expr->Pos->Bool} (h:vH e f=true) (k:∀ a b c d,f a b c d=true->P (.Slice a b c d)):P e :=
 (pk h).elim fun c => @Rh.elim (fun e => ∀ c, @Rh.elim (fun _=>Bool) e c f=true->P e) e c (fun a b c d _ h=>k a b c d h) c
noncomputable def mn (e:Expr) (f:Expr->List Iw->Scope->Pos->Bool):Bool:=if h:e.ctorIdx=8 then @Px.elim (fun _=>Bool) e h f else false
@[elab_as_elim]
theorem vI {P:Expr->Prop} (e:Expr) {f:Expr->List Iw->Scope->Pos->Bool} (h:mn e f=true) (k:∀ a b c d,f a b c d=true->P (.ListComp a b c d)):P e :=
 (pk h).elim fun c => @Px.elim (fun e => ∀ c, @Px.elim (fun _=>Bool) e c f=true->P e) e c (fun a b c d _ h=>k a b c d h) c
noncomputable def zu (e:Expr) (f:List (Option Expr)->List Expr->Pos->Bool):Bool:=if h:e.ctorIdx=6 then @Rp.elim (fun _=>Bool) e h f else false
@[elab_as_elim]
theorem Eb {P:Expr->Prop} (e:Expr) {f:List (Option Expr)->List Expr->Pos->Bool} (h:zu e f=true) (k:∀ a b c,f a b c=true->P (.Dict a b c)):P e :=
 (pk h).elim fun c => @Rp.elim (fun e => ∀ c, @Rp.elim (fun _=>Bool) e c f=true->P e) e c (fun a b c _ h=>k a b c h) c
noncomputable def eD (e:Stmt) (f:List Expr->Expr->Pos->Bool):Bool:=if h:e.ctorIdx=5 then @QU.elim (fun _=>Bool) e h f else false
@[elab_as_elim]
theorem fT {P:Stmt->Prop} (e:Stmt) {f:List Expr->Expr->Pos->Bool} (h:eD e f=true) (k:∀ a b c,f a b c=true->P (.Assign a b c)):P e :=
 (pk h).elim fun c => @QU.elim (fun e => ∀ c, @QU.elim (fun _=>Bool) e c f=true->P e) e c (fun a b c _ h=>k a b c h) c
noncomputable def iu (e:Stmt) (f:Expr->LJ->Expr->Pos->Bool):Bool:=if h:e.ctorIdx=7 then @Pc.elim (fun _=>Bool) e h f else false
@[elab_as_elim]
theorem qj {P:Stmt->Prop} (e:Stmt) {f:Expr->LJ->Expr->Pos->Bool} (h:iu e f=true) (k:∀ a b c d,f a b c d=true->P (.AugAssign a b c d)):P e :=
 (pk h).elim fun c => @Pc.elim (fun e => ∀ c, @Pc.elim (fun _=>Bool) e c f=true->P e) e c (fun a b c d _ h=>k a b c d h) c
noncomputable def vJ (e:Stmt) (f:Expr->Pos->Bool):Bool:=if h:e.ctorIdx=24 then @Rq.elim (fun _=>Bool) e h f else false
@[elab_as_elim]
theorem D6 {P:Stmt->Prop} (e:Stmt) {f:Expr->Pos->Bool} (h:vJ e f=true) (k:∀ a b,f a b=true->P (.Expr a b)):P e :=
 (pk h).elim fun c => @Rq.elim (fun e => ∀ c, @Rq.elim (fun _=>Bool) e c f=true->P e) e c (fun a b _ h=>k a b h) c
noncomputable def oZ (e:Stmt) (f:Option Expr->Pos->Bool):Bool:=if h:e.ctorIdx=3 then @QV.elim (fun _=>Bool) e h f else false
@[elab_as_elim]
theorem yn {P:Stmt->Prop} (e:Stmt) {f:Option Expr->Pos->Bool} (h:oZ e f=true) (k:∀ a b,f a b=true->P (.Return a b)):P e :=
 (pk h).elim fun c => @QV.elim (fun e => ∀ c, @QV.elim (fun _=>Bool) e c f=true->P e) e c (fun a b _ h=>k a b h) c
noncomputable def D7 (e:Stmt) (f:Expr->List Stmt->List Stmt->Pos->Bool):Bool:=if h:e.ctorIdx=12 then @Stmt.If.elim (fun _=>Bool) e h f else false
@[elab_as_elim]
theorem EU {P:Stmt->Prop} (e:Stmt) {f:Expr->List Stmt->List Stmt->Pos->Bool} (h:D7 e f=true) (k:∀ a b c d,f a b c d=true->P (.If a b c d)):P e :=
 (pk h).elim fun c => @Stmt.If.elim (fun e => ∀ c, @Stmt.If.elim (fun _=>Bool) e c f=true->P e) e c (fun a b c d _ h=>k a b c d h) c
noncomputable def zv (e:Stmt) (f:Expr->Expr->List Stmt->List Stmt->Pos->Bool):Bool:=if h:e.ctorIdx=9 then @Stmt.For.elim (fun _=>Bool) e h f else false
@[elab_as_elim]
theorem Ec {P:Stmt->Prop} (e:Stmt) {f:Expr->Expr->List Stmt->List Stmt->Pos->Bool} (h:zv e f=true) (k:∀ a b c d e,f a b c d e=true->P (.For a b c d e)):P e :=
 (pk h).elim fun c => @Stmt.For.elim (fun e => ∀ c, @Stmt.For.elim (fun _=>Bool) e c f=true->P e) e c (fun a b c d e _ h=>k a b c d e h) c
noncomputable def qN (e:Stmt) (f:Expr->List Stmt->List Stmt->Pos->Bool):Bool:=if h:e.ctorIdx=11 then @Ri.elim (fun _=>Bool) e h f else false
@[elab_as_elim]
theorem B5 {P:Stmt->Prop} (e:Stmt) {f:Expr->List Stmt->List Stmt->Pos->Bool} (h:qN e f=true) (k:∀ a b c d,f a b c d=true->P (.While a b c d)):P e :=
 (pk h).elim fun c => @Ri.elim (fun e => ∀ c, @Ri.elim (fun _=>Bool) e c f=true->P e) e c (fun a b c d _ h=>k a b c d h) c
noncomputable def vK (e:Stmt) (f:Pos->Bool):Bool:=if h:e.ctorIdx=25 then @Rr.elim (fun _=>Bool) e h f else false
@[elab_as_elim]
theorem D8 {P:Stmt->Prop} (e:Stmt) {f:Pos->Bool} (h:vK e f=true) (k:∀ a,f a=true->P (.Pass a)):P e :=
 (pk h).elim fun c => @Rr.elim (fun e => ∀ c, @Rr.elim (fun _=>Bool) e c f=true->P e) e c (fun a _ h=>k a h) c
noncomputable def qO (e:Stmt) (f:Pos->Bool):Bool:=if h:e.ctorIdx=26 then @Rj.elim (fun _=>Bool) e h f else false
@[elab_as_elim]
theorem B6 {P:Stmt->Prop} (e:Stmt) {f:Pos->Bool} (h:qO e f=true) (k:∀ a,f a=true->P (.Break a)):P e :=
 (pk h).elim fun c => @Rj.elim (fun e => ∀ c, @Rj.elim (fun _=>Bool) e c f=true->P e) e c (fun a _ h=>k a h) c
noncomputable def jQ (e:Stmt) (f:Pos->Bool):Bool:=if h:e.ctorIdx=27 then @Py.elim (fun _=>Bool) e h f else false
@[elab_as_elim]
theorem t5 {P:Stmt->Prop} (e:Stmt) {f:Pos->Bool} (h:jQ e f=true) (k:∀ a,f a=true->P (.Continue a)):P e :=
 (pk h).elim fun c => @Py.elim (fun e => ∀ c, @Py.elim (fun _=>Bool) e c f=true->P e) e c (fun a _ h=>k a h) c
noncomputable def lv0 {α:Type} (xs:List α) (b:Bool):Bool:=xs.isEmpty&&b
noncomputable def lvc {α:Type} (xs:List α) (f : α -> List α -> Bool):Bool:=match xs with
 | y::r=>f y r
 | [] => false
noncomputable def lv1 {α:Type} (xs:List α) (f : α -> Bool):Bool:=lvc xs fun y r=>lv0 r (f y)
noncomputable def lv2 {α:Type} (xs:List α) (f : α -> α -> Bool):Bool:=lvc xs fun y r=>lv1 r (f y)
noncomputable def lv3 {α:Type} (xs:List α) (f : α -> α -> α -> Bool):Bool:=lvc xs fun y r=>lv2 r (f y)
noncomputable def os {α:Type} (o:Option α) (f : α -> Bool):Bool:=match o with
 | some x=>f x
 | none=>false
noncomputable def on {α:Type} (o:Option α) (b:Bool):Bool:=o.isNone&&b
@[elab_as_elim]
theorem gB {α:Type} {P:List α -> Prop} (xs:List α) {b:Bool} (h:lv0 xs b=true) (k:b=true->P []):P xs:=by
 cases xs with
 | nil=>exact k h
 | cons _ _=>cases h
@[elab_as_elim]
theorem yo {α:Type} {P:List α -> Prop} (xs:List α) {f : α -> List α -> Bool} (h:lvc xs f=true) (k:∀ y r,f y r=true->P (y::r)):P xs:=by
 cases xs with
 | nil=>cases h
 | cons y r=>exact k y r h
@[elab_as_elim]
theorem cO {α:Type} {P:List α -> Prop} (xs:List α) {f : α -> Bool} (h:lv1 xs f=true) (k:∀ y,f y=true->P [y]):P xs :=
 yo xs h fun y r h=>gB r h fun h=>k y h
@[elab_as_elim]
theorem fU {α:Type} {P:List α -> Prop} (xs:List α) {f : α -> α -> Bool} (h:lv2 xs f=true) (k:∀ y z,f y z=true->P [y,z]):P xs :=
 yo xs h fun y r h=>cO r h fun z h=>k y z h
@[elab_as_elim]
theorem yp {α:Type} {P:List α -> Prop} (xs:List α) {f : α -> α -> α -> Bool} (h:lv3 xs f=true) (k:∀ y z u,f y z u=true->P [y,z,u]):P xs :=
 yo xs h fun y r h=>fU r h fun z u h=>k y z u h
@[elab_as_elim]
theorem jos {α:Type} {P:Option α -> Prop} (o:Option α) {f : α -> Bool} (h:os o f=true) (k:∀ x,f x=true->P (some x)):P o:=by
 cases o with
 | none=>cases h
 | some x=>exact k x h
@[elab_as_elim]
theorem jon {α:Type} {P:Option α -> Prop} (o:Option α) {b:Bool} (h:on o b=true) (k:b=true->P none):P o:=by
 cases o with
 | none=>exact k h
 | some x=>cases h
theorem bU {a b:Bool} (h:(a&&b)=true):a=true/\b=true:=by rwa [tv] at h
noncomputable def ca (e:Expr) (g:Str->List Expr->Bool):Bool:=sY e fun f xs ks _=>lv0 ks (cv f fun x _=>g x xs)
@[elab_as_elim]
theorem cr {P:Expr->Prop} (e:Expr) {g:Str->List Expr->Bool} (h:ca e g=true) (k:∀ x xs p pos,g x xs=true->P (.Call (.Name x p) xs [] pos)):P e :=
 zt e h fun f xs ks pos h=>gB ks h fun h=>cM f h fun x p h=>k x xs p pos h
noncomputable def jR (e:Expr) (g:Expr->Str->List Expr->Pos->Pos->Bool):Bool:=sY e fun f xs ks p=>lv0 ks (jP f fun o n q=>g o n xs q p)
@[elab_as_elim]
theorem mY {P:Expr->Prop} (e:Expr) {g:Expr->Str->List Expr->Pos->Pos->Bool} (h:jR e g=true) (k:∀ o n xs q p,g o n xs q p=true->P (.Call (.Attribute o n q) xs [] p)):P e :=
 zt e h fun f xs ks pos h=>gB ks h fun h=>sZ f h fun o n q h=>k o n xs q pos h
noncomputable def iSl (e:Expr) (g:Expr->Option Expr->Option Expr->Option Expr->Bool):Bool:=cN e fun x y _=>vH y fun l u s _=>g x l u s
@[elab_as_elim]
theorem jSl {P:Expr->Prop} (e:Expr) {g:Expr->Option Expr->Option Expr->Option Expr->Bool} (h:iSl e g=true) (k:∀ x l u s p pos,g x l u s=true->P (.Subscript x (.Slice l u s p) pos)):P e :=
 dM e h fun x y pos h=>D5 y h fun l u s p h=>k x l u s p pos h
mutual
noncomputable def okG:MG->Ctx->Expr->Bool
 | .name i,C,e=>cv e fun x _=>decide (C.N[i]? = some x)&&yj C.sc x&&(C.sc.names.lookup x==some .local || C.fn.contains x)
 | .tup gs,C,e=>bZ e fun es _ _=>okGs gs C es
noncomputable def okGs:MGs->Ctx->List Expr->Bool
 | .nil,_,es=>es.isEmpty
 | .cons g r,C,es=>match es with
  | e::es=>ay e&&okG g C e&&okGs r C es
  | [] => false
end
mutual
noncomputable def okE:ME->Ctx->Expr->Bool
 | .var i,C,e=>cv e fun x _=>decide (C.N[i]? = some x)&&yi C.sc x && !(x==("__debug__":Str)) && !(x==("__classdict__":Str))
 | .int i,_,e=>eO e fun c _ _=>decide (c = .int i)
 | .bl i,_,e=>eO e fun c _ _=>decide (c = .bool i)
 | .non,_,e=>eO e fun c _ _=>decide (c = .none)
 | .bin op a b,C,e=>vF e fun l o r _=>decide (o=opO op)&&okE a C l&&okE b C r
 | .neg a,C,e=>fS e fun o x _=>decide (o = .USub)&&okE a C x
 | .cmp op a b,C,e=>iR e fun l os rs _=>lv1 os fun o=>lv1 rs fun r=>decide (o=yk op)&&okE a C l&&okE b C r && !(Lj o r)
 | .and es,C,e=>eZ e fun o xs _=>decide (o = .And) && !xs.isEmpty&&okEs es C xs
 | .or es,C,e=>eZ e fun o xs _=>decide (o = .Or) && !xs.isEmpty&&okEs es C xs
 | .not a,C,e=>fS e fun o x _=>decide (o = .Not)&&okE a C x
 | .ite c a b,C,e=>vG e fun t x y _=>okT c C t&&okE a C x&&okE b C y
 | .tup es,C,e=>bZ e fun xs _ _=>okEs es C xs
 | .lst es,C,e=>zr e fun xs _=>okEs es C xs
 | .ix a b,C,e=>cN e fun x y _=>cX y&&okE a C x&&okE b C y
 | .sl a lo hi,C,e=>iSl e fun x l u s=>on s (okE a C x&&okO lo C l&&okO hi C u)
 | .call f es,C,e=>ca e fun x xs=>decide (C.Γ[f]? = some x)&&glB C.sc x && !(x==("__debug__":Str))&&okEs es C xs
 | .blt f es,C,e=>ca e fun x xs=>decide (x=oV f)&&glB C.sc x && !xs.isEmpty&&okEs es C xs
 | .isin2 a T U,C,e=>ca e fun x xs=>lv2 xs fun y w=>bZ w fun ws _ _=>lv2 ws fun z' v'=>cv z' fun z _=>cv v' fun v _=>decide (x = "isinstance")&&glB C.sc x&&glB C.sc z&&glB C.sc v&&decide (z=Iq T)&&decide (v=Iq U)&&decide (T∈["bool", "int", "str", "tuple", "list", "dict"])&&decide (U∈["bool", "int", "str", "tuple", "list", "dict"])&&ay y&&okE a C y
 | .isin a T,C,e=>ca e fun x xs=>lv2 xs fun y w=>cv w fun z _=>decide (x = "isinstance")&&glB C.sc x&&glB C.sc z&&decide (z=Iq T)&&decide (T∈["bool", "int", "str", "tuple", "list", "dict"])&&ay y&&okE a C y
 | .dnew _,_,e=>zu e fun ks vs _=>lv0 ks (lv0 vs true)
 | .dget o k x,C,e=>jR e fun y n xs ap cp=>lv2 xs fun e1 e2=>decide (n = "get")&&dR y&&(ap.endLine==cp.line)&&ay e1&&ay e2&&okE o C y&&okE k C e1&&okE x C e2
 | .lrng a,C,e=>ca e fun x xs=>lv1 xs fun w=>ca w fun z ys=>lv1 ys fun y=>decide (x = "list")&&glB C.sc x&&decide (z = "range")&&glB C.sc z&&ay y&&okE a C y
 | .meth m o a,C,e=>jR e fun x n xs ap cp=>lv1 xs fun y=>decide (n=CZ m)&&dR x&&(ap.endLine==cp.line)&&ay y&&okE o C x&&okE a C y
 | .ins o i a,C,e=>jR e fun x n xs ap cp=>lv2 xs fun y z=>decide (n = "insert")&&dR x&&(ap.endLine==cp.line)&&ay y&&ay z&&okE o C x&&okE i C y&&okE a C z
 | .meth0 m o,C,e=>jR e fun x n xs ap cp=>lv0 xs (decide (n=B4 m)&&dR x&&(ap.endLine==cp.line)&&okE o C x)
 | .comp fr N' c,C,e=>mn e fun elt gens sc _=>ym sc C.sc C.N N' fr&&okC c C ⟨C.Γ,N',iP sc C.sc,(sc.names.filter (·.2 == .cell)).map (·.1),C.cs⟩ gens elt
noncomputable def okEs:MEs->Ctx->List Expr->Bool
 | .nil,_,es=>es.isEmpty
 | .cons m r,C,es=>match es with
  | e::es=>ay e&&okE m C e&&okEs r C es
  | [] => false
noncomputable def okO:MO->Ctx->Option Expr->Bool
 | .none,_,e=>e.isNone
 | .some m,C,e=>match e with
  | some e=>okE m C e
  | none=>false
noncomputable def okT:MT->Ctx->Expr->Bool
 | .tru m,C,e=>oU e&&okE m C e
 | .cmp op a b,C,e=>iR e fun l os rs _=>lv1 os fun o=>lv1 rs fun r=>decide (o=yk op)&&okE a C l&&okE b C r && !(Lj o r)
 | .and ts,C,e=>eZ e fun o xs _=>decide (o = .And) && !xs.isEmpty&&okTs ts C xs
 | .or ts,C,e=>eZ e fun o xs _=>decide (o = .Or) && !xs.isEmpty&&okTs ts C xs
 | .not t,C,e=>fS e fun o x _=>decide (o = .Not)&&okT t C x
noncomputable def okTs:MTs->Ctx->List Expr->Bool
 | .nil,_,es=>es.isEmpty
 | .cons m r,C,es=>match es with
  | e::es=>okT m C e&&okTs r C es
  | [] => false
noncomputable def okI:MI->Ctx->Expr->Expr->Bool
 | .seq m,C,_,e=>jO e&&okE m C e
 | .keys m,C,_,e=>jO e&&okE m C e
 | .rng1 a,C,_,e=>ca e fun x xs=>lv1 xs fun y=>decide (x = "range")&&glB C.sc x&&ay y&&okE a C y
 | .enum a,C,t,e=>ca e fun x xs=>lv1 xs fun y=>bZ t fun _ _ _=>decide (x = "enumerate")&&glB C.sc x&&ay y&&okE a C y
 | .zip3 a b c,C,t,e=>ca e fun x xs=>lv3 xs fun y z u=>bZ t fun _ _ _=>decide (x = "zip")&&glB C.sc x&&ay y&&ay z&&ay u&&okE a C y&&okE b C z&&okE c C u
 | .zip a b,C,t,e=>ca e fun x xs=>lv2 xs fun y z=>bZ t fun _ _ _=>decide (x = "zip")&&glB C.sc x&&ay y&&ay z&&okE a C y&&okE b C z
noncomputable def okC:MC->Ctx->Ctx->List Iw->Expr->Bool
 | .last src g ifs m,Cs,C,gens,elt=>match gens with
  | [⟨t,it,fs,a⟩] => decide (a=0)&&okI src Cs t it&&okG g C t&&okTs ifs C fs&&okE m C elt
  | _=>false
 | .more src g ifs rest,Cs,C,gens,elt=>match gens with
  | ⟨t,it,fs,a⟩::g2::gs=>decide (a=0)&&okI src Cs t it&&okG g C t&&okTs ifs C fs&&okC rest C C (g2::gs) elt
  | _=>false
end
noncomputable def bb (sc:Scope) (ts:List Expr):List Str:=ts.filterMap fun
 | .Name id pos=>if sc.names.lookup id==some .local&&pos.line==(ts.head?.map (·.pos.line)).getD 0 then some id else none
 | _=>none
noncomputable def t6 (sc:Scope) (ts vs:List Expr):Bool := !(ts.length==2 || ts.length==3) || vs.length != ts.length || (bb sc ts).length != ts.length || (bb sc ts).eraseDups.length != (bb sc ts).length || vs.all (Pz 8)
noncomputable def iS (C:Ctx) (i:Nat) (x:Str):Bool:=decide (C.N[i]? = some x)&&decide (C.sc.names.lookup x=some .local)
noncomputable def mZ (sc:Scope) (ts vs:List Expr) (ns:List Str):Bool := !(!(ts.length==2 || ts.length==3) || vs.length != ts.length) && !(vs.any fun | .Starred .. => true | _=>false)&&decide (bb sc ts=ns) && !((bb sc ts).length != ts.length || (bb sc ts).eraseDups.length != (bb sc ts).length) && !(vs.all (Pz 8)) && !(vs.all (constantsAlone 8))
noncomputable def jS (sc:Scope) (tg e:Expr):Bool:=match tg,e with
 | .Tuple ts _ _, .Tuple vs _ _=>t6 sc ts vs
 | .Tuple ..,_=>true
 | .Name ..,_=>true
 | _,_=>false
noncomputable def D9 (sc:Scope) (x:Str) (px:Pos) (e:Expr):Bool:=match e with
 | .DictComp _ _ _ s _ => !(sc.names.lookup x==some .local&&px.line==e.pos.line && !(s.names.any fun (n,k)=>n==x&&(k == .local || k == .cell)))
 | _=>true
noncomputable def t7 (sc:Scope) (x:Str) (px:Pos) (e:Expr):Bool:=match e with
 | .ListComp _ _ s _=>sc.names.lookup x==some .local&&px.line==e.pos.line && !(s.names.any fun (n,k)=>n==x&&(k == .local || k == .cell))
 | _=>false
mutual
noncomputable def okS:MS->Ctx->Stmt->Bool
 | .asg g m,C,s=>eD s fun ts e _=>lv1 ts fun tg=>okG g C tg&&okE m C e&&jS C.sc tg e&&(match tg with | .Name x px=>D9 C.sc x px e | _=>gy e)
 | .par i j a b,C,s=>eD s fun ts e _=>lv1 ts fun tg=>bZ tg fun ts _ _=>bZ e fun es _ _=>lv2 ts fun t u=>lv2 es fun e f=>cv t fun x px=>cv u fun y py=>iS C i x&&iS C j y&&decide (i≠j)&&ay e&&ay f&&okE a C e&&okE b C f&&mZ C.sc [.Name x px, .Name y py] [e,f] [x,y]
 | .par3 i j l a b c,C,s=>eD s fun ts e _=>lv1 ts fun tg=>bZ tg fun ts _ _=>bZ e fun es _ _=>lv3 ts fun t u v=>lv3 es fun e f g=>cv t fun x px=>cv u fun y py=>cv v fun z pz=>iS C i x&&iS C j y&&iS C l z&&decide (i≠j)&&decide (i≠l)&&decide (j≠l)&&ay e&&ay f&&ay g&&okE a C e&&okE b C f&&okE c C g&&mZ C.sc [.Name x px, .Name y py, .Name z pz] [e,f,g] [x,y,z]
 | .put o i m,C,s=>eD s fun ts e _=>lv1 ts fun tg=>cN tg fun x y _=>cX y&&gy e&&okE o C x&&okE i C y&&okE m C e
 | .augI o i op m,C,s=>iu s fun t o' e _=>cN t fun x y _=>decide (o'=opO op)&&(match op with | .add | .sub | .mul=>true | _=>false)&&cX y&&okE o C x&&okE i C y&&okE m C e
 | .drop m,C,s=>vJ s fun e _=>gy e&&okE m C e
 | .ret m,C,s=>oZ s fun o _=>os o fun e=>okE m C e
 | .ite c a b,C,s=>D7 s fun t x y _=>okT c C t&&okSs a C x&&okSs b C y
 | .for g src b,C,s=>zv s fun tg it body els _=>lv0 els (jO it&&okG g C tg&&okI src C tg it&&okSs b C body)
 | .while c b,C,s=>qN s fun t body els _=>lv0 els (okT c C t&&okSs b C body)
 | .frz _ m,C,s=>okS m C s
 | .pass,_,s=>vK s fun _=>true
 | .brk,_,s=>qO s fun _=>true
 | .cnt,_,s=>jQ s fun _=>true
noncomputable def okSs:MSs->Ctx->List Stmt->Bool
 | .nil,_,ss=>ss.isEmpty
 | .cons m r,C,ss=>match ss with
  | s::ss=>okS m C s&&okSs r C ss
  | [] => false
end
theorem ai {e:Expr} {es:List Expr} {env:Env} (h:ay e=true):HG (e::es) env=(false,eval e env)::HG es env:=by
 cases e <;> first | rfl | (simp [ay] at h;done)
theorem mq {e:Expr} {es:List Expr} {env:Env} (h:ay e=true):Js (e::es) env=(false,assign e env)::Js es env:=by
 cases e <;> first | rfl | (simp [ay] at h;done)
theorem t8 {e:Expr} {env:Env} (h:oU e=true):∀ whole,isTrue e env whole=(do let v <- whole;NM e.pos;holding [v] (truthy v)):=by
 intro w
 cases e <;> first | rfl | (simp [oU] at h;done)
theorem yq {e:Expr} (h:cX e=true):kh e:=by
 intro o i
 cases e <;> first | rfl | (simp [cX] at h;done)
theorem p8 {e:Expr} {env:Env} (h:jO e=true):∀ x,JE e env x=pure x:=by
 intro x
 cases e <;> first | rfl | (simp [jO] at h;done)
theorem eE {e:Expr} {n:Str} {env:Env} (h:dR e=true):NT e n env (eval e env)=eval e env:=by
 cases e <;> first | rfl | (simp [dR] at h;done)
theorem kK {e:Expr} {t:Option Expr} {l:Nat} {env:Env} (h:gy e=true):LB e t l env=pure false:=by
 cases e <;> first | rfl | (simp [gy] at h;done)
end
section
noncomputable def lSp (K:Frag) (r:RAd):Sp:=fun vs H Q _=>lR K r vs H Q
structure Good (C:Ctx) (Φ:Phi) (k:Nat) (X:Cx):Prop where
 hx:∀ e s,X.xe e s->False
 calm:X.calm=true
 N:X.N=C.N
 sc:X.env.scope=C.sc
 nd:X.N.Nodup
 fn:∀ x∈C.fn,X.fn x=true
 room:Room k X.A
 mgB:∀ x∈bltNames,X.mg x=none
 fns:∀ (i:Nat) (x:Str),C.Γ[i]? = some x -> ∃ f fd ps,X.mg x=some (.ref f)/\L4 X.K (.ref f)=true/\Binds X.K fd ps []/\dY X.prog X.w X.K X.mg X.base CX0 k f fd ps (lSp X.K (Φ i))
 mono:∀ f,b9 (Φ f)
 cs:∀ x d,(x,d)∈C.cs -> ∃ u,X.mg x=some u/\GV X.K d u
section
variable {C:Ctx} {Φ:Phi} {k:Nat} {X:Cx}
theorem Good.units (G:Good C Φ k X):X.A.units+64 < JS:=G.room.units
theorem Good.gl (G:Good C Φ k X) {x:Str} (h:glB C.sc x=true):Gl X x:=by
 show X.env.scope.names.lookup x=_;rw [G.sc];simpa [glB] using h
theorem Good.vis (G:Good C Φ k X) {x:Str} (h:yi C.sc x=true):Vis X.env.scope x:=by
 unfold Vis;rw [G.sc];simp [yi] at h
 rcases h with (h | h) | h
 ·exact .inl h
 ·exact .inr (.inl h)
 ·exact .inr (.inr h)
theorem Good.loc (G:Good C Φ k X) {x:Str} (h:yj C.sc x=true):Loc X.env.scope x:=by
 unfold Loc;rw [G.sc];simpa [yj] using h
theorem Good.own (G:Good C Φ k X) {x:Str} (h:(C.sc.names.lookup x==some .local || C.fn.contains x)=true):X.fn x=true∨X.env.scope.names.lookup x=some .local:=by
 rw [G.sc];simp at h
 rcases h with h | h
 ·exact .inr h
 ·exact .inl (G.fn x h)
theorem Da (G:Good C Φ k X):∀ o:BOp,OpR X (J0 (opO o)) (l2 X.K (opB o))
 | .add=>xw | .sub=>xx | .mul=>xz | .fdiv=>uD | .mod=>xB | .pow=>xC
theorem qP (G:Good C Φ k X):∀ o:COp,OpR X (J6 (yk o)) (l2 X.K (opC o))
 | .eq=>Ak (by have:=G.units;lia) | .ne=>Al (by have:=G.units;lia) | .lt=>Ap| .gt=>Aq | .ge=>Ar| .neD=>ya (by have:=G.units;lia)| .inS=>ye
theorem Db (G:Good C Φ k X) {f:BF} {e:Expr} {es:List Expr} {t:TAd} {p pos:Pos} (mt:bp t) (q:Gl X (oV f)) (z:PA X (e::es) (lA X.K t))
 (he:HG (e::es) X.env=(false,eval e X.env)::HG es X.env) (j:(Li pos (HG es X.env)).any (·.1)=false):PE X (.Call (.Name (oV f) p) (e::es) [] pos) (lE X.K (wAr (opF f) t)):=by
 cases f with
 | len=>exact PE.imp (cy so q (G.mgB _ (by decide)) PySem.boot_len z (by decide) (by decide) he j) (bS nH mt)
 | abs=>exact PE.imp (cy sr q (G.mgB _ (by decide)) (by decide +kernel) z (by decide) (by decide) he j) (bS nK mt)
 | min2=>exact PE.imp (cy (q9 G.calm) q (G.mgB _ (by decide)) (by decide +kernel) z (by decide) (by decide) he j) (bS lB mt)
 | int=>exact PE.imp (eK su q (G.mgB _ (by decide)) (by decide +kernel) z (by decide) (by decide) he j) (bS nL mt)
 | list=>exact PE.imp (eK qa q (G.mgB _ (by decide)) (by decide +kernel) z (by decide) (by decide) he j) (bS lD mt)
 | tuple=>exact PE.imp (eK nO q (G.mgB _ (by decide)) (by decide +kernel) z (by decide) (by decide) he j) (bS jm mt)
 | all=>exact PE.imp (cy (sH G.calm) q (G.mgB _ (by decide)) (by decide +kernel) z (by decide) (by decide) he j) (bS ot mt)
 | dict=>exact PE.imp (eK (qh (by have:=G.units;lia) G.calm) q (G.mgB _ (by decide)) (by decide +kernel) z (by decide) (by decide) he j) (bS mj mt)
 | sortk=>exact PE.imp (cy (oQ (by have:=G.units;lia) G.calm) q (G.mgB _ (by decide)) (by decide +kernel) z (by decide) (by decide) he j) (bS jM mt)
theorem B7 (G:Good C Φ k X) {f:Nat} {x:Str} {e:Expr} {es:List Expr} {t:TAd} {p pos:Pos} (mt:bp t) (hf:C.Γ[f]? = some x) (z:Gl X x) (j:(x==("__debug__":Str))=false) (B:PA X (e::es) (lA X.K t))
 (he:HG (e::es) X.env=(false,eval e X.env)::HG es X.env) (q:(Li pos (HG es X.env)).any (·.1)=false):PE X (.Call (.Name x p) (e::es) [] pos) (lE X.K (wAr (Φ f) t)):=by
 obtain ⟨a,fd,ps,hm,J,hb,F⟩:=G.fns f x hf;refine PE.imp (A4 F G.room z hm J hb .nil yZ B j he q) fun σ H Q h => ?_;have h2:=bS (G.mono f) mt σ H Q h;have:(fun vs H1=>lSp X.K (Φ f) (vs++[]) H1 Q E0)=fun vs H1=>lR X.K (Φ f) vs H1 Q:=by
  funext vs H1;rw [Jl];rfl
 show (lA X.K t) σ H _;rw [this];exact h2
theorem yr (G:Good C Φ k X) {f:Nat} {x:Str} {p pos:Pos} (hf:C.Γ[f]? = some x) (z:Gl X x) (j:(x==("__debug__":Str))=false):PE X (.Call (.Name x p) [] [] pos) (lE X.K (wAr (Φ f) bv)):=by
 obtain ⟨a,fd,ps,hm,B,hb,F⟩:=G.fns f x hf;refine PE.imp (wP F G.room z hm B hb .nil yZ j) fun σ H Q h => ?_;obtain ⟨ρ,M,rs,rm,q⟩:=h;exact ⟨[],M,rm,RDs.nil,q⟩
theorem iT {env:Env} {pos:Pos}:∀ {es:List Expr},es.all ay=true->(Li pos (HG es env)).any (·.1)=false
 | [],_=>rfl
 | e::es,h=>by
   simp only [Jv,tv] at h;rw [ai h.1];show (false || (Li pos (HG es env)).any (·.1))=false
   rw [iT h.2];rfl
theorem gC:∀ {ms:MEs} {es:List Expr},okEs ms C es=true->es.all ay=true
 | .nil,[],_=>rfl
 | .nil,_::_,h=>by simp [okEs] at h
 | .cons m r,[],h=>by simp [okEs] at h
 | .cons m r,e::es,h=>by
  simp only [okEs,tv] at h;simp only [Jv,tv];exact ⟨h.1.1,gC h.2⟩
theorem qQ:∀ {gs:MGs} {es:List Expr},okGs gs C es=true -> ∀ ds ρ ρ',bGs gs ds ρ = some ρ'->ds.length=es.length
 | .nil,es,h,ds, ρ, ρ',e=>by
  simp [okGs] at h;subst h;rw [bGs] at e
  cases ds with
  | nil=>rfl
  | cons _ _=>cases e
 | .cons g r,[],h,_,_,_,_=>by simp [okGs] at h
 | .cons g r,x::es,h,ds, ρ, ρ',e=>by
  simp only [okGs,tv] at h;rw [bGs] at e
  cases ds with
  | nil=>cases e
  | cons d ds =>
    simp only [aX] at e
    cases e1:bG g d ρ with
    | none=>rw [e1] at e;cases e
    | some ρ1 =>
      rw [e1] at e;simp [qQ h.2 ds ρ1 ρ' e]
theorem pc {env:Env}:∀ {gs:MGs} {es:List Expr},okGs gs C es=true->(Js es env).length=es.length/\(Js es env).findIdx? (·.1)=none
 | .nil,es,h=>by simp [okGs] at h;subst h;exact ⟨rfl,rfl⟩
 | .cons g r,[],h=>by simp [okGs] at h
 | .cons g r,x::es,h=>by
  simp only [okGs,tv] at h;obtain ⟨a,b⟩:=pc (env:=env) h.2;rw [mq h.1.1];refine ⟨by simp [a], ?_⟩
  rw [List.findIdx?_cons];simp [b]
mutual
theorem sG (G:Good C Φ k X):∀ (m:MG) (e:Expr),okG m C e=true->PG X e (lG X.K (bG m))
 | .name i,e,h=>by
  refine cM e h fun x _ h => ?_;simp only [tv] at h;exact AB G.nd (by rw [G.N];exact of_decide_eq_true h.1.1) (G.loc h.1.2) (G.own h.2)
 | .tup gs,e,h=>by
  refine cq e h fun es _ _ h => ?_;rw [bG];obtain ⟨a,b⟩:=pc (env:=X.env) h;exact CG G.calm (qQ h) (sGs G gs _ h) a b
theorem sGs (G:Good C Φ k X):∀ (m:MGs) (es:List Expr),okGs m C es=true->PGs X es (lGs X.K (bGs m))
 | .nil,es,h=>by
  simp [okGs] at h;subst h;exact AC
 | .cons g r,[],h=>by simp [okGs] at h
 | .cons g r,e::es,h=>by
  simp only [okGs,tv] at h;exact xJ (sG G g e h.1.2) (sGs G r es h.2) (by rw [mq h.1.1];rfl)
end
theorem PB.imp {F:Sem Fin->Sem Fin} {t t':TC} (h:PB X F t) (i:∀ σ H N,t' σ H N->t σ H N):PB X F t':=fun pins s σ H N k Q E I q hk=>h pins s σ H N k Q E I (i _ _ _ q) hk
theorem jT {sc osc:Scope} {oN N':List Str} {fr:List (Option Nat)} (h:ym sc osc oN N' fr=true):bh sc osc oN N' fr:=by
 simp only [ym,tv,decide_eq_true_eq] at h;obtain ⟨⟨⟨⟨⟨h1,h2⟩,F⟩,G⟩,J⟩,L⟩:=h;refine ⟨h1,h2,F,fun x hx e => ?_,J,fun i j x hi hf => ?_⟩
 ·have z:=Le.mp G x hx;rw [e] at z;simpa using z
 ·have B:i < N'.length:=(Hx.mp hi).1;have q:=Le.mp L i (HB.mpr B);rw [hf,hi] at q;simp only [tv,decide_eq_true_eq,JW] at q;obtain ⟨a,y,O,e⟩:=q;exact ⟨a,by rw [<- e];exact O⟩
theorem Good.blk (G:Good C Φ k X) {sc:Scope} {N':List Str} {fr:List (Option Nat)} (B:bh sc C.sc C.N N' fr) (s:z4) (H:Hp) (fp:List Addr) :
 Good ⟨C.Γ,N',iP sc C.sc,(sc.names.filter (·.2 == .cell)).map (·.1),C.cs⟩ Φ k (aM X sc N' s H fp):=by
 refine ⟨fun _ _ h=>h,G.calm,rfl, ?_,B.ndN,fun x hx => ?_,G.room,G.mgB,G.fns,G.mono,G.cs⟩
 ·show relabel sc X.env=_;rw [qi,G.sc]
 ·obtain ⟨y,q,e⟩:=Hu.mp hx;obtain ⟨h1,h2⟩:=Lo.mp q;obtain ⟨n,kd⟩:=y;have j:kd = .cell:=by simpa using h2
  subst j;have e':n=x:=e;subst e';show (sc.names.lookup n==some .cell)=true;rw [aW B.nd h1];rfl
end
end
section
section
variable {Φ:Phi} {k:Nat}
theorem dS {C:Ctx} {X:Cx} (G:Good C Φ k X) {F:Sem Fin->Sem Fin} {p:Addr} {tb:TCd} {ifs:List Expr} {ts:List TTd} (mb:cg tb) (mt:∀ t∈ts,aH t) (hb:PB X F (lC X.K p tb)) (j:Ih (fun c t=>PT X c t) ifs (ts.map (lT X.K))) :
 PB X (fun k=>br ifs X.env >>= fun ok=>if ok=true then F k else k) (lC X.K p (bw ts tb)) :=
 PB.imp (xg G.hx hb j) (jz mb mt)
theorem gD {m:MC} {Cs C:Ctx} {g2:Iw} {gs:List Iw} {elt:Expr} (h:okC m Cs C (g2::gs) elt=true):g2.is_async=0:=by
 obtain ⟨t,i,f,a⟩:=g2
 cases m with
 | last src g ifs m =>
   cases gs with
   | nil=>simp only [okC,tv,decide_eq_true_eq] at h;exact h.1.1.1.1
   | cons _ _=>simp [okC] at h
 | more src g ifs rest =>
   cases gs with
   | nil=>simp [okC] at h
   | cons _ _=>simp only [okC,tv,decide_eq_true_eq] at h;exact h.1.1.1.1
theorem iU {C:Ctx} {X:Cx} (G:Good C Φ k X):∀ T∈["bool", "int", "str", "tuple", "list", "dict"],X.mg (Iq T)=none/\JO (Iq T)=some (.type T)/\Iq T ≠ "__name__" /\ (Iq T==("__debug__":Str))=false:=by
 intro T j;simp only [Hg,HE,or_false] at j
 rcases j with rfl | rfl | rfl | rfl | rfl | rfl
 all_goals exact ⟨G.mgB _ (by decide),by decide +kernel,by decide,by decide⟩
mutual
theorem sE:∀ (m:ME) {C:Ctx} {X:Cx} (G:Good C Φ k X) (e:Expr),okE m C e=true->PE X e (lE X.K (wE Φ m))
 | .var i,C,X,G,e,h=>by
  refine cM e h fun x _ h => ?_;simp only [tv,Je,decide_eq_true_eq] at h;exact Cp (by rw [G.N];exact h.1.1.1) (G.vis h.1.1.2) h.1.2 h.2
 | .int i,C,X,G,e,h=>by
  refine gA e h fun c _ _ h => ?_;rw [of_decide_eq_true h];exact Cq
 | .bl i,C,X,G,e,h=>by
  refine gA e h fun c _ _ h => ?_;rw [of_decide_eq_true h];exact DV
 | .non,C,X,G,e,h=>by
  refine gA e h fun c _ _ h => ?_;rw [of_decide_eq_true h];exact Cr
 | .bin op a b,C,X,G,e,h=>by
  refine D3 e h fun l o r _ h => ?_;simp only [tv,decide_eq_true_eq] at h;rw [h.1.1];exact DW (Da G op) (oT op) (mE G.mono a) (mE G.mono b) (sE a G _ h.1.2) (sE b G _ h.2)
 | .neg a,C,X,G,e,h=>by
  refine iQ e h fun o x _ h => ?_;replace h:=bU h;obtain ⟨ho,h⟩:=h
  cases of_decide_eq_true ho
  exact DX xD nG (mE G.mono a) (sE a G _ h)
 | .cmp op a b,C,X,G,e,h=>by
  refine oW e h fun l os rs pos h => ?_;refine cO os h fun o h => ?_;refine cO rs h fun r h => ?_;simp only [tv,decide_eq_true_eq] at h;obtain ⟨⟨⟨ho,L⟩,hb⟩,hm⟩:=h;rw [Je] at hm;subst ho;exact Ct (qP G op) (fR op) (mE G.mono a) (mE G.mono b) (sE a G _ L) (sE b G _ hb) hm
 | .and es,C,X,G,e,h=>by
  refine i5 e h fun o xs _ h => ?_;replace h:=bU h;obtain ⟨ho,h⟩:=h;obtain ⟨ho,q⟩:=bU ho
  cases of_decide_eq_true ho
  exact sAnds es G _ _ h (by intro z;rw [z] at q;cases q)
 | .or es,C,X,G,e,h=>by
  refine i5 e h fun o xs _ h => ?_;replace h:=bU h;obtain ⟨ho,h⟩:=h;obtain ⟨ho,q⟩:=bU ho
  cases of_decide_eq_true ho
  exact sOrs es G _ _ h (by intro z;rw [z] at q;cases q)
 | .not a,C,X,G,e,h=>by
  refine iQ e h fun o x _ h => ?_;replace h:=bU h;obtain ⟨ho,h⟩:=h
  cases of_decide_eq_true ho
  exact CF (mE G.mono a) (sE a G _ h)
 | .ite c a b,C,X,G,e,h=>by
  refine D4 e h fun t x y _ h => ?_;simp only [tv] at h;exact E4 (mT G.mono c) (mE G.mono a) (mE G.mono b) (sT c G _ h.1.1) (sE a G _ h.1.2) (sE b G _ h.2)
 | .tup es,C,X,G,e,h=>by
  refine cq e h fun xs _ _ h => ?_;exact Cv (mA G.mono es) (sA es G _ h)
 | .lst es,C,X,G,e,h=>by
  refine Ea e h fun xs _ h => ?_;exact Cw (mA G.mono es) (sA es G _ h)
 | .ix a b,C,X,G,e,h=>by
  refine dM e h fun x y _ h => ?_;simp only [tv] at h;exact DY (ER (by have:=G.units;lia)) qu (mE G.mono a) (mE G.mono b) (sE a G _ h.1.2) (sE b G _ h.2) (yq h.1.1)
 | .sl a lo hi,C,X,G,e,h=>by
  refine jSl e h fun x l u s p pos h => ?_;refine jon s h fun  h => ?_;simp only [tv] at h;exact E5 (mE G.mono a) (mO G.mono lo) (mO G.mono hi) (sE a G _ h.1.1) (sO lo G _ h.1.2) (sO hi G _ h.2)
 | .call f es,C,X,G,e,h=>by
  refine cr e h fun x xs p pos h => ?_;simp only [tv,decide_eq_true_eq,Je] at h;have hA:=sA es G _ h.2;have J:=gC h.2
  cases xs with
  | nil =>
    cases es with
    | nil=>exact yr G h.1.1.1 (G.gl h.1.1.2) h.1.2
    | cons _ _=>simp [okEs] at h
  | cons y ys =>
    simp only [Jv,tv] at J;exact B7 G (mA G.mono es) h.1.1.1 (G.gl h.1.1.2) h.1.2 hA (ai J.1) (iT J.2)
 | .blt f es,C,X,G,e,h=>by
  refine cr e h fun x xs p pos h => ?_;simp only [tv,decide_eq_true_eq,Je] at h;have hA:=sA es G _ h.2;have J:=gC h.2;obtain ⟨⟨⟨rfl,O⟩,q⟩,_⟩:=h
  cases xs with
  | nil=>simp at q
  | cons y ys =>
    simp only [Jv,tv] at J;exact Db G (mA G.mono es) (G.gl O) hA (ai J.1) (iT J.2)
 | .dnew t,C,X,G,e,h=>by
  refine Eb e h fun ks vs _ h => ?_;refine gB ks h fun  h => ?_;refine gB vs h fun  h => ?_;exact AK
 | .dget o k' x,C,X,G,e,h=>by
  refine mY e h fun y n xs ap cp h => ?_;refine fU xs h fun e1 e2 h => ?_;simp only [tv,decide_eq_true_eq] at h;obtain ⟨⟨⟨⟨⟨⟨⟨rfl,j⟩,hl⟩,EX⟩,Y⟩,ho⟩,hk⟩,hx⟩:=h;have st:HG [e1,e2] X.env=[(false,eval e1 X.env),(false,eval e2 X.env)]:=by
   rw [ai EX,ai Y];rfl
  refine AU (by have:=G.units;lia) (mE G.mono o) (mE G.mono k') (mE G.mono x) (sE o G _ ho) (sE k' G _ hk) (sE x G _ hx) ⟨eE j, ?_,hl, ?_⟩
  ·rw [st];rfl
  ·rw [st];rfl
 | .lrng a,C,X,G,e,h=>by
  refine cr e h fun x xs p pos h => ?_;refine cO xs h fun w h => ?_;refine cr w h fun z ys p2 F1 h => ?_;refine cO ys h fun y h => ?_;simp only [tv,decide_eq_true_eq] at h;obtain ⟨⟨⟨⟨⟨rfl,O⟩,rfl⟩,Z⟩,hs⟩,L⟩:=h;exact Af (mE G.mono a) G.calm (sE a G _ L) (G.gl O) (G.mgB _ (by decide)) (G.gl Z) (G.mgB _ (by decide)) (ai hs)
 | .isin2 a T U,C,X,G,e,h=>by
  refine cr e h fun x xs p pos h => ?_;refine fU xs h fun y w h => ?_;refine cq w h fun ws k1 p1 h => ?_;refine fU ws h fun z' v' h => ?_;refine cM z' h fun z p2 h => ?_;refine cM v' h fun v p3 h => ?_;simp only [tv,decide_eq_true_eq] at h;obtain ⟨⟨⟨⟨⟨⟨⟨⟨⟨rfl,O⟩,Z⟩,EY⟩,hz⟩,hy⟩,hT⟩,hU⟩,hs⟩,L⟩:=h;obtain ⟨n1,n2,n3,n4⟩:=iU G T hT;obtain ⟨m1,m2,m3,m4⟩:=iU G U hU;subst hz hy;exact y4 hT hU (mE G.mono a) (sE a G _ L) (G.gl O) (G.mgB _ (by decide)) (G.gl Z) n1 n2 n3 n4 (G.gl EY) m1 m2 m3 m4 (ai hs)
 | .isin a T,C,X,G,e,h=>by
  refine cr e h fun x xs p pos h => ?_;refine fU xs h fun y w h => ?_;refine cM w h fun z p2 h => ?_;simp only [tv,decide_eq_true_eq] at h;obtain ⟨⟨⟨⟨⟨⟨rfl,O⟩,Z⟩,hz⟩,hT⟩,hs⟩,L⟩:=h;obtain ⟨n1,n2,n3,n4⟩:=iU G T hT;subst hz;exact Az hT (mE G.mono a) (sE a G _ L) (G.gl O) (G.mgB _ (by decide)) (G.gl Z) n1 n2 n3 n4 (ai hs) rfl
 | .meth m o a,C,X,G,e,h=>by
  refine mY e h fun x n xs ap cp h => ?_;refine cO xs h fun y h => ?_;simp only [tv,decide_eq_true_eq] at h;obtain ⟨⟨⟨⟨⟨hn,j⟩,hl⟩,hs⟩,ho⟩,L⟩:=h;subst hn;have pa:PA X [y] (lA X.K (ax (wE Φ a) bv)):=aV (mE G.mono a) aq (sE a G _ L) cJ (ai hs);have few:((Li cp (HG [y] X.env)).all (fun x => !x.1)&&(R8 cp (OQ [] X.env)).all (fun x=>x.1.isSome)&&decide (([y]:List Expr).length+([]:List N8).length+(if ([]:List N8).isEmpty then 0 else 1) < 30))=true:=by
   rw [ai hs];rfl
  cases m with
  | append=>exact PE.imp (yY Kt PySem.F.slot_list_append PySem.F.type_list_append ll (sE o G _ ho) pa (eE j) few hl (ai hs) rfl) (qA im (mE G.mono o) (aj (mE G.mono a) aq) xI)
 | .ins o i a,C,X,G,e,h=>by
  refine mY e h fun x n xs ap cp h => ?_;refine fU xs h fun y z h => ?_;simp only [tv,decide_eq_true_eq] at h;obtain ⟨⟨⟨⟨⟨⟨⟨hn,j⟩,hl⟩,hs⟩,Y⟩,ho⟩,hi⟩,L⟩:=h;subst hn;have pa:PA X [y,z] (lA X.K (ax (wE Φ i) (ax (wE Φ a) bv))):=aV (mE G.mono i) (aj (mE G.mono a) aq) (sE i G _ hi) (aV (mE G.mono a) aq (sE a G _ L) cJ (ai Y)) (ai hs);have few:((Li cp (HG [y,z] X.env)).all (fun x => !x.1)&&(R8 cp (OQ [] X.env)).all (fun x=>x.1.isSome)&&decide (([y,z]:List Expr).length+([]:List N8).length+(if ([]:List N8).isEmpty then 0 else 1) < 30))=true:=by
   rw [ai hs,ai Y];rfl
  exact PE.imp (yY Kt NW PySem.F.type_list_insert vD (sE o G _ ho) pa (eE j) few hl (ai hs) (by rw [ai Y];rfl)) (qA ir (mE G.mono o) (aj (mE G.mono i) (aj (mE G.mono a) aq)) yb)
 | .meth0 m o,C,X,G,e,h=>by
  refine mY e h fun x n xs ap cp h => ?_;refine gB xs h fun  h => ?_;simp only [tv,decide_eq_true_eq] at h;obtain ⟨⟨⟨hn,j⟩,hl⟩,ho⟩:=h;subst hn
  cases m with
  | clear=>exact PE.imp (ud Kt PySem.F.slot_list_clear PySem.F.type_list_clear wV (sE o G _ ho) (eE j) hl) (nT jv (mE G.mono o) AA)
  | reverse=>exact PE.imp (ud Kt PySem.F.slot_list_reverse PySem.F.type_list_reverse se (sE o G _ ho) (eE j) hl) (nT gj (mE G.mono o) uN)
 | .comp fr N' c,C,X,G,e,h=>by
  refine vI e h fun elt gens sc pos h => ?_;simp only [tv] at h;have B:bh sc X.env.scope X.N N' fr:=by rw [G.sc,G.N];exact jT h.1
  have B':bh sc C.sc C.N N' fr:=jT h.1
  cases c with
  | last src g ifs m =>
    have h2:=h.2;simp only [okC] at h2
    split at h2
    ·rename_i t it fs a;simp only [tv,decide_eq_true_eq] at h2;obtain ⟨⟨⟨⟨rfl,hi⟩,O⟩,ht⟩,he⟩:=h2;refine PE.imp (ik G.calm G.hx B (fun g' z=>by simp at z) (sI src G _ t hi).1 (fun s H fp=>sG (G.blk B' s H fp) g t O) (tb:=fun p=>lC X.K p (bw (wTl Φ ifs) (ci (wE Φ m)))) (fun s H fp p => ?_) (sI src G _ t hi).2) (eL (mI G.mono src) (aS (bI (mE G.mono m)) (mTl G.mono ifs)))
     have G':=G.blk B' s H fp;exact dS (p:=p) G' (bI (mE G.mono m)) (mTl G.mono ifs) (PB.imp (km G'.hx (sE m G' elt he) rfl) (gm (mE G.mono m))) (sTl ifs G' fs ht)
    ·cases h2
  | more src g ifs rest =>
    have h2:=h.2;simp only [okC] at h2
    split at h2
    ·rename_i t it fs a g2 gs;simp only [tv,decide_eq_true_eq] at h2;obtain ⟨⟨⟨⟨rfl,hi⟩,O⟩,ht⟩,he⟩:=h2;have EZ:∀ g',(g2::gs)[0]? = some g'->g'.is_async=0:=fun g' z=>by
      have z':g2=g':=by simpa using z
      subst z';exact gD he
     refine PE.imp (ik G.calm G.hx B EZ (sI src G _ t hi).1 (fun s H fp=>sG (G.blk B' s H fp) g t O) (tb:=fun p=>lC X.K p (bw (wTl Φ ifs) (wCl Φ rest))) (fun s H fp p => ?_) (sI src G _ t hi).2) (eL (mI G.mono src) (aS (mCl G.mono rest) (mTl G.mono ifs)));have G':=G.blk B' s H fp;exact dS (p:=p) G' (mCl G.mono rest) (mTl G.mono ifs) (sCl rest G' elt (⟨t,it,fs,0⟩::g2::gs) sc pos 0 (.inl rfl) p he) (sTl ifs G' fs ht)
    ·cases h2
theorem sA:∀ (m:MEs) {C:Ctx} {X:Cx} (G:Good C Φ k X) (es:List Expr),okEs m C es=true->PA X es (lA X.K (wA Φ m))
 | .nil,C,X,G,es,h=>by
  simp [okEs] at h;subst h;exact cJ
 | .cons m r,C,X,G,[],h=>by simp [okEs] at h
 | .cons m r,C,X,G,e::es,h=>by
  simp only [okEs,tv] at h;exact aV (mE G.mono m) (mA G.mono r) (sE m G e h.1.2) (sA r G es h.2) (ai h.1.1)
theorem sAnds:∀ (m:MEs) {C:Ctx} {X:Cx} (G:Good C Φ k X) (es:List Expr) (pos:Pos),okEs m C es=true->es≠[]->PE X (.BoolOp .And es pos) (lE X.K (wAnds Φ m))
 | .nil,C,X,G,es,pos,h,j=>by simp [okEs] at h;exact absurd h j
 | .cons m r,C,X,G,[],pos,h,j=>absurd rfl j
 | .cons m .nil,C,X,G,e::es,pos,h,_=>by
  simp only [okEs,tv] at h;obtain ⟨h1,h2⟩:=h;simp at h2;subst h2;exact uJ (sE m G e h1.2)
 | .cons m (.cons m2 r),C,X,G,e::es,pos,h,_=>by
  simp only [okEs,tv] at h;obtain ⟨h1,h2⟩:=h
  cases es with
  | nil=>simp at h2
  | cons f fs =>
    exact CD (mE G.mono m) (mAnds G.mono _) (sE m G e h1.2) (sAnds (.cons m2 r) G (f::fs) pos (by simpa only [okEs,tv] using h2) (by simp))
theorem sOrs:∀ (m:MEs) {C:Ctx} {X:Cx} (G:Good C Φ k X) (es:List Expr) (pos:Pos),okEs m C es=true->es≠[]->PE X (.BoolOp .Or es pos) (lE X.K (wOrs Φ m))
 | .nil,C,X,G,es,pos,h,j=>by simp [okEs] at h;exact absurd h j
 | .cons m r,C,X,G,[],pos,h,j=>absurd rfl j
 | .cons m .nil,C,X,G,e::es,pos,h,_=>by
  simp only [okEs,tv] at h;obtain ⟨h1,h2⟩:=h;simp at h2;subst h2;exact uJ (sE m G e h1.2)
 | .cons m (.cons m2 r),C,X,G,e::es,pos,h,_=>by
  simp only [okEs,tv] at h;obtain ⟨h1,h2⟩:=h
  cases es with
  | nil=>simp at h2
  | cons f fs =>
    exact E3 (mE G.mono m) (mOrs G.mono _) (sE m G e h1.2) (sOrs (.cons m2 r) G (f::fs) pos (by simpa only [okEs,tv] using h2) (by simp))
theorem sO:∀ (m:MO) {C:Ctx} {X:Cx} (G:Good C Φ k X) (e:Option Expr),okO m C e=true->PO X e (lO X.K (wO Φ m))
 | .none,C,X,G,e,h=>by
  simp [okO] at h;subst h;exact Aw
 | .some m,C,X,G,none,h=>by simp [okO] at h
 | .some m,C,X,G,some e,h=>by
  simp only [okO] at h;exact Ax (mE G.mono m) (sE m G e h)
theorem sT:∀ (m:MT) {C:Ctx} {X:Cx} (G:Good C Φ k X) (e:Expr),okT m C e=true->PT X e (lT X.K (wT Φ m))
 | .tru m,C,X,G,e,h=>by
  simp only [okT,tv] at h;exact Cz (mE G.mono m) (sE m G e h.2) (t8 h.1)
 | .cmp op a b,C,X,G,e,h=>by
  refine oW e h fun l os rs pos h => ?_;refine cO os h fun o h => ?_;refine cO rs h fun r h => ?_;simp only [tv,decide_eq_true_eq] at h;obtain ⟨⟨⟨ho,q⟩,hb⟩,hm⟩:=h;rw [Je] at hm;subst ho;exact Cu (qP G op) (fR op) (mE G.mono a) (mE G.mono b) (sE a G _ q) (sE b G _ hb) hm
 | .and ts,C,X,G,e,h=>by
  refine i5 e h fun o xs _ h => ?_;replace h:=bU h;obtain ⟨ho,h⟩:=h;obtain ⟨ho,j⟩:=bU ho
  cases of_decide_eq_true ho
  exact (sAndTs ts G _ _ h (by intro z;rw [z] at j;cases j)).pt
 | .or ts,C,X,G,e,h=>by
  refine i5 e h fun o xs _ h => ?_;replace h:=bU h;obtain ⟨ho,h⟩:=h;obtain ⟨ho,j⟩:=bU ho
  cases of_decide_eq_true ho
  exact (sOrTs ts G _ _ h (by intro z;rw [z] at j;cases j)).pt
 | .not t,C,X,G,e,h=>by
  refine iQ e h fun o x _ h => ?_;replace h:=bU h;obtain ⟨ho,h⟩:=h
  cases of_decide_eq_true ho
  exact CA (mT G.mono t) (sT t G _ h)
theorem sAndTs:∀ (m:MTs) {C:Ctx} {X:Cx} (G:Good C Φ k X) (es:List Expr) (pos:Pos),okTs m C es=true->es≠[]->PW X (.BoolOp .And es pos) (lT X.K (wAndTs Φ m))
 | .nil,C,X,G,es,pos,h,j=>by simp [okTs] at h;exact absurd h j
 | .cons m r,C,X,G,[],pos,h,j=>absurd rfl j
 | .cons m .nil,C,X,G,e::es,pos,h,_=>by
  simp only [okTs,tv] at h;obtain ⟨h1,h2⟩:=h;simp at h2;subst h2;exact Au (sT m G e h1)
 | .cons m (.cons m2 r),C,X,G,e::es,pos,h,_=>by
  simp only [okTs,tv] at h;obtain ⟨h1,h2⟩:=h
  cases es with
  | nil=>simp at h2
  | cons f fs =>
    exact CC (mT G.mono m) (mAndTs G.mono _) (sT m G e h1) (sAndTs (.cons m2 r) G (f::fs) pos (by simpa only [okTs,tv] using h2) (by simp))
theorem sOrTs:∀ (m:MTs) {C:Ctx} {X:Cx} (G:Good C Φ k X) (es:List Expr) (pos:Pos),okTs m C es=true->es≠[]->PW X (.BoolOp .Or es pos) (lT X.K (wOrTs Φ m))
 | .nil,C,X,G,es,pos,h,j=>by simp [okTs] at h;exact absurd h j
 | .cons m r,C,X,G,[],pos,h,j=>absurd rfl j
 | .cons m .nil,C,X,G,e::es,pos,h,_=>by
  simp only [okTs,tv] at h;obtain ⟨h1,h2⟩:=h;simp at h2;subst h2;exact CB (sT m G e h1)
 | .cons m (.cons m2 r),C,X,G,e::es,pos,h,_=>by
  simp only [okTs,tv] at h;obtain ⟨h1,h2⟩:=h
  cases es with
  | nil=>simp at h2
  | cons f fs =>
    exact E2 (mT G.mono m) (mOrTs G.mono _) (sT m G e h1) (sOrTs (.cons m2 r) G (f::fs) pos (by simpa only [okTs,tv] using h2) (by simp))
theorem sTl:∀ (m:MTs) {C:Ctx} {X:Cx} (G:Good C Φ k X) (es:List Expr),okTs m C es=true->Ih (fun c t=>PT X c t) es ((wTl Φ m).map (lT X.K))
 | .nil,C,X,G,es,h=>by
  simp [okTs] at h;subst h;exact .nil
 | .cons m r,C,X,G,[],h=>by simp [okTs] at h
 | .cons m r,C,X,G,e::es,h=>by
  simp only [okTs,tv] at h;exact .cons (sT m G e h.1) (sTl r G es h.2)
theorem sI:∀ (m:MI) {C:Ctx} {X:Cx} (G:Good C Φ k X) (e tg:Expr),okI m C tg e=true->PI X tg e (lI X.K (wI Φ m)) /\ ∀ x,JE e X.env x=pure x
 | .seq m,C,X,G,e,tg,h=>by
  simp only [okI,tv] at h;exact ⟨CJ (mE G.mono m) (sE m G e h.2),p8 h.1⟩
 | .keys m,C,X,G,e,tg,h=>by
  simp only [okI,tv] at h;exact ⟨B3 (mE G.mono m) (sE m G e h.2),p8 h.1⟩
 | .rng1 a,C,X,G,e,tg,h=>by
  refine cr e h fun x xs p pos h => ?_;refine cO xs h fun y h => ?_;simp only [tv,decide_eq_true_eq] at h;obtain ⟨⟨⟨rfl,q⟩,hs⟩,B⟩:=h;exact ⟨AD (aj (mE G.mono a) aq) (G.gl q) (G.mgB _ (by decide)) (aV (mE G.mono a) aq (sE a G _ B) cJ (ai hs)) (ai hs),fun x=>rfl⟩
 | .enum a,C,X,G,e,tg,h=>by
  refine cr e h fun x xs p pos h => ?_;refine cO xs h fun y h => ?_;refine cq tg h fun ts kt pt h => ?_;simp only [tv,decide_eq_true_eq] at h;obtain ⟨⟨⟨rfl,q⟩,hs⟩,B⟩:=h;exact ⟨AG (mE G.mono a) (G.gl q) (G.mgB _ (by decide)) (aV (mE G.mono a) aq (sE a G _ B) cJ (ai hs)) (ai hs),fun x=>rfl⟩
 | .zip3 a b c,C,X,G,e,tg,h=>by
  refine cr e h fun x xs p pos h => ?_;refine yp xs h fun y z u h => ?_;refine cq tg h fun ts kt pt h => ?_;simp only [tv,decide_eq_true_eq] at h;obtain ⟨⟨⟨⟨⟨⟨⟨rfl,q⟩,hs⟩,j⟩,F⟩,B⟩,hb⟩,J⟩:=h;exact ⟨AF (mE G.mono a) (mE G.mono b) (mE G.mono c) (G.gl q) (G.mgB _ (by decide)) (aV (mE G.mono a) (aj (mE G.mono b) (aj (mE G.mono c) aq)) (sE a G _ B) (aV (mE G.mono b) (aj (mE G.mono c) aq) (sE b G _ hb) (aV (mE G.mono c) aq (sE c G _ J) cJ (ai F)) (ai j)) (ai hs)) (by rw [ai hs,ai j,ai F];rfl) (by rw [ai j,ai F];rfl),fun x=>rfl⟩
 | .zip a b,C,X,G,e,tg,h=>by
  refine cr e h fun x xs p pos h => ?_;refine fU xs h fun y z h => ?_;refine cq tg h fun ts kt pt h => ?_;simp only [tv,decide_eq_true_eq] at h;obtain ⟨⟨⟨⟨⟨rfl,q⟩,hs⟩,j⟩,B⟩,hb⟩:=h;exact ⟨CM (mE G.mono a) (mE G.mono b) (G.gl q) (G.mgB _ (by decide)) (aV (mE G.mono a) (aj (mE G.mono b) aq) (sE a G _ B) (aV (mE G.mono b) aq (sE b G _ hb) cJ (ai j)) (ai hs)) (by rw [ai hs,ai j];rfl) (ai j),fun x=>rfl⟩
theorem sCl:∀ (m:MC) {C:Ctx} {X:Cx} (G:Good C Φ k X) (elt:Expr) (gens:List Iw) (sc:Scope) (pos:Pos) (d:Nat) (_:d=0∨d=d) (p:Addr),okC m C C (gens.drop (d+1)) elt=true ->
 PB X (bg elt gens sc pos d (.ref p) X.env) (lC X.K p (wCl Φ m))
 | .last src g ifs m,C,X,G,elt,gens,sc,pos,d,_,p,h=>by
  simp only [okC] at h
  split at h
  ·rename_i t it fs a hd;simp only [tv,decide_eq_true_eq] at h;obtain ⟨⟨⟨⟨rfl,hi⟩,j⟩,q⟩,he⟩:=h;have e1:gens[d+1]? = some ⟨t,it,fs,0⟩:=by
    have z:(gens.drop (d+1))[0]? = some ⟨t,it,fs,0⟩:=by rw [hd];rfl
    rw [Lx] at z;simpa using z
   have e2:gens[d+1+1]? = none:=by
    have z:(gens.drop (d+1))[1]? = none:=by rw [hd];rfl
    rw [Lx] at z;simpa using z
   refine PB.imp (lr G.hx G.calm e1 (fun g' z=>by rw [e2] at z;cases z) (sI src G _ t hi).1 (sG G g t j) (dS (p:=p) G (bI (mE G.mono m)) (mTl G.mono ifs) (PB.imp (km G.hx (sE m G elt he) e2) (gm (mE G.mono m))) (sTl ifs G fs q)) (sI src G _ t hi).2) (iq (mI G.mono src) (aS (bI (mE G.mono m)) (mTl G.mono ifs)))
  ·cases h
 | .more src g ifs rest,C,X,G,elt,gens,sc,pos,d,_,p,h=>by
  simp only [okC] at h
  split at h
  ·rename_i t it fs a g2 gs hd;simp only [tv,decide_eq_true_eq] at h;obtain ⟨⟨⟨⟨rfl,hi⟩,j⟩,q⟩,he⟩:=h;have e1:gens[d+1]? = some ⟨t,it,fs,0⟩:=by
    have z:(gens.drop (d+1))[0]? = some ⟨t,it,fs,0⟩:=by rw [hd];rfl
    rw [Lx] at z;simpa using z
   have e2:gens[d+1+1]? = some g2:=by
    have z:(gens.drop (d+1))[1]? = some g2:=by rw [hd];rfl
    rw [Lx] at z;simpa using z
   have F:gens.drop (d+1+1)=g2::gs:=by
    have z:(gens.drop (d+1)).drop 1=g2::gs:=by rw [hd];rfl
    rw [Nx] at z;simpa using z
   have B:∀ g',gens[d+1+1]? = some g'->g'.is_async=0:=fun g' z=>by
    rw [e2] at z;cases z;exact gD he
   refine PB.imp (lr G.hx G.calm e1 B (sI src G _ t hi).1 (sG G g t j) (dS (p:=p) G (mCl G.mono rest) (mTl G.mono ifs) (sCl rest G elt gens sc pos (d+1) (.inr rfl) p (by rw [F];exact he)) (sTl ifs G fs q)) (sI src G _ t hi).2) (iq (mI G.mono src) (aS (mCl G.mono rest) (mTl G.mono ifs)))
  ·cases h
end
end
end
section
section
variable {Φ:Phi} {k:Nat} {C:Ctx} {X:Cx}
theorem yt {sc:Scope} {ts vs:List Expr} {kk j:Nat} {pp p2:Pos} {env:Env} (hs:env.scope=sc) (q:sc.kind = .function) (h:t6 sc ts vs=true):JR [.Tuple ts kk pp] (.Tuple vs j p2) env=pure none:=by
 have hb:env.blockKind = .function:=by unfold NX;rw [hs,q];rfl
 have h':t6 sc ts vs=true:=h;unfold JR;dsimp only;rw [hb]
 by_cases c1:(!(ts.length==2 || ts.length==3) || vs.length != ts.length)=true
 ·simp only [c1,Bool.true_or,if_true]
 ·simp only [Mr] at c1;rw [c1];simp only [MB,bne_self_eq_false,J4,if_false]
  split
  ·rfl
  ·
    generalize z:List.filterMap _ ts=L;obtain rfl:L=bb sc ts:=by
     rw [<- z];unfold bb;congr 1
     funext x
     cases x <;> first | rfl | (unfold Q1;rw [hs])
    unfold t6 at h';rw [c1] at h';simp only [MB,OF] at h'
    by_cases c3:((bb sc ts).length != ts.length || (bb sc ts).eraseDups.length != (bb sc ts).length)=true
    ·rw [if_pos c3]
    ·rw [if_neg c3];have B:vs.all (Pz 8)=true:=by
      rcases h' with h' | h'
      ·exact absurd (OF _ _ |>.mpr h') c3
      ·exact h'
     rw [if_pos B]
theorem qR {sc:Scope} {ts vs:List Expr} {ns:List Str} {kk j:Nat} {pp p2:Pos} {env:Env} (hs:env.scope=sc) (q:sc.kind = .function) (h:mZ sc ts vs ns=true):JR [.Tuple ts kk pp] (.Tuple vs j p2) env=pure (some ns):=by
 have hb:env.blockKind = .function:=by unfold NX;rw [hs,q];rfl
 simp only [mZ,tv,Je,decide_eq_true_eq] at h;obtain ⟨⟨⟨⟨⟨B,F⟩,G⟩,J⟩,O⟩,U⟩:=h;unfold JR;dsimp only;rw [hb,B];simp only [MB,bne_self_eq_false,J4,if_false]
 split
 ·next z=>exact absurd z (by rw [Mr];exact F)
 ·generalize Y:List.filterMap _ ts=L;obtain rfl:L=bb sc ts:=by
   rw [<- Y];unfold bb;congr 1
   funext x
   cases x <;> first | rfl | (unfold Q1;rw [hs])
  rw [J,O,U,G];rfl
theorem fb {C:Ctx} {i:Nat} {x:Str} (h:iS C i x=true):C.N[i]? = some x/\C.sc.names.lookup x=some .local:=by
 simpa [iS] using h
theorem cY {tg e:Expr} {l:Nat} {env:Env} {b:Bool} (h:LB e (some tg) l env=pure b):KP [tg] e l env=pure b:=by
 unfold KP;exact h
theorem B8 {sc:Scope} {tg e:Expr} {env:Env} (hs:env.scope=sc) (j:sc.kind = .function) (h:jS sc tg e=true):JR [tg] e env=pure none:=by
 cases tg with
 | Tuple ts kk pp =>
   cases e with
   | Tuple vs q p2=>exact yt hs j h
   | _=>rfl
 | _=>first | rfl | (simp [jS] at h;done)
theorem pe {elt:Expr} {gens:List Iw} {s sc:Scope} {pos px:Pos} {x:Str} {l:Nat} {env:Env} (hs:env.scope=sc) (j:sc.kind = .function) :
 LB (.ListComp elt gens s pos) (some (.Name x px)) l env=pure (t7 sc x px (.ListComp elt gens s pos)):=by
 have hb:env.blockKind = .function:=by unfold NX;rw [hs,j];rfl
 unfold LB;dsimp only;rw [hb];unfold t7 Q1;rw [hs];rfl
theorem vL {ek ev:Expr} {gens:List Iw} {s sc:Scope} {pos px:Pos} {x:Str} {l:Nat} {env:Env} (hs:env.scope=sc) (j:sc.kind = .function) :
 LB (.DictComp ek ev gens s pos) (some (.Name x px)) l env=pure (sc.names.lookup x==some .local&&px.line==(Expr.DictComp ek ev gens s pos).pos.line && !(s.names.any fun (n,k)=>n==x&&(k == .local || k == .cell))):=by
 have hb:env.blockKind = .function:=by unfold NX;rw [hs,j];rfl
 unfold LB;dsimp only;rw [hb];unfold Q1;rw [hs];rfl
mutual
theorem sS:∀ (m:MS) (G:Good C Φ k X) (q:C.sc.kind = .function) (s:Stmt),okS m C s=true->PS X s (lS X.K (wS Φ m))
 | .asg g m,G,q,s,h=>by
  refine fT s h fun ts e pos h1 => ?_;clear h;refine cO ts h1 fun tg h => ?_;clear h1;simp only [tv] at h;obtain ⟨⟨⟨F,he⟩,J⟩,O⟩:=h;have hw:=B8 G.sc q J;have pg:=sG G g tg F;have plain:KP [tg] e pos.line X.env=pure false->PS X (.Assign [tg] e pos) (lS X.K (iI (wE Φ m) (bG g))):=fun hs =>
   PS.imp (tT (sE m G e he) pg hs hw (by cases tg <;> first | rfl | (simp [jS] at J;done))) (xS (mE G.mono m))
  cases tg with
  | Tuple ts a b=>exact plain (cY (kK O))
  | Name x px =>
    cases e with
    | ListComp elt gens sc cpos =>
      by_cases sw:t7 C.sc x px (.ListComp elt gens sc cpos)=true
      ·cases g with
       | tup gs=>exact absurd F He
       | name i =>
         cases m with
         | comp fr N' c =>
           replace he:=bU he;have B:bh sc X.env.scope X.N N' fr:=by rw [G.sc,G.N];exact jT he.1
           have B':bh sc C.sc C.N N' fr:=jT he.1;have EX:PG X (.Name x px) (j5 i):=by
            have F:=bU F;have F:=Mq (bU F.1) F.2;exact qm G.nd (by rw [G.N];exact of_decide_eq_true F.1.1) (G.loc F.1.2) (G.own F.2)
           have EY:∀ l,LB (.ListComp elt gens sc cpos) (some (.Name x px)) l X.env=pure true:=fun l=>by rw [pe G.sc q,sw]
           have mc:=mCmp G.mono fr c
           cases c with
           | last src g ifs m =>
             have h2:=he.2;simp only [okC] at h2
             split at h2
             ·rename_i t it fs a;simp only [tv,decide_eq_true_eq] at h2;obtain ⟨⟨⟨⟨rfl,hi⟩,U⟩,ht⟩,L⟩:=h2;refine PS.imp (jh (i:=i) (g:=lG X.K (bG g)) (wi:=lI X.K (wI Φ src)) G.calm G.hx B (fun g' z=>by simp at z) (sI src G _ t hi).1 (fun s H fp=>sG (G.blk B' s H fp) g t U) (tb:=fun p=>lC X.K p (bw (wTl Φ ifs) (ci (wE Φ m)))) (fun s H fp p => ?_) (sI src G _ t hi).2 EX (EY _)) fun D σ H h => ?_
              ·have G':=G.blk B' s H fp;exact dS (p:=p) G' (bI (mE G.mono m)) (mTl G.mono ifs) (PB.imp (km G'.hx (sE m G' elt L) rfl) (gm (mE G.mono m))) (sTl ifs G' fs ht)
              ·exact eL (mI G.mono src) (aS (bI (mE G.mono m)) (mTl G.mono ifs)) σ H _ (lL mc D σ H h)
             ·cases h2
           | more src g ifs rest =>
             have h2:=he.2;simp only [okC] at h2
             split at h2
             ·rename_i t it fs a g2 gs;simp only [tv,decide_eq_true_eq] at h2;obtain ⟨⟨⟨⟨rfl,hi⟩,U⟩,ht⟩,L⟩:=h2;have EZ:∀ g',(g2::gs)[0]? = some g'->g'.is_async=0:=fun g' z=>by
               have z':g2=g':=by simpa using z
               subst z';exact gD L
              refine PS.imp (jh (i:=i) (g:=lG X.K (bG g)) (wi:=lI X.K (wI Φ src)) G.calm G.hx B EZ (sI src G _ t hi).1 (fun s H fp=>sG (G.blk B' s H fp) g t U) (tb:=fun p=>lC X.K p (bw (wTl Φ ifs) (wCl Φ rest))) (fun s H fp p => ?_) (sI src G _ t hi).2 EX (EY _)) fun D σ H h => ?_
              ·have G':=G.blk B' s H fp;exact dS (p:=p) G' (mCl G.mono rest) (mTl G.mono ifs) (sCl rest G' elt (⟨t,it,fs,0⟩::g2::gs) sc cpos 0 (.inl rfl) p L) (sTl ifs G' fs ht)
              ·exact eL (mI G.mono src) (aS (mCl G.mono rest) (mTl G.mono ifs)) σ H _ (lL mc D σ H h)
             ·cases h2
         | _=>exact absurd he He
      ·refine plain ?_;simp only [Mr] at sw;refine cY ?_;rw [pe G.sc q,sw]
    | SetComp _ _ _ _=>cases m <;> exact absurd he He
    | DictComp _ _ _ _ _ =>
      refine plain (cY ?_);rw [vL G.sc q];unfold D9 at O;simp only [Je] at O;rw [O]
    | _=>exact plain (cY rfl)
  | _=>simp [jS] at J
 | .par i j a b,G,q,s,h=>by
  refine fT s h fun ts e pos h => ?_;refine cO ts h fun tg h => ?_;refine cq tg h fun ts k p h => ?_;refine cq e h fun es k' p' h => ?_;refine fU ts h fun t u h => ?_;refine fU es h fun e f h => ?_;refine cM t h fun x px h => ?_;refine cM u h fun y py h => ?_;simp only [tv,decide_eq_true_eq] at h;obtain ⟨⟨⟨⟨⟨⟨⟨hi,hj⟩,Y⟩,n1⟩,n2⟩,J⟩,hb⟩,hw⟩:=h;obtain ⟨i1,i2⟩:=fb hi;obtain ⟨j1,j2⟩:=fb hj;exact PS.imp (C1 G.calm G.nd (by rw [G.N];exact i1) (by rw [G.N];exact j1) Y (by rw [G.sc];exact i2) (by rw [G.sc];exact j2) (aV (mE G.mono a) (aj (mE G.mono b) aq) (sE a G _ J) (aV (mE G.mono b) aq (sE b G _ hb) cJ (ai n2)) (ai n1)) (qR G.sc q hw) (cY rfl)) (v7 (aj (mE G.mono a) (aj (mE G.mono b) aq)))
 | .par3 i j l a b c,G,q,s,h=>by
  refine fT s h fun ts e pos h => ?_;refine cO ts h fun tg h => ?_;refine cq tg h fun ts k p h => ?_;refine cq e h fun es k' p' h => ?_;refine yp ts h fun t u v h => ?_;refine yp es h fun e f g h => ?_;refine cM t h fun x px h => ?_;refine cM u h fun y py h => ?_;refine cM v h fun z pz h => ?_;simp only [tv,decide_eq_true_eq] at h;obtain ⟨⟨⟨⟨⟨⟨⟨⟨⟨⟨⟨⟨hi,hj⟩,hl⟩,Y⟩,F1⟩,F5⟩,n1⟩,n2⟩,n3⟩,J⟩,hb⟩,O⟩,hw⟩:=h;obtain ⟨i1,i2⟩:=fb hi;obtain ⟨j1,j2⟩:=fb hj;obtain ⟨l1,l2⟩:=fb hl;exact PS.imp (AI G.calm G.nd (by rw [G.N];exact i1) (by rw [G.N];exact j1) (by rw [G.N];exact l1) Y F1 F5 (by rw [G.sc];exact i2) (by rw [G.sc];exact j2) (by rw [G.sc];exact l2) (aV (mE G.mono a) (aj (mE G.mono b) (aj (mE G.mono c) aq)) (sE a G _ J) (aV (mE G.mono b) (aj (mE G.mono c) aq) (sE b G _ hb) (aV (mE G.mono c) aq (sE c G _ O) cJ (ai n3)) (ai n2)) (ai n1)) (qR G.sc q hw) (cY rfl)) (v8 (aj (mE G.mono a) (aj (mE G.mono b) (aj (mE G.mono c) aq))))
 | .put o i m,G,q,s,h=>by
  refine fT s h fun ts e pos h => ?_;refine cO ts h fun tg h => ?_;refine dM tg h fun x y tp h => ?_;simp only [tv] at h;obtain ⟨⟨⟨⟨Z,O⟩,ho⟩,hi⟩,he⟩:=h;exact CO (by have:=G.units;lia) (mE G.mono m) (mE G.mono o) (mE G.mono i) (sE m G e he) (sE o G x ho) (sE i G y hi) (cY (kK O)) rfl (fun v=>by cases y <;> first | rfl | (simp [cX] at Z;done))
 | .augI o i op m,G,q,s,h=>by
  refine qj s h fun t o' e pos h => ?_;refine dM t h fun x y tp h => ?_;simp only [tv,decide_eq_true_eq] at h;obtain ⟨⟨⟨⟨⟨rfl,F6⟩,Z⟩,ho⟩,hi⟩,he⟩:=h;have hu:X.A.units+1 < JS:=by have:=G.units;lia
  have J:∀ ov iv new,augStore y ov iv new=(do holding [new,ov,iv] (Ph ov iv new);release [new,ov,iv] [];pure .next):=fun ov iv new=>by cases y <;> first | rfl | (simp [cX] at Z;done)
  cases op with
  | add=>exact kF hu (mE G.mono o) (mE G.mono i) (mE G.mono m) lN (sE o G x ho) (sE i G y hi) (sE m G e he) uX J
  | sub=>exact kF hu (mE G.mono o) (mE G.mono i) (mE G.mono m) lP (sE o G x ho) (sE i G y hi) (sE m G e he) uY J
  | mul=>exact kF hu (mE G.mono o) (mE G.mono i) (mE G.mono m) lQ (sE o G x ho) (sE i G y hi) (sE m G e he) v6 J
  | _=>simp at F6
 | .drop m,G,q,s,h=>by
  refine D6 s h fun e _ h => ?_;simp only [tv] at h;exact PS.imp (zT (sE m G _ h.2) (kK h.1)) (uW (mE G.mono m))
 | .ret m,G,q,s,h=>by
  refine yn s h fun o _ h => ?_;refine jos o h fun e h => ?_;rw [wS];exact PS.imp (BW (sE m G _ h)) (xR (mE G.mono m))
 | .ite c a b,G,q,s,h=>by
  refine EU s h fun t x y _ h => ?_;simp only [tv] at h;exact PS.imp (DF (sT c G _ h.1.1) (sSs a G q _ h.1.2) (sSs b G q _ h.2)) (AH (mT G.mono c))
 | .for g src b,G,q,s,h=>by
  refine Ec s h fun tg it body els _ h => ?_;refine gB els h fun  h => ?_;simp only [tv] at h;obtain ⟨⟨⟨hs,F⟩,hi⟩,hb⟩:=h;exact PS.imp (C4 (fun e s z=>(G.hx e s z).elim) G.calm (sI src G _ _ hi).1 (sG G g _ F) (sSs b G q _ hb) (p8 hs)) (xT (mI G.mono src) (mSs G.mono b))
 | .while c b,G,q,s,h=>by
  refine B5 s h fun t body els _ h => ?_;refine gB els h fun  h => ?_;simp only [tv] at h;exact PS.imp (wF (fun e s z=>(G.hx e s z).elim) (sT c G _ h.1) (sSs b G q _ h.2)) (sD (mT G.mono c) (mSs G.mono b))
 | .frz i m,G,q,s,h=>by
  simp only [okS] at h;exact CU (sS m G q s h)
 | .pass,G,q,s,h=>by
  refine D8 s h fun _ h => ?_;exact PS.imp zS lK
 | .brk,G,q,s,h=>by
  refine B6 s h fun _ h => ?_;exact PS.imp wB sC
 | .cnt,G,q,s,h=>by
  refine t5 s h fun _ h => ?_;exact PS.imp q8 uV
theorem sSs:∀ (m:MSs) (G:Good C Φ k X) (j:C.sc.kind = .function) (s:List Stmt),okSs m C s=true->PSs X s (lS X.K (wSs Φ m))
 | .nil,G,j,s,h=>by
  simp [okSs] at h;subst h;exact PSs.imp zR lK
 | .cons m r,G,j,[],h=>by simp [okSs] at h
 | .cons m r,G,j,s::ss,h=>by
  simp only [okSs,tv] at h;exact PSs.imp (wz (sS m G j s h.1) (sSs r G j ss h.2)) (xQ (mS G.mono m) (mSs G.mono r))
end
end
end
section
structure FD where
 name:Str
 st:Stmt
 N:List Str
 np:Nat
 body:MSs
noncomputable def fe (N:List Str) (ds:List D):av:=ds.map some++Ho (N.length - ds.length) none
noncomputable def phi (T:List FD):Nat->Phi
 | 0=>fun _ _ _ _=>False
 | k+1=>fun f ds M Q => ∃ d,T[f]? = some d/\ds.length=d.np/\wSs (phi T k) d.body { nx:=fun _ M'=>Q .non M',rt:=Q } (fe d.N ds) M
theorem iV (T:List FD):∀ k f,b9 (phi T k f)
 | 0,f=>fun _ _ _ _ _ q=>q.elim
 | k+1,f=>fun ds M Q Q' h ⟨d,e,l,q⟩=>⟨d,e,l,mSs (iV T k) d.body { nx:=fun _ M'=>Q .non M',rt:=Q } { nx:=fun _ M'=>Q' .non M',rt:=Q' } _ _ ⟨fun _ M' q'=>h _ _ q',h,fun _ _ z=>z,fun _ _ z=>z⟩ q⟩
noncomputable def t9 (Γ:List Str) (cs:List (Str×D)) (d:FD):Bool :=
 decide ((aB d.st).kind = .function) && !(aB d.st).isCoroutine && !(aB d.st).isGenerator&&decide (d.N.Nodup)&&decide (d.np<=d.N.length)
  && (d.N.take d.np).all (fun x=>(aB d.st).names.lookup x==some .local || (aB d.st).names.lookup x==some .cell)
  && (aB d.st).names.all (fun y => !(y.2 == .free))&&okSs d.body ⟨Γ,d.N,aB d.st,d.N,cs⟩ (cb d.st)
theorem yu {Γ:List Str} {cs:List (Str×D)} {d:FD} (h:t9 Γ cs d=true):gM d.N (d.N.take d.np) (aB d.st)/\(d.N.take d.np).length=d.np/\okSs d.body ⟨Γ,d.N,aB d.st,d.N,cs⟩ (cb d.st)=true:=by
 simp only [t9,tv,decide_eq_true_eq,Je] at h;obtain ⟨⟨⟨⟨⟨⟨⟨h1,h2⟩,q⟩,B⟩,O⟩,F⟩,G⟩,J⟩:=h;have j:(d.N.take d.np).length=d.np:=by rw [Hz];lia
 refine ⟨⟨h1,h2,q,B,by rw [j],fun x hx => ?_,fun y L e => ?_⟩,j,J⟩
 ·have z:=Le.mp F x hx;simpa using z
 ·have z:=Le.mp G y L;rw [e] at z;simp at z
section
variable {P:HI} {w:Ic} {K:Frag} {mg:Str->Option h6} {base:Heap}
structure zw (K:Frag) (mg:Str->Option h6) (T:List FD) (cs:List (Str×D)):Prop where
 blt:∀ x∈bltNames,mg x=none
 fns:∀ (i:Nat) (d:FD),T[i]? = some d -> ∃ f fd,Fun K d.name d.name d.st f fd/\mg d.name=some (.ref f)/\Binds K fd (d.N.take d.np) []
 ok:∀ d∈T,t9 (T.map (·.name)) cs d=true
 cst:∀ x d,(x,d)∈cs -> ∃ u,mg x=some u/\GV K d u
theorem vM {T:List FD} {cs:List (Str×D)} (O:zw K mg T cs):∀ (k i:Nat) (d:FD) (f:Addr) (fd:L3),T[i]? = some d->Fun K d.name d.name d.st f fd->dY P w K mg base CX0 k f fd (d.N.take d.np) (lSp K (phi T k i))
 | 0,i,d,f,fd,e,F=>⟨fun vs H Q E h=>by obtain ⟨ds,M,_,_,q⟩:=h;exact q.elim,fun A outer s H args us vs Q E _ _ _ _ h=>by obtain ⟨ds,M,_,_,q⟩:=h;exact q.elim⟩
 | k+1,i,d,f,fd,e,F=>by
   obtain ⟨S,Z,hb⟩:=yu (O.ok d (HN e));refine F.ok S (fun vs H Q E h => ?_) fun cdv A outer s H vs Q E hr h => ?_
   ·obtain ⟨ds,M,rm,rs,d',e',l,q⟩:=h;rw [e] at e';cases e';rw [rs.length,l,Z]
   ·obtain ⟨ds,M,rm,rs,d',e',l,q⟩:=h;rw [e] at e';cases e';have G:Good ⟨T.map (·.name),d.N,aB d.st,d.N,cs⟩ (phi T k) k ((iz CX0 P w K mg base d.N d.name (aB d.st) f cdv A outer s H E).nox):=by
     refine ⟨fun _ _ z=>z,rfl,rfl,rfl,S.nd,fun _ _=>rfl,hr,O.blt,fun j x hx => ?_,iV T k,O.cst⟩;have B:(T.map (·.name))[j]? = some x:=hx;rw [HC] at B
     cases e2:T[j]? with
     | none=>rw [e2] at B;cases B
     | some d2 =>
       rw [e2] at B;cases B;obtain ⟨f2,U,Y,m2,b2⟩:=O.fns j d2 e2;exact ⟨f2,U,_,m2,Y.kp,b2,vM O k j d2 f2 U e2 Y⟩
    refine ⟨_,sSs d.body G S.kind _ hb,fe d.N ds,M, { nx:=fun _ M'=>KE' K M H Q .non M',rt:=KE' K M H Q }, ?_,rm,⟨fun ρ M' σ H' x rs' rm' q' => ?_,fun d M' v H' x rm' rd' q'=>q' v H' x rm' rd',fun _ _ _ _ _ _ _ z=>z,fun _ _ _ _ _ _ _ z=>z⟩,q⟩
    ·refine ⟨by simp [di,fe,rs.length],fun j dd J => ?_⟩
     unfold fe at J;unfold di
     by_cases L:j < ds.length
     ·rw [Hq (by simpa using L),HC] at J
      cases e3:ds[j]? with
      | none=>rw [e3] at J;cases J
      | some z =>
        rw [e3] at J;cases J;obtain ⟨v,hv,rv⟩:=rs.get e3;refine ⟨v, ?_,rv⟩;rw [Hq (by rw [A0,rs.length];exact L),HC,hv];rfl
     ·rw [B1 (by simpa using L),NZ] at J
      split at J <;> cases J
    ·exact q' .non H' x rm' (RB.mpr rfl)
theorem Dc {T:List FD} {k i:Nat} {H:Hp} {a:Addr} {ns:List Int} (B:sf H) (F:SqL K H a (ns.map V.int)) (h:phi T k i [.con (ns.map D.int)] (fun _=>none) fun d _=>d = .bl true) :
 lSp K (phi T k i) [.ref a] H (fun v _=>v = .bl true) fun _ _ _=>False:=by
 have j:RM K (fun _=>none) H:=fun _ _ z=>by cases z
 refine ⟨[.con (ns.map D.int)],fun _=>none,j,RDs.cons (RA.mpr ⟨a,ns.map V.int,rfl, ?_,RN ns⟩) RDs.nil,iV T k i [.con (ns.map D.int)] (fun _=>none) (fun d _=>d = .bl true) (KE' K (fun _=>none) H fun v _=>v = .bl true) (fun d M' e=>fun v H' x rm rd => ?_) h⟩
 ·rcases F with (z | ⟨o,z⟩) | z
  ·rcases B a with q | ⟨o,xs,q⟩
   ·rw [z] at q;cases q
   ·rw [z] at q;cases q
  ·exact .inl ⟨o,z⟩
  ·exact .inr z
 ·subst e;exact Rx.mp rd
end
theorem i6 (us:List h6) (h:us.length=1):∃ a,us=[a]:=List.length_eq_one_iff.mp h
theorem cP (us:List h6) (h:us.length=2):∃ a b,us=[a,b]:=by
 cases us with
 | nil=>cases h
 | cons a us=>obtain ⟨b,rfl⟩:=i6 us (Rk.inj h);exact ⟨a,b,rfl⟩
theorem tf (us:List h6) (h:us.length=3):∃ a b c,us=[a,b,c]:=by
 cases us with
 | nil=>cases h
 | cons a us=>obtain ⟨b,c,rfl⟩:=cP us (Rk.inj h);exact ⟨a,b,c,rfl⟩
theorem tj (us:List h6) (h:us.length=4):∃ a b c d,us=[a,b,c,d]:=by
 cases us with
 | nil=>cases h
 | cons a us=>obtain ⟨b,c,d,rfl⟩:=tf us (Rk.inj h);exact ⟨a,b,c,d,rfl⟩
end
section
theorem Dd {T:List FD} {k f:Nat} {d:FD} {ds:List D} {M:Mem} {Q:QD} (e:T[f]? = some d) (l:ds.length=d.np) {ρ:av} (r:fe d.N ds = ρ)
 (h:wSs (phi T k) d.body { nx:=fun _ M'=>Q .non M',rt:=Q } ρ M):phi T (k+1) f ds M Q:=⟨d,e,l,by rw [r];exact h⟩
theorem aF {T:List FD} {n f:Nat} {d:FD} {ds:List D} {M:Mem} {Q:QD} (hn : 1<=n) (e:T[f]? = some d) (l:ds.length=d.np) {ρ:av} (r:fe d.N ds = ρ)
 (h:wSs (phi T (n - 1)) d.body { nx:=fun _ M'=>Q .non M',rt:=Q } ρ M):phi T n f ds M Q:=by
 obtain ⟨k,rfl⟩:∃ k,n=k+1:=⟨n - 1,by lia⟩
 exact Dd e l r h
theorem B9 {Φ:Phi} {D:bC} {ρ:av} {M:Mem}:wSs Φ .nil D ρ M=D.nx ρ M:=by rw [wSs];rfl
theorem cZ {Φ:Phi} {s:MS} {r:MSs} {D:bC} {ρ:av} {M:Mem}:wSs Φ (.cons s r) D ρ M=wS Φ s { D with nx:=wSs Φ r D } ρ M:=by rw [wSs];rfl
theorem qS {ds:List D} {y:D} {M:Mem} {Q:QD}:wIx (.tup ds) y M Q = ∃ i d,y = .int i/\atI ds i=some d/\Q d M:=rfl
theorem qT {ds:List D} {y:D} {M:Mem} {Q:QD}:wIx (.con ds) y M Q = ∃ i d,y = .int i/\atI ds i=some d/\Q d M:=rfl
theorem bo {a:Addr} {i:Int} {ds:List D} {d:D} {M:Mem} {Q:QD} (h:M a=some (.lst ds)) (e:atI ds i=some d) (q:Q d M):wIx (.ref a) (.int i) M Q := .inl ⟨ds,i,d,h,rfl,e,q⟩
theorem cB {a:Addr} {i:Int} {ds:List D} {v:D} {j:Nat} {M:Mem} {Q:Mem->Prop} (h:M a=some (.lst ds)) (e:ixN ds.length i=some j) (q:Q (ah M a (.lst (ds.set j v)))):fO (.ref a) (.int i) v M Q:=⟨a,rfl, .inl ⟨ds,i,j,rfl,h,e,q⟩⟩
theorem kL {a:Addr} {ds:List D} {M:Mem} {Q:QD} (h:M a=some (.lst ds)) (q:Q (.int ds.length) M):fJ [.ref a] M Q:=⟨_,_,rfl,by simp only [iE,h],q⟩
theorem ag {a:Addr} {ds:List D} {M:Mem} (h:M a=some (.lst ds)):ar M (.ref a)=some ds:=by simp only [ar,h]
theorem De {i:Int} {M:Mem} {Q:QD}:nJ [.int i] M Q=Q (.int i) M:=by
 apply propext;constructor
 ·rintro (⟨j,e,q⟩ | ⟨k,e,q⟩)
  ·cases e;exact q
  ·cases e
 ·exact fun q => .inl ⟨i,rfl,q⟩
theorem Df {b:Bool} {M:Mem} {Q:QD}:nJ [.bl b] M Q=Q (.int (if b then 1 else 0)) M:=by
 apply propext;constructor
 ·rintro (⟨j,e,q⟩ | ⟨k,e,q⟩)
  ·cases e
  ·cases e;exact q
 ·exact fun q => .inr ⟨b,rfl,q⟩
theorem Ed {i j:Int} {M:Mem} {Q:QD}:wEq (.int i) (.int j) M Q=Q (.bl (i==j)) M:=by
 simp [wEq,rb,IP]
theorem Ee {i j:Int} {M:Mem} {Q:QD}:wNe (.int i) (.int j) M Q=Q (.bl (!(i==j))) M:=by
 simp [wNe,rb,IP]
theorem vN {i j:Int} {M:Mem} {Q:QD}:iD (.int i) (.int j) M Q=Q (.int (i+j)) M:=rfl
theorem vO {a b:List D} {M:Mem} {Q:QD}:iD (.tup a) (.tup b) M Q=((a≠[]∨True)/\a.length+b.length<=Hh/\Q (.tup (a++b)) M):=rfl
theorem vP {i j:Int} {M:Mem} {Q:QD}:ky (.int i) (.int j) M Q=Q (.int (i - j)) M:=rfl
theorem vQ {i j:Int} {M:Mem} {Q:QD}:gi (.int i) (.int j) M Q=(MulOk i j/\Q (.int (i*j)) M):=rfl
theorem vR {ds:List D} {k:Int} {M:Mem} {Q:QD}:gi (.tup ds) (.int k) M Q=(-(2 ^ 63)<=k/\k < 2 ^ 63/\ds.length*k.toNat<=Hh/\Q (.tup (Ho k.toNat ds).flatten) M):=rfl
theorem qU {i j:Int} {M:Mem} {Q:QD}:jj (.int i) (.int j) M Q=(0 < j/\j < 2 ^ 256/\Q (.int (i / j)) M):=rfl
theorem vS {i j:Int} {M:Mem} {Q:QD}:nF (.int i) (.int j) M Q=(0 < j/\Q (.int (i % j)) M):=rfl
theorem vT {i j:Int} {M:Mem} {Q:QD}:sk (.int i) (.int j) M Q=(0<=j/\j<=1000000/\i.natAbs < 2 ^ 64/\Q (.int (i ^ j.toNat)) M):=rfl
theorem zx {i j:Int} {M:Mem} {Q:QD}:wLt (.int i) (.int j) M Q=Q (.bl (decide (i < j))) M:=rfl
theorem zy {i j:Int} {M:Mem} {Q:QD}:wLe (.int i) (.int j) M Q=Q (.bl (decide (i<=j))) M:=rfl
theorem tq {i j:Int} {M:Mem} {Q:QD}:wGt (.int i) (.int j) M Q=Q (.bl (decide (j < i))) M:=rfl
theorem zz {i j:Int} {M:Mem} {Q:QD}:wGe (.int i) (.int j) M Q=Q (.bl (decide (j<=i))) M:=rfl
theorem qV {i j:Int} {M:Mem} {Q:QD}:mV (.int i) (.int j) M Q=Q (.int (i+j)) M:=rfl
theorem qW {i j:Int} {M:Mem} {Q:QD}:mW (.int i) (.int j) M Q=Q (.int (i - j)) M:=rfl
theorem qX {i j:Int} {M:Mem} {Q:QD}:mX (.int i) (.int j) M Q=(MulOk i j/\Q (.int (i*j)) M):=rfl
theorem vU {i:Int} {M:Mem} {Q:QD}:sn (.int i) M Q=Q (.int (-i)) M:=rfl
theorem Dg {i:Int} {M:Mem} {Q:QD}:nI [.int i] M Q=Q (.int (if i < 0 then -i else i)) M:=by simp [nI]
theorem Ba {i j:Int} {M:Mem} {Q:QD}:mU [.int i, .int j] M Q=Q (.int (if j < i then j else i)) M:=by
 apply propext;constructor
 ·rintro ⟨a,b,e,q⟩;cases e;exact q
 ·exact fun q=>⟨i,j,rfl,q⟩
theorem Dh {ds:List D} {M:Mem} {Q:QD}:fJ [.con ds] M Q=Q (.int ds.length) M:=by simp [fJ,iE]
theorem Di {ds:List D} {M:Mem} {Q:QD}:fJ [.tup ds] M Q=Q (.int ds.length) M:=by simp [fJ,iE]
theorem vW {ds:List D} {M:Mem}:ar M (.tup ds)=some ds:=rfl
theorem vX {ds:List D} {M:Mem}:ar M (.con ds)=some ds:=rfl
theorem zA {α:Sort _} {a b : α}:(if true=true then a else b)=a:=rfl
theorem zB {α:Sort _} {a b : α}:(if false=true then a else b)=b:=rfl
theorem Bb {ta tb:TEd} {ρ:av} {M:Mem} {R:List D->(Mem->Prop)->Mem->Prop}:nV ta tb ρ M R=ta ρ M fun x j=>tb ρ j fun y M2 => ∃ xs ys,ar M2 x=some xs/\ar M2 y=some ys/\R (K9 fM xs ys) (fun M=>ar M x=some xs/\ar M y=some ys) M2:=by
 unfold nV ax;congr 1;funext x j;unfold bv;congr 1;funext y M2;apply propext;constructor
 ·rintro ⟨x',y',xs,ys,e,q⟩
  cases e;exact ⟨xs,ys,q⟩
 ·rintro ⟨xs,ys,q⟩;exact ⟨x,y,xs,ys,rfl,q⟩
theorem yv {ta tb tc:TEd} {ρ:av} {M:Mem} {R:List D->(Mem->Prop)->Mem->Prop}:jx ta tb tc ρ M R=ta ρ M fun x B=>tb ρ B fun y M2=>tc ρ M2 fun z j => ∃ xs ys zs,x = .tup xs/\z = .tup zs/\isT y=false/\ar j y=some ys/\R (z3D xs ys zs) (fun M=>ar M y=some ys) j:=by
 unfold jx ax;congr 1;funext x B;congr 1;funext y M2;congr 1;funext z j;apply propext;constructor
 ·rintro ⟨xs,y',ys,zs,e,q⟩
  cases e;exact ⟨xs,ys,zs,rfl,rfl,q⟩
 ·rintro ⟨xs,ys,zs,rfl,rfl,q⟩;exact ⟨xs,y,ys,zs,rfl,q⟩
theorem vY {x y:Str} {M:Mem} {Q:QD}:iD (.str x) (.str y) M Q=(x.length+y.length<=Hh/\Q (.str (x++y)) M):=rfl
local macro_rules | `(tactic| walk_at "wp") => `(tactic| ((try dsimp only [wS,wE,wA,wAnds,wOrs,wO,wT,wAndTs,wOrTs,wTl,wI,wCl,wCmp,bG,bGs,opB,opC,opF,opM,sX,opI,bu,wC,wOp,wUn,bv,ax,wAr,iB,nC,nD,nP,jn,jo,nQ,jq,nR,jr,wIf,eX,jt,wSl,ju,gx,ji,jD,jI,wBM,aQ,dz,aX,kD,kE,jy,jN,jw,ci,bw,cU,gU,kw,gW,nX,gn,jA,jB,nY,sIf,iI,iJ,nZ,gp,oh,jC,vN,vO,vY,vP,vQ,vR,qU,vS,vT,zx,zy,tq,zz,qV,qW,qX,vU,vW,vX,qS,qT,zA,zB,Of,Ks,NB,ND,Lc,KL,QE,QF,QG,Hs,JP,HS,Jo]);(try simp only [wS,wE,wA,wAnds,wOrs,wO,wT,wAndTs,wOrTs,wTl,wI,wCl,wCmp,bG,bGs,opB,opC,opF,opM,sX,opI,bu,wC,wOp,wUn,bv,ax,wAr,iB,nC,nD,nP,jn,jo,nQ,jq,nR,jr,wIf,eX,jt,wSl,ju,gx,ji,jD,jI,wBM,aQ,dz,aX,kD,kE,Bb,yv,jy,jN,jw,ci,bw,cU,gU,kw,gW,nX,gn,jA,jB,nY,sIf,iI,iJ,nZ,gp,oh,jC,B9,
 vN,vO,vY,vP,vQ,vR,qU,vS,vT,zx,zy,tq,zz,qV,qW,qX,vU,De,Df,Ed,Ee,Dg,Ba,Dh,Di,vW,vX,qS,qT,zA,zB,J4,if_false,if_true,
 Of,Ks,NB,ND,NQ,exists_eq_left',exists_eq_left,exists_eq_right,exists_and_left,exists_and_right,D.bl.injEq,D.int.injEq,D.ref.injEq,D.tup.injEq,Lc,KL,QE,QF,QG,Hs,JP,decide_eq_true_eq,OH,and_true,true_and,HS,Jo])))
local macro_rules | `(tactic| walk_at "st") => `(tactic| ((first | rw [cZ] | (dsimp only;rw [cZ]));walk_at "wp"))
theorem Dj {a:Addr} {t:Bool} {kvs:List (D×D)} {k d:D} {M:Mem} {Q:QD} (h:M a=some (.dct t kvs)) (ok:gP t k=true) (e:dget kvs k=some d) (q:Q d M):wIx (.ref a) k M Q := .inr (.inl ⟨t,kvs,d,h,ok,e,q⟩)
theorem vZ {a:Addr} {kvs:List (D×D)} {k d:D} {M:Mem} {Q:QD} (h:M a=some (.fdc kvs)) (ok:bW k=true) (e:dget kvs k=some d) (q:Q d M):wIx (.ref a) k M Q := .inr (.inr ⟨kvs,d,h,ok,e,q⟩)
theorem Bc {i:Nat} {t:TSd} {A:bC} {ρ:av} {M:Mem} {a:Addr} {kvs:List (D×D)} (e : ρ[i]? = some (some (.ref a))) (m:M a=some (.dct true kvs)) (h:t A ρ (ah M a (.fdc kvs))):sV i t A ρ M:=⟨a,kvs,e, .inl ⟨m,h⟩⟩
theorem ph {a:Addr} {t:Bool} {kvs:List (D×D)} {k v:D} {M:Mem} {Q:Mem->Prop} (h:M a=some (.dct t kvs)) (ok:gP t k=true) (j:kvs.length < Hh) (q:Q (ah M a (.dct t (cz kvs k v)))):fO (.ref a) k v M Q:=⟨a,rfl, .inr ⟨t,kvs,h,ok,j,q⟩⟩
def Ge (M M':Mem):Prop := ∀ a o,M a=some o->M' a=some o
theorem Ge.refl {M:Mem}:Ge M M:=fun _ _ h=>h
theorem Ge.trans {M M' M'':Mem} (h:Ge M M') (g:Ge M' M''):Ge M M'':=fun _ _ e=>g _ _ (h _ _ e)
theorem Ge.new {M:Mem} {p:Addr} {o:O} (h:M p=none):Ge M (ah M p o):=fun a o' e=>by
 rw [aR (fun z=>by rw [z,h] at e;cases e)];exact e
def Box (b:Addr) (M:Mem):Prop := ∃ x y z:Int,M b=some (.lst [.int x, .int y, .int z])
structure Bx (b:Addr) (M M':Mem):Prop where
 box:Box b M'
 keep:∀ a o,a≠b->M a=some o->M' a=some o
theorem Bx.refl {b:Addr} {M:Mem} (h:Box b M):Bx b M M:=⟨h,fun _ _ _ e=>e⟩
theorem Bx.trans {b:Addr} {M M' M'':Mem} (h:Bx b M M') (g:Bx b M' M''):Bx b M M'':=⟨g.box,fun a o n e=>g.keep a o n (h.keep a o n e)⟩
theorem Bx.ge {b:Addr} {M M' M'':Mem} (h:Bx b M M') (g:Ge M' M''):Bx b M M'':=⟨by obtain ⟨x,y,z,e⟩:=h.box;exact ⟨x,y,z,g _ _ e⟩,fun a o n e=>g _ _ (h.keep a o n e)⟩
theorem Bx.put {b:Addr} {M:Mem} {x y z:Int}:Bx b M (ah M b (.lst [.int x, .int y, .int z])):=⟨⟨x,y,z,ad⟩,fun a o n e=>by rw [aR n];exact e⟩
theorem Bx.of {b:Addr} {M M':Mem} (h:Box b M) (g:Ge M M'):Bx b M M':=(Bx.refl h).ge g
section
variable {T:List FD}
noncomputable def jU (s:Stmt):FD:=⟨"_law_cell_at",s,["_law_script", "_law_k"],2,
 (.cons (.ite (.cmp .lt (.var 1) (.blt .len (.cons (.var 0) .nil))) (.cons (.ret (.ix (.var 0) (.var 1)))
 .nil) .nil)
 (.cons (.ret (.int 0))
 .nil))⟩
theorem yw {α:Type} {xs:List α} {i:Int} (h0 : 0<=i) (h1:i < xs.length):∃ x,atI xs i=some x/\xs[i.toNat]? = some x:=by
 have:i.toNat < xs.length:=by lia
 refine ⟨xs[i.toNat], ?_,A2 this⟩;unfold atI ixN;simp [h0,h1,A2 this]
theorem Be {f:Nat} {s:Stmt} (hf:T[f]? = some (jU s)) {n:Nat} (hn : 1<=n) {ns:List Int} {k:Int} {M:Mem} {Q:QD} (h0 : 0<=k) (q:∀ i,Q (.int i) M):phi T n f [.con (ns.map D.int), .int k] M Q:=by
 refine aF hn hf rfl (ρ := [some _,some _]) rfl ?_;unfold jU;walk_at "st"
 split
 ·next h =>
  walk_at "st";obtain ⟨x,e,e2⟩:=yw (xs:=ns.map D.int) h0 h;rw [HC] at e2
  cases e3:ns[k.toNat]? with
  | none=>rw [e3] at e2;cases e2
  | some y=>rw [e3] at e2;cases e2;exact ⟨_,e,q y⟩
 ·walk_at "st";exact q 0
theorem aO {i j:Int} (h : -(2 ^ 64) < i/\i < 2 ^ 64):MulOk i j := .inl h
theorem kM {i j:Int} (h : -(2 ^ 64) < j/\j < 2 ^ 64):MulOk i j := .inr (.inl h)
noncomputable def qY (s:Stmt):FD:=⟨"_law_mixed",s,["_law_number_here", "_law_k", "_law_once", "_law_twice"],2,
 (.cons (.asg (.name 2) (.bin .mod (.bin .mul (.bin .add (.bin .add (.bin .mod (.var 0) (.int 1000000007)) (.bin .mul (.int 7) (.var 1))) (.int 1)) (.int 48271)) (.int 2147483647)))
 (.cons (.asg (.name 3) (.bin .mod (.bin .mul (.var 2) (.bin .add (.bin .add (.bin .mod (.var 2) (.int 1009)) (.var 1)) (.int 3))) (.int 998244353)))
 (.cons (.ret (.bin .fdiv (.bin .mod (.bin .add (.bin .mul (.var 3) (.int 39373)) (.var 2)) (.int 2147483629)) (.int 64)))
 .nil)))⟩
noncomputable def tu (s:Stmt) (fc fm:Nat):FD:=⟨"_law_box",s,["_law_script", "_law_k", "_law_cell"],2,
 (.cons (.asg (.name 2) (.call fc (.cons (.var 0) (.cons (.var 1) .nil))))
 (.cons (.ret (.lst (.cons (.bin .mul (.blt .abs (.cons (.var 2) .nil)) (.blt .int (.cons (.cmp .ge (.blt .abs (.cons (.var 2) .nil)) (.bin .pow (.int 10) (.int 18))) .nil))) (.cons (.call fm (.cons (.var 2) (.cons (.bin .add (.int 900) (.var 1)) .nil))) (.cons (.int 0) .nil)))))
 .nil))⟩
theorem Dl {f fc fm:Nat} {s sc:Stmt} (hf:T[f]? = some (tu s fc fm)) (z:T[fc]? = some (jU sc)) {n:Nat} (B:∀ {x k:Int} {M:Mem} {Q:QD},(∀ i,Q (.int i) M)->phi T (n - 1) fm [.int x, .int k] M Q) (hn : 2<=n) {ns:List Int} {k:Int} {M:Mem} {Q:QD} (h0 : 0<=k)
 (q:∀ p x y,M p=none->Q (.ref p) (ah M p (.lst [.int x, .int y, .int 0]))):phi T n f [.con (ns.map D.int), .int k] M Q:=by
 refine aF (by lia) hf rfl (ρ := [some _,some _,none]) rfl ?_
 unfold tu;walk_at "st";refine Be z (by lia) h0 fun i => ?_
 walk_at "st";refine ⟨by decide,by decide,by decide,kM ?_, ?_⟩
 ·split <;> lia
 refine B fun j => ?_;exact ⟨by rw [B2];lia,fun p F=>q p _ _ F⟩
noncomputable def pj (s:Stmt) (fm:Nat):FD:=⟨"_law_take",s,["_law_box_here", "_law_many", "_law_found", "_law_reach"],2,
 (.cons (.ite (.cmp .gt (.ix (.var 0) (.int 0)) (.int 0)) (.cons (.asg (.name 2) (.bin .mod (.ix (.var 0) (.int 0)) (.var 1)))
 (.cons (.put (.var 0) (.int 0) (.bin .fdiv (.ix (.var 0) (.int 0)) (.var 1)))
 (.cons (.ret (.var 2))
 .nil))) .nil)
 (.cons (.asg (.tup (.cons (.name 2) (.cons (.name 3) .nil))) (.tup (.cons (.int 0) (.cons (.int 1) .nil))))
 (.cons (.while (.cmp .lt (.var 3) (.var 1)) (.cons (.put (.var 0) (.int 2) (.bin .add (.ix (.var 0) (.int 2)) (.int 1)))
 (.cons (.asg (.name 2) (.bin .add (.bin .mul (.var 2) (.int 33554432)) (.call fm (.cons (.ix (.var 0) (.int 1)) (.cons (.ix (.var 0) (.int 2)) .nil)))))
 (.cons (.asg (.name 3) (.bin .mul (.var 3) (.int 33554432)))
 .nil))))
 (.cons (.ret (.bin .mod (.var 2) (.var 1)))
 .nil))))⟩
def tw (T:List FD) (n fm:Nat):Prop := ∀ {x k:Int} {M:Mem} {Q:QD},(∀ i,Q (.int i) M)->phi T n fm [.int x, .int k] M Q
theorem Bf {f fm:Nat} {s:Stmt} (hf:T[f]? = some (pj s fm)) {n:Nat} (J:tw T (n - 1) fm) (hn : 2<=n) {b:Addr} {m:Int} {M:Mem} {Q:QD} (hb:Box b M) (h1 : 0 < m) (h2:m<=2 ^ 100)
 (q:∀ r M',0<=r->r < m->Bx b M M'->Q (.int r) M'):phi T n f [.ref b, .int m] M Q:=by
 refine aF (by lia) hf rfl (ρ := [some _,some _,none,none]) rfl ?_
 unfold pj;obtain ⟨x,y,z,G⟩:=hb;walk_at "st";refine bo G (d := .int x) rfl ?_;simp only [tq];walk_at "wp"
 split
 ·next hx =>
  walk_at "st";refine bo G (d := .int x) rfl ?_;walk_at "wp";refine ⟨h1, ?_⟩;walk_at "st";refine bo G (d := .int x) rfl ?_;walk_at "wp";refine ⟨h1,by lia, ?_⟩
  refine cB G (j := 0) rfl ?_;walk_at "st";exact q _ _ (N3 _ (by lia)) (Ly _ h1) Bx.put
 ·next hx =>
  walk_at "st";refine ⟨by rw [B2];lia, ?_⟩
  walk_at "st";refine ⟨5, ?_⟩;have go:∀ (f:Nat) (found reach z:Int) (M':Mem),m<=reach*33554432 ^ f->M' b=some (.lst [.int x, .int y, .int z])->Bx b M M' ->
   bn (iB (wOp wLt (bu 3) (bu 1))) (wSs (phi T (n - 1)) (MSs.cons (MS.put (ME.var 0) (ME.int 2) (ME.bin BOp.add ((ME.var 0).ix (ME.int 2)) (ME.int 1)))
    (MSs.cons (MS.asg (MG.name 2) (ME.bin BOp.add (ME.bin BOp.mul (ME.var 2) (ME.int 33554432)) (ME.call fm (MEs.cons ((ME.var 0).ix (ME.int 1)) (MEs.cons ((ME.var 0).ix (ME.int 2)) MEs.nil)))))
      (MSs.cons (MS.asg (MG.name 3) (ME.bin BOp.mul (ME.var 3) (ME.int 33554432))) MSs.nil))))
    { nx:=wSs (phi T (n - 1)) (MSs.cons (MS.ret (ME.bin BOp.mod (ME.var 2) (ME.var 1))) MSs.nil) { nx:=fun x M'=>Q D.non M',rt:=Q },rt:=Q } (f+1) [some (.ref b),some (.int m),some (.int found),some (.int reach)] M':=by
   intro f
   induction f with
   | zero =>
     intro found reach z M' hm F B;simp only [bn];walk_at "wp";rw [if_neg (by lia)]
     walk_at "st";exact ⟨h1,q _ _ (N3 _ (by lia)) (Ly _ h1) B⟩
   | succ f ih =>
     intro found reach z M' hm F B;rw [bn];walk_at "wp"
     split
     ·next L =>
      walk_at "st";refine bo F (d := .int z) rfl ?_;walk_at "wp";refine cB F (j := 2) rfl ?_;walk_at "st";refine ⟨kM (by decide), ?_⟩
      refine bo ad (d := .int y) rfl ?_;refine bo ad (d := .int (z+1)) rfl ?_;refine J fun i => ?_;walk_at "wp";walk_at "st";refine ⟨kM (by decide), ?_⟩
      exact ih _ _ (z+1) _ (by rw [Int.mul_assoc, <- Int.pow_succ'];exact hm) ad (B.trans Bx.put)
     ·walk_at "st";exact ⟨h1,q _ _ (N3 _ (by lia)) (Ly _ h1) B⟩
  exact go 4 0 1 z M (by lia) G (Bx.refl ⟨x,y,z,G⟩)
def jV (T:List FD) (n f:Nat):Prop := ∀ {b:Addr} {m:Int} {M:Mem} {Q:QD},Box b M->0 < m->m<=2 ^ 100->(∀ r M',0<=r->r < m->Bx b M M'->Q (.int r) M')->phi T n f [.ref b, .int m] M Q
end
section
variable {T:List FD}
theorem am {α:Type} {xs l r:List α} {x : α} (e:xs=l++x::r):l.length < xs.length:=by rw [e];simp
theorem w5 {α:Type} {xs l r:List α} {x : α} (e:xs=l++x::r):xs[l.length]? = some x:=by rw [e];simp
noncomputable abbrev Pr:=List Int×List Int×List Int
noncomputable def prD (p:Pr):D := .tup [.tup (p.1.map .int), .tup (p.2.1.map .int), .tup (p.2.2.map .int)]
noncomputable def cQ (p:Pr):IJ := .tuple [.tuple (p.1.map .int), .tuple (p.2.1.map .int), .tuple (p.2.2.map .int)]
theorem qZ {k:Nat} {M:Mem}:∀ ns:List Int,aN (rb k M) (ns.map D.int)=some (ns.map PyData.int)
 | [] => rfl
 | x::r=>by
   have e:rb k M (.int x)=some (.int x):=by cases k <;> rfl
   simp [aN,e,qZ r]
theorem Ef {k:Nat} {M:Mem} (p:Pr):rb (k+2) M (prD p)=some (cQ p):=by
 simp [rb,prD,cQ,aN,qZ]
theorem pv {k:Nat} {M:Mem}:∀ ps:List Pr,aN (rb (k+2) M) (ps.map prD)=some (ps.map cQ)
 | [] => rfl
 | p::r=>by simp [aN,Ef,pv r]
theorem pA {k:Nat} {M:Mem} {a:Addr} {ds:List D} (h:M a=some (.lst ds)):rb (k+1) M (.ref a)=(aN (rb k M) ds).map QN:=by
 simp only [rb,h]
theorem de {Φ:Phi} {s:MS} {r:MSs} {E:bC} {ρ:av} {M:Mem} (I:av->Mem->Prop) (h1:∀ R:av->Mem->Prop,(∀ ρ M,I ρ M->R ρ M)->wS Φ s { E with nx:=R } ρ M) (h2:∀ ρ M,I ρ M->wSs Φ r E ρ M):wSs Φ (.cons s r) E ρ M:=by
 rw [cZ];exact h1 _ h2
theorem Bx.upd {b q:Addr} {M M':Mem} {o:O} (h:Bx b M M') (B:M q=none) (j:q≠b):Bx b M (ah M' q o) :=
 ⟨by obtain ⟨x,y,z,e⟩:=h.box;exact ⟨x,y,z,by rw [aR j.symm];exact e⟩,fun u o' nu eu=>by
   rw [aR (fun z=>by rw [z,B] at eu;cases eu)];exact h.keep u o' nu eu⟩
theorem Bx.none {b q:Addr} {M M':Mem} (h:Bx b M M') (z:M' q=none) (j:q≠b):M q=none:=by
 cases e:M q with
 | none=>rfl
 | some o=>rw [h.keep q o j e] at z;cases z
theorem Dm {k:Nat}:(Ho k [D.int 0]).flatten=(Ho k (0:Int)).map D.int:=by
 induction k with
 | zero=>rfl
 | succ k ih=>rw [IK,IB,ih];rfl
end
section
theorem au {α:Type} {f : α -> D} {b:BT} {tb:TCd} {chk:Mem->Prop} {N:NC} (I:List α -> av->Mem->List D->Prop) {ys:List α} {xs:List D} (hx:xs=ys.map f) {ρ:av} {M:Mem} {acc:List D}
 (h0:I [] ρ M acc)
 (q:∀ l ρ M acc,I l ρ M acc->chk M)
 (hs:∀ l x r ρ M acc,ys=l++x::r->I l ρ M acc -> ∃ ρ',b (f x) ρ = some ρ' /\ ∀ N':NC,(∀ ρ2 M2 j,I (l++[x]) ρ2 M2 j->N' ρ2 M2 j)->tb ρ' M acc N')
 (z:∀ ρ M acc,I ys ρ M acc->N ρ M acc):bK b tb chk N xs ρ M acc:=by
 subst hx;have g:∀ (r l:List α) (ρ:av) (M:Mem) (acc:List D),ys=l++r->I l ρ M acc->bK b tb chk N (r.map f) ρ M acc:=by
  intro r
  induction r with
  | nil=>intro l ρ M acc e i;rw [Jl] at e;subst e;exact ⟨q _ _ _ _ i,z _ _ _ i⟩
  | cons x r ih =>
    intro l ρ M acc e i;obtain ⟨ρ',e1,h⟩:=hs l x r ρ M acc e i;exact ⟨q _ _ _ _ i, ρ',e1,h _ fun ρ2 M2 j B=>ih (l++[x]) ρ2 M2 j (by rw [e];simp) B⟩
 exact g ys [] ρ M acc rfl h0
theorem aG {α:Type} {f : α -> D} {b:BT} {tb:TSd} {chk:Mem->Prop} {E:bC} (I:List α -> av->Mem->Prop) {ys:List α} {xs:List D} (hx:xs=ys.map f) {ρ:av} {M:Mem}
 (h0:I [] ρ M)
 (j:∀ l ρ M,I l ρ M->chk M)
 (hs:∀ l x r ρ M,ys=l++x::r->I l ρ M -> ∃ ρ',b (f x) ρ = some ρ' /\ ∀ F:av->Mem->Prop,(∀ ρ2 M2,I (l++[x]) ρ2 M2->F ρ2 M2)->tb { E with nx:=F,ct:=F,bk:=E.nx } ρ' M)
 (q:∀ ρ M,I ys ρ M->E.nx ρ M):bT b tb chk E xs ρ M:=by
 subst hx;have g:∀ (r l:List α) (ρ:av) (M:Mem),ys=l++r->I l ρ M->bT b tb chk E (r.map f) ρ M:=by
  intro r
  induction r with
  | nil=>intro l ρ M e i;rw [Jl] at e;subst e;exact ⟨j _ _ _ i,q _ _ i⟩
  | cons x r ih =>
    intro l ρ M e i;obtain ⟨ρ',e1,h⟩:=hs l x r ρ M e i;exact ⟨j _ _ _ i, ρ',e1,h _ fun ρ2 M2 z=>ih (l++[x]) ρ2 M2 (by rw [e];simp) z⟩
 exact g ys [] ρ M rfl h0
theorem r0 {M M':Mem} {x:D} {ds:List D} (h:ar M x=some ds) (g:Ge M M'):ar M' x=some ds:=by
 cases x with
 | ref a =>
   simp only [ar] at h ⊢
   split at h
   ·next e=>rw [g _ _ e];exact h
   ·cases h
 | _=>exact h
theorem iW {M:Mem} {x:D} {ds:List D} (h:ar M x=some ds):iE M x=some ds.length:=by
 cases x with
 | ref a =>
   simp only [ar] at h
   split at h
   ·next e=>cases h;simp only [iE,e]
   ·cases h
 | tup es=>cases h;rfl
 | con es=>cases h;rfl
 | _=>cases h
theorem kP {M:Mem} {x:D} {ds:List D} {Q:QD} (h:ar M x=some ds) (q:Q (.int ds.length) M):fJ [x] M Q:=⟨_,_,rfl,iW h,q⟩
theorem dU {α:Type} {xs:List α} {k:Nat} {x : α} (h:xs[k]? = some x):atI xs (k:Int)=some x:=by
 have j:k < xs.length:=(Hx.mp h).1;unfold atI ixN;rw [if_pos (by lia),if_pos (by lia)]
 exact h
theorem aA {n:Nat}:cK 0 n=(B0 n).map fun i=>D.int (i:Nat):=by simp [cK]
end
section
variable {T:List FD}
def Big (ns:List Int):Prop := ∀ x∈ns, -1000000000000<=x/\x<=1000000000000
end
section
variable {T:List FD}
noncomputable def pB (x:Str) (s:Stmt):FD:=⟨"_law_mixed",s,[x, "_law_k", "_law_once", "_law_twice"],2,(qY s).body⟩
theorem w6 {f:Nat} {x:Str} {s:Stmt} (hf:T[f]? = some (pB x s)) {n:Nat} (hn : 1<=n):tw T n f:=by
 intro x k M Q q;refine aF hn hf rfl (ρ := [some _,some _,none,none]) rfl ?_;unfold pB qY;walk_at "st";refine ⟨by decide,aO (by decide),kM (by decide),by decide, ?_⟩
 walk_at "st";refine ⟨by decide,aO ?_,by decide, ?_⟩
 ·have h1:=N3 ((x % 1000000007+7*k+1)*48271) (b := 2147483647) (by decide)
  have h2:=Ly ((x % 1000000007+7*k+1)*48271) (b := 2147483647) (by decide)
  lia
 walk_at "st";refine ⟨kM (by decide),by decide,by decide,by decide, ?_⟩
 exact q _
end
section
open PySem PySem.Spec PyProof.Rows L2.Srt
variable {T:List FD}
noncomputable abbrev K3:=Int×Int×Int
noncomputable abbrev Tm:=K3×Int
noncomputable def k3D (k:K3):D := .tup [.int k.1, .int k.2.1, .int k.2.2]
noncomputable def kcD (t:Tm):D×D:=(k3D t.1, .int t.2)
noncomputable def k3K (k:K3):Ky := .tup [.int k.1, .int k.2.1, .int k.2.2]
def klt (a b:K3):Prop:=ltK (k3K a) (k3K b)=true
theorem i7 {a b:K3} (h:k3D a=k3D b):a=b:=by
 obtain ⟨a1,a2,j⟩:=a;obtain ⟨b1,b2,b3⟩:=b;simp [k3D] at h;simp [h]
theorem Bg {a b:K3} (h:k3K a=k3K b):a=b:=by
 obtain ⟨a1,a2,j⟩:=a;obtain ⟨b1,b2,b3⟩:=b;simp [k3K] at h;simp [h]
noncomputable def cf (ts:List Tm) (k:K3):Int:=((ts.filter fun t=>decide (t.1=k)).map (·.2)).sum
theorem ff {k:K3}:cf [] k=0:=rfl
theorem aZ {t:Tm} {ts:List Tm} {k:K3}:cf (t::ts) k=(if t.1=k then t.2 else 0)+cf ts k:=by
 unfold cf
 by_cases h:t.1=k
 ·rw [JG (by simpa using h),if_pos h];simp
 ·rw [JH (by simpa using h),if_neg h];simp
theorem dq {a b:List Tm} {k:K3}:cf (a++b) k=cf a k+cf b k:=by
 induction a with
 | nil=>simp [ff]
 | cons t a ih=>rw [Oe,aZ,aZ,ih];lia
theorem r6 {a b:List Tm} (h:a.Perm b) {k:K3}:cf a k=cf b k:=by
 induction h with
 | nil=>rfl
 | cons x h ih=>rw [aZ,aZ,ih]
 | swap x y l=>simp only [aZ];lia
 | trans _ _ j q=>rw [j,q]
theorem kQ {ts:List Tm} {k:K3} (h:∀ t∈ts,t.1≠k):cf ts k=0:=by
 induction ts with
 | nil=>rfl
 | cons t ts ih=>rw [aZ,if_neg (h t (by simp)),ih fun u j=>h u (by simp [j])];rfl
theorem fg {ts:List Tm} (hn:(ts.map (·.1)).Nodup) {t:Tm} (j:t∈ts):cf ts t.1=t.2:=by
 induction ts with
 | nil=>simp at j
 | cons u ts ih =>
   simp only [Hs,Jm] at hn;rw [aZ]
   rcases Hg.mp j with z | z
   ·subst z;rw [if_pos rfl,kQ fun v q e=>hn.1 (by rw [<- e];exact HX q)]
    lia
   ·rw [if_neg fun e=>hn.1 (by rw [e];exact HX z),ih hn.2 z];lia
noncomputable def eF (L:List Tm) (k:K3) (c:Int):List Tm:=if (L.any fun p=>decide (p.1=k))=true then L.map fun p=>if p.1=k then (p.1,p.2+c) else p else L++[(k,c)]
theorem r8 {L:List Tm} {k:K3}:dget (L.map kcD) (k3D k)=(L.find? fun p=>decide (p.1=k)).map fun p => .int p.2:=by
 unfold dget
 induction L with
 | nil=>rfl
 | cons t L ih =>
   by_cases h:t.1=k
   ·rw [Hs,Mj (by simp [kcD,h]),Mj (by simpa using h)];rfl
   ·rw [Hs,KI (by simp only [decide_eq_true_eq];exact fun e=>h (i7 e)),KI (by simpa using h),ih]
theorem w8 {L:List Tm} {k:K3}:((L.map kcD).any fun p=>decide (p.1=k3D k))=L.any fun p=>decide (p.1=k):=by
 induction L with
 | nil=>rfl
 | cons t L ih =>
   rw [Hs,Jw,Jw,ih];congr 1
   by_cases h:t.1=k
   ·simp [kcD,h]
   ·rw [decide_eq_false h];exact decide_eq_false (fun e=>h (i7 e))
theorem Bh {L:List Tm} (hn:(L.map (·.1)).Nodup) {k:K3} {c:Int}:cz (L.map kcD) (k3D k) (.int ((((L.find? fun p=>decide (p.1=k)).map (·.2)).getD 0)+c))=(eF L k c).map kcD:=by
 unfold cz eF;rw [w8]
 split
 ·next h =>
  rw [Im,Im];apply HK;intro t j;simp only [KQ]
  by_cases e:t.1=k
  ·rw [if_pos (by rw [<- e];rfl),if_pos e]
   have:L.find? (fun p=>decide (p.1=k))=some t:=by
    clear h
    induction L with
    | nil=>simp at j
    | cons u L ih =>
      simp only [Hs,Jm] at hn
      rcases Hg.mp j with z | z
      ·subst z;rw [Mj (by simpa using e)]
      ·rw [KI (by simp;intro e2;exact hn.1 (by rw [e2, <- e];exact HX z))]
       exact ih hn.2 z
   rw [this];rfl
  ·rw [if_neg (c:=(kcD t).1=k3D k) (fun z=>e (i7 z)),if_neg e]
 ·next h =>
  have:L.find? (fun p=>decide (p.1=k))=none:=by
   rw [List.find?_eq_none];intro x hx;simp only [decide_eq_true_eq];intro e;exact h (JW.mpr ⟨x,hx,by simpa using e⟩)
  rw [this];simp [kcD]
theorem w9 {L:List Tm} {k:K3} {c:Int}:(eF L k c).map (·.1)=if (L.any fun p=>decide (p.1=k))=true then L.map (·.1) else L.map (·.1)++[k]:=by
 unfold eF
 split
 ·rw [Im];apply HK;intro t _;simp only [KQ]
  split <;> rfl
 ·simp
theorem tz {L:List Tm} (hn:(L.map (·.1)).Nodup) {k:K3} {c:Int}:((eF L k c).map (·.1)).Nodup:=by
 rw [w9]
 split
 ·exact hn
 ·next h =>
  refine NR.mpr ⟨hn,by simp,fun a j b hb e => ?_⟩
  simp at hb;subst hb;subst e;obtain ⟨t,q,e⟩:=Hu.mp j;exact h (JW.mpr ⟨t,q,by simpa using e⟩)
theorem yz {L:List Tm} {k:K3} {c:Int}:(eF L k c).length<=L.length+1:=by
 unfold eF;split <;> simp
theorem Bi {L:List Tm} (hn:(L.map (·.1)).Nodup) {k a:K3} {c:Int}:cf (eF L k c) a=cf L a+if k=a then c else 0:=by
 unfold eF
 split
 ·next h =>
  obtain ⟨t,j,e⟩:=JW.mp h;have e:t.1=k:=by simpa using e
  clear h
  induction L with
  | nil=>simp at j
  | cons u L ih =>
    simp only [Hs,Jm] at hn;rw [Hs,aZ,aZ]
    by_cases eu:u.1=k
    ·have rest:(L.map fun p=>if p.1=k then (p.1,p.2+c) else p)=L:=by
      conv=>rhs;rw [<- QP L]
      apply HK;intro p q;rw [if_neg fun z=>hn.1 (by rw [eu, <- z];exact HX q)];rfl
     rw [rest,if_pos eu];dsimp only
     by_cases ea:u.1=a
     ·rw [if_pos ea,if_pos ea,if_pos (by rw [<- eu];exact ea)];lia
     ·rw [if_neg ea,if_neg ea,if_neg (by rw [<- eu];exact ea)];lia
    ·rcases Hg.mp j with z | z
     ·exact absurd (by rw [<- z];exact e) eu
     ·rw [ih hn.2 z,if_neg eu];lia
 ·rw [dq,aZ,ff];simp
noncomputable def tset (ts:List Tm):List Tm:=ts.foldl (fun L t=>eF L t.1 t.2) []
theorem eP {ts:List Tm} {t:Tm}:tset (ts++[t])=eF (tset ts) t.1 t.2:=by simp [tset]
theorem fV {α:Type} {P:List α -> Prop} (h0:P []) (h1:∀ l x,P l->P (l++[x])) (l:List α):P l:=by
 have:∀ r:List α,P r.reverse:=by
  intro r
  induction r with
  | nil=>exact h0
  | cons x r ih=>rw [KY];exact h1 _ _ ih
 have:=this l.reverse;rw [OY] at this;exact this
theorem fW (ts:List Tm):((tset ts).map (·.1)).Nodup:=fV (P:=fun ts=>((tset ts).map (·.1)).Nodup) (by simp [tset]) (fun l x ih=>by rw [eP];exact tz ih) ts
theorem Bj (ts:List Tm) (k:K3):cf (tset ts) k=cf ts k:=fV (P:=fun ts=>cf (tset ts) k=cf ts k) rfl (fun l x ih=>by
 rw [eP,Bi (fW l),ih,dq,aZ,ff];lia) ts
theorem pC (ts:List Tm):(tset ts).length<=ts.length:=fV (P:=fun ts=>(tset ts).length<=ts.length) (by simp [tset]) (fun l x ih=>by
 rw [eP];have:=yz (L:=tset l) (k:=x.1) (c:=x.2);simp;lia) ts
theorem Eg {ts:List Tm} {k:K3}:Mi.cf (ts.filter fun t => !(t.2==0)) k=Mi.cf ts k:=by
 induction ts with
 | nil=>rfl
 | cons t ts ih =>
   rw [aZ]
   by_cases h:t.2=0
   ·rw [JH (by simp [h]),ih,h];split <;> lia
   ·rw [JG (by simp [h]),aZ,ih]
theorem Ge.upd {M j:Mem} {d:Addr} {o:O} (g:Ge M j) (hd:M d=none):Ge M (ah j d o):=fun a o' e=>by
 rw [aR (fun z=>by rw [z,hd] at e;cases e)];exact g _ _ e
end
section
open PySem PySem.Spec PyProof.Rows L2.Srt
variable {T:List FD}
noncomputable def bN (n:Nat) (F:Nat->Int):Int:=((B0 n).map F).sum
theorem bO {n:Nat} {F G:Nat->Int} (h:∀ i,i < n->F i=G i):bN n F=bN n G:=by
 unfold bN;rw [HK fun i hi=>h i (HB.mp hi)]
theorem dr {n:Nat} {F:Nat->Int}:bN (n+1) F=bN n F+F n:=by
 unfold bN;rw [N4];simp
theorem yA {n:Nat} {F G:Nat->Int}:bN n (fun i=>F i+G i)=bN n F+bN n G:=by
 induction n with
 | zero=>rfl
 | succ n ih=>rw [dr,dr,dr,ih];lia
theorem gE {n:Nat} {F:Nat->Int} (h:∀ i,i < n->F i=0):bN n F=0:=by
 induction n with
 | zero=>rfl
 | succ n ih=>rw [dr,ih fun i hi=>h i (by lia),h n (by lia)];rfl
noncomputable def eQ (n m:Nat) (g:Nat->Nat->Tm):List Tm:=(B0 n).flatMap fun i=>(B0 m).map (g i)
noncomputable def bD (i j:Nat):Tm:=(((i+j:Nat),(i:Int),(j:Int)),1)
noncomputable def be (n m:Nat):List Tm:=eQ n m bD
end
section
open PySem PySem.Spec PyProof.Rows L2.Srt
variable {T:List FD}
theorem yB {n m:Nat} {g:Nat->Nat->Tm}:(eQ n m g).length=n*m:=by
 unfold eQ;rw [List.length_flatMap]
 induction n with
 | zero=>simp
 | succ n ih=>rw [N4,Iz,OI,ih,J2];simp
end
section
open PySem PySem.Spec PyProof.Rows L2.Srt
theorem tD {n m:Nat} {g:Nat->Nat->Tm} (z:∀ i j,(g i j).1.2=((i:Int),(j:Int))):((eQ n m g).map (·.1)).Nodup:=by
 unfold eQ;rw [List.map_flatMap,Jf,List.pairwise_flatMap];refine ⟨fun i _ => ?_, ?_⟩
 ·rw [Im,Jd];refine (Jf.mp QH).imp ?_;intro a b q e;have h:=congrArg (fun k:K3=>k.2.2) e;simp only [KQ,z] at h;lia
 ·refine (Jf.mp QH).imp ?_;intro a b q x hx y B e;rw [Im] at hx B;obtain ⟨u,_,rfl⟩:=Hu.mp hx;obtain ⟨v,_,rfl⟩:=Hu.mp B;have h:=congrArg (fun k:K3=>k.2.1) e;simp only [KQ,z] at h;lia
theorem dN {n m:Nat}:((be n m).map (·.1)).Nodup:=tD fun _ _=>rfl
end
section
open PySem PySem.Spec PyProof.Rows L2.Srt
variable {T:List FD}
theorem Dn {a b n m:Nat} (j:a < n) (hb:b < m):a*m+b < n*m:=by
 have:(a+1)*m<=n*m:=Kd m j;rw [J2] at this;lia
end
section
open PySem PySem.Spec PyProof.Rows L2.Srt
variable {T:List FD}
noncomputable def dB (L:List Tm) (k:K3) (c:Int):List Tm:=if (L.any fun p=>decide (p.1=k))=true then L.map (fun p=>if p.1=k then (p.1,c) else p) else L++[(k,c)]
theorem pE {L:List Tm} {k:K3} {c:Int}:cz (L.map kcD) (k3D k) (.int c)=(dB L k c).map kcD:=by
 unfold cz dB;rw [w8]
 split
 ·rw [Im,Im];refine HK fun p _ => ?_;simp only [KQ]
  by_cases h:p.1=k
  ·rw [if_pos h,if_pos (show (kcD p).1=k3D k by show k3D p.1=k3D k;rw [h])];rfl
  ·rw [if_neg h,if_neg (show ¬ (kcD p).1=k3D k from fun z=>h (i7 z))]
 ·rw [Iz];rfl
theorem tE {L:List Tm} (hn:(L.map (·.1)).Nodup) {k:K3} {c:Int}:((dB L k c).map (·.1)).Nodup:=by
 unfold dB
 split
 ·rw [Im];have e:L.map ((fun x:Tm=>x.1) ∘ fun p=>if p.1=k then (p.1,c) else p)=L.map (·.1):=HK fun p _=>by
   simp only [KQ];split <;> rfl
  rw [e];exact hn
 ·next h =>
  rw [Iz,NR];refine ⟨hn,by simp,fun a j b hb e => ?_⟩
  simp at hb;subst e hb;obtain ⟨p,q,rfl⟩:=Hu.mp j;exact h (JW.mpr ⟨p,q,by simp⟩)
theorem yC {L:List Tm} {k:K3} {c:Int} {t:Tm} (h:t∈dB L k c):t∈L∨t=(k,c):=by
 unfold dB at h
 split at h
 ·obtain ⟨p,j,rfl⟩:=Hu.mp h
  by_cases e:p.1=k
  ·rw [if_pos e];exact .inr (by rw [e])
  ·rw [if_neg e];exact .inl j
 ·rcases Hy.mp h with h | h
  ·exact .inl h
  ·exact .inr (by simpa using h)
theorem yD {L:List Tm} {k:K3} {c:Int}:(dB L k c).length<=L.length+1:=by
 unfold dB;split <;> simp
theorem qk {L:List Tm} (hn:(L.map (·.1)).Nodup) {ys:List D} (q:ys.Perm ((L.map kcD).map (·.1))) (hs:kH ys):∃ rs:List Tm,rs.Perm L/\ys=rs.map (fun t=>k3D t.1)/\rs.Pairwise fun a b=>klt a.1 b.1:=by
 have e0:(L.map kcD).map (·.1)=L.map fun t=>k3D t.1:=by rw [Im];rfl
 rw [e0] at q;obtain ⟨rs,z,p2⟩:=md (fun t:Tm=>k3D t.1) q rfl;refine ⟨rs,z,p2.symm, ?_⟩;have j:(rs.map (·.1)).Nodup:=(z.map (·.1)).nodup_iff.mpr hn;unfold kH at hs;rw [<- p2,Jd] at hs;rw [Jf,Jd] at j;refine (hs.and j).imp ?_;rintro a b ⟨h1,h2⟩;unfold klt
 cases e1:ltK (k3K a.1) (k3K b.1) with
 | true=>rfl
 | false=>exact absurd (Bg (lW _ _ e1 h1)) h2
theorem fX {L:List Tm} (hn:(L.map (·.1)).Nodup) {t:Tm} (j:t∈L):dget (L.map kcD) (k3D t.1)=some (.int t.2):=by
 rw [r8];have:L.find? (fun p=>decide (p.1=t.1))=some t:=by
  induction L with
  | nil=>simp at j
  | cons x L ih =>
    simp only [Hs,Jm] at hn
    rcases Hg.mp j with z | z
    ·subst z;simp
    ·have:x.1≠t.1:=fun e=>hn.1 (by rw [e];exact HX z)
     rw [KI (by simpa using this)]
     exact ih hn.2 z
 rw [this];rfl
theorem yE {L:List Tm} (hn:(L.map (·.1)).Nodup):sP (L.map kcD)=L.map kcD:=by
 have g:∀ (r l:List Tm),(((l++r).map (·.1)).Nodup)->(r.map kcD).foldl (fun a kv=>cz a kv.1 kv.2) (l.map kcD)=(l++r).map kcD:=by
  intro r
  induction r with
  | nil=>intro l _;simp
  | cons t r ih =>
    intro l h;rw [Hs,Lq];have e:cz (l.map kcD) (kcD t).1 (kcD t).2=(l++[t]).map kcD:=by
     show cz (l.map kcD) (k3D t.1) (.int t.2)=_;rw [pE];unfold dB;rw [if_neg];intro z;obtain ⟨p,j,e⟩:=JW.mp z;rw [Iz,NR] at h;exact h.2.2 _ (HX j) _ (HX (Ie ..)) (of_decide_eq_true e)
    rw [e,ih (l++[t]) (by rw [Hl];exact h)]
    rw [Hl];rfl
 have:=g L [] (by simpa using hn)
 simpa [sP] using this
theorem jW (k:K3):bW (k3D k)=true:=rfl
end
section
open PySem PySem.Spec PyProof.Rows L2.Srt
variable {T:List FD}
noncomputable def idx (l:List Int):List (Int×Int):=l.mapIdx fun i x=>((i:Nat),x)
noncomputable def nz (l:List Int):List (Int×Int):=(idx l).filter fun q => !(q.2==0)
noncomputable def pD (q:Int×Int):D := .tup [.int q.1, .int q.2]
theorem r9 {l:List Int}:(idx l).length=l.length:=by simp [idx]
theorem pF {l:List Int}:(nz l).length<=l.length:=by
 unfold nz;exact IH (KW _ _) (by rw [r9];exact Hk _)
theorem yF {l:List Int}:fN (l.map .int)=(idx l).map pD:=by
 unfold fN idx;apply Kc;intro j;simp only [OX,HC]
 cases l[j]? <;> rfl
noncomputable def gF (xp xn:Str) (s:Stmt):FD:=⟨"_law_nonzero",s,[xp],1,
 (.cons (.ret (.comp [none,none] ["_law_place",xn] (.last (.enum (.var 0)) (.tup (.cons (.name 0) (.cons (.name 1) .nil))) (.cons (.cmp .ne (.var 1) (.int 0)) .nil) (.tup (.cons (.var 0) (.cons (.var 1) .nil))))))
 .nil)⟩
theorem tF {f:Nat} {xp xn:Str} {s:Stmt} (hf:T[f]? = some (gF xp xn s)) {n:Nat} (hn : 1<=n) {l:List Int} (G:l.length<=10000000) {M:Mem} {Q:QD} (q:∀ p,M p=none->Q (.ref p) (ah M p (.lst ((nz l).map pD)))):phi T n f [.tup (l.map .int)] M Q:=by
 refine aF (by lia) hf rfl (ρ := [some _]) rfl ?_
 unfold gF;walk_at "st";rw [yF];refine au (f:=pD) (ys:=idx l) (I:=fun r ρ M' acc=>(∃ o0 z, ρ = [o0,z])/\M'=M/\acc=(r.filter fun q => !(q.2==0)).map pD) rfl ⟨⟨_,_,rfl⟩,rfl,rfl⟩ (fun _ _ _ _ _=>by first | rfl | trivial) ?_ ?_
 ·rintro l' x r ρ M1 acc e ⟨⟨o0,z,rfl⟩,rfl,rfl⟩;refine ⟨_,rfl,fun N' j => ?_⟩;have B:=am e;rw [r9] at B;have F:(l'.filter fun q => !(q.2==0)).length<=l'.length:=KW _ _;walk_at "wp"
  by_cases hz:x.2=0
  ·rw [if_neg (by simp [hz])]
   refine j _ _ _ ⟨⟨_,_,rfl⟩,rfl, ?_⟩;rw [Lz,JH (by simp [hz])];simp
  ·rw [if_pos (by simp [hz])]
   refine ⟨by rw [B2];lia,by rw [A0,B2];lia,j _ _ _ ⟨⟨_,_,rfl⟩,rfl, ?_⟩⟩
   rw [Lz,JG (by simp [hz])];simp [pD]
 ·rintro ρ M1 acc ⟨⟨o0,z,rfl⟩,rfl,rfl⟩ p hp;exact q p hp
noncomputable def bP (i a j b:Int) (zs:List (Int×Int)):List Tm:=zs.map fun z=>((z.1,i,j),a*b*z.2)
noncomputable def cm (i a:Int) (ys zs:List (Int×Int)):List Tm:=ys.flatMap fun y=>bP i a y.1 y.2 zs
noncomputable def cR (xs ys zs:List (Int×Int)):List Tm:=xs.flatMap fun x=>cm x.1 x.2 ys zs
noncomputable def eS (p:Pr):List Tm:=cR (nz p.1) (nz p.2.1) (nz p.2.2)
noncomputable def ba (ps:List Pr):List Tm:=ps.flatMap eS
theorem pG {i a j b:Int} {zs:List (Int×Int)}:(bP i a j b zs).length=zs.length:=by simp [bP]
theorem pH {i a:Int} {ys zs:List (Int×Int)}:(cm i a ys zs).length=ys.length*zs.length:=by
 unfold cm
 induction ys with
 | nil=>simp
 | cons y ys ih=>rw [Ke,A1,ih,pG,HS,J2];lia
theorem iX {xs ys zs:List (Int×Int)}:(cR xs ys zs).length=xs.length*(ys.length*zs.length):=by
 unfold cR
 induction xs with
 | nil=>simp
 | cons y ys ih=>rw [Ke,A1,ih,pH,HS,J2];lia
noncomputable def pI (xs:Str) (s:Stmt) (fz:Nat):FD:=⟨"_law_sums",s,[xs, "_law_found", "_law_l", "_law_r", "_law_o", "_law_rights", "_law_outs", "_law_i", "_law_a", "_law_j", "_law_b", "_law_k", "_law_c"],1,
 (.cons (.asg (.name 1) (.dnew true))
 (.cons (.for (.tup (.cons (.name 2) (.cons (.name 3) (.cons (.name 4) .nil)))) (.seq (.ix (.var 0) (.int 3))) (.cons (.asg (.name 5) (.call fz (.cons (.var 3) .nil)))
 (.cons (.asg (.name 6) (.call fz (.cons (.var 4) .nil)))
 (.cons (.for (.tup (.cons (.name 7) (.cons (.name 8) .nil))) (.seq (.call fz (.cons (.var 2) .nil))) (.cons (.for (.tup (.cons (.name 9) (.cons (.name 10) .nil))) (.seq (.var 5)) (.cons (.for (.tup (.cons (.name 11) (.cons (.name 12) .nil))) (.seq (.var 6)) (.cons (.put (.var 1) (.tup (.cons (.var 11) (.cons (.var 7) (.cons (.var 9) .nil)))) (.bin .add (.dget (.var 1) (.tup (.cons (.var 11) (.cons (.var 7) (.cons (.var 9) .nil)))) (.int 0)) (.bin .mul (.bin .mul (.var 8) (.var 10)) (.var 12))))
 .nil))
 .nil))
 .nil))
 .nil))))
 (.cons (.frz 1 (.ret (.blt .dict (.cons (.comp [none,(some 1)] ["_law_place", "_law_found"] (.last (.keys (.var 1)) (.name 0) (.cons (.cmp .ne (.ix (.var 1) (.var 0)) (.int 0)) .nil) (.tup (.cons (.var 0) (.cons (.ix (.var 1) (.var 0)) .nil))))) .nil))))
 .nil)))⟩
def Do (T:List FD) (n f:Nat):Prop := ∀ {l:List Int} {M:Mem} {Q:QD},l.length<=10000000->(∀ p,M p=none->Q (.ref p) (ah M p (.lst ((nz l).map pD))))->phi T n f [.tup (l.map .int)] M Q
structure Dp (p:Pr):Prop where
 b1:Big p.1
 b2:Big p.2.1
 b3:Big p.2.2
 l1:p.1.length<=100
 l2:p.2.1.length<=100
 l3:p.2.2.length<=100
structure zC (ps:List Pr) (L:List Tm):Prop where
 nd:(L.map (·.1)).Nodup
 nz:∀ t∈L,t.2≠0
 cf:∀ k,cf L k=cf (ba ps) k
def Od (d:Addr) (M M':Mem):Prop := ∀ a,a≠d->M' a=M a
theorem Od.refl {d:Addr} {M:Mem}:Od d M M:=fun _ _=>rfl
theorem Od.trans {d:Addr} {M M' M'':Mem} (h:Od d M M') (g:Od d M' M''):Od d M M'':=fun a n=>(g a n).trans (h a n)
theorem Od.upd {d:Addr} {M M':Mem} {o:O} (h:Od d M M'):Od d M (ah M' d o):=fun a n=>(aR n).trans (h a n)
noncomputable def zD:MSs := .cons (.put (.var 1) (.tup (.cons (.var 11) (.cons (.var 7) (.cons (.var 9) .nil)))) (.bin .add (.dget (.var 1) (.tup (.cons (.var 11) (.cons (.var 7) (.cons (.var 9) .nil)))) (.int 0)) (.bin .mul (.bin .mul (.var 8) (.var 10)) (.var 12)))) .nil
noncomputable def tG:MSs := .cons (.for (.tup (.cons (.name 11) (.cons (.name 12) .nil))) (.seq (.var 6)) zD) .nil
noncomputable def tH:MSs := .cons (.for (.tup (.cons (.name 9) (.cons (.name 10) .nil))) (.seq (.var 5)) tG) .nil
noncomputable abbrev bd (x:Int):Prop := -1000000000000<=x/\x<=1000000000000
theorem Eh {Φ:Phi} {v0 v2 O v4 U B G:Option D} {d po:Addr} {i a j b:Int} {zs:List (Int×Int)} {pre:List Tm} {M:Mem} {E:bC} (J:M po=some (.lst (zs.map pD))) (Y:po≠d) (hd:M d=some (.dct true ((tset pre).map kcD))) (hl:pre.length+zs.length<=10000000) (ha:bd a) (hb:bd b)  (hc:∀ z∈zs,bd z.2)
 (q:∀ M' B G,Od d M M'->M' d=some (.dct true ((tset (pre++bP i a j b zs)).map kcD))->E.nx [v0,some (.ref d),v2,O,v4,U,some (.ref po),some (.int i),some (.int a),some (.int j),some (.int b),B,G] M') :
 wSs Φ tG E [v0,some (.ref d),v2,O,v4,U,some (.ref po),some (.int i),some (.int a),some (.int j),some (.int b),B,G] M:=by
 unfold tG;walk_at "st";refine ⟨_,ag J, ?_⟩;refine aG (f:=pD) (ys:=zs) (I:=fun l ρ M' => ∃ B G, ρ = [v0,some (.ref d),v2,O,v4,U,some (.ref po),some (.int i),some (.int a),some (.int j),some (.int b),B,G]/\Od d M M'/\M' d=some (.dct true ((tset (pre++bP i a j b l)).map kcD))) rfl ⟨_,_,rfl,Od.refl,by simpa [bP] using hd⟩ (fun l ρ M' ⟨_,_,_,g,_⟩=>ag ((g po Y).trans J)) ?_ ?_
 ·rintro l z r ρ M1 e ⟨B,G,rfl,g1,L⟩;refine ⟨_,rfl,fun F hF => ?_⟩;have EX:=am e;have hz:=hc z (by rw [e];simp)
  have Z:=pC (pre++bP i a j b l);rw [A1,pG] at Z;unfold zD;rw [cZ];walk_at "wp";refine ⟨⟨_,_,L⟩,by rw [B2];lia,_,_,L,rfl,aO (by lia),kM (by lia), ?_⟩
  have ek:D.tup [D.int z.1,D.int i,D.int j]=k3D (z.1,i,j):=rfl;rw [ek,r8];have eg:((Option.map (fun p:Tm=>D.int p.2) ((tset (pre++bP i a j b l)).find? fun p=>decide (p.1=(z.1,i,j)))).getD (.int 0)) = .int (((((tset (pre++bP i a j b l)).find? fun p=>decide (p.1=(z.1,i,j))).map (·.2)).getD 0)):=by
   cases (tset (pre++bP i a j b l)).find? fun p=>decide (p.1=(z.1,i,j)) <;> rfl
  rw [eg];walk_at "wp";refine ⟨by rw [B2];lia,ph L rfl (by rw [A0,B2];lia) ?_⟩
  rw [Bh (fW _)];refine hF _ _ ⟨_,_,rfl,g1.upd, ?_⟩;rw [ad,show bP i a j b (l++[z])=bP i a j b l++[((z.1,i,j),a*b*z.2)] by simp [bP], <- Hl,eP]
 ·rintro ρ M1 ⟨B,G,rfl,g1,L⟩;dsimp only;walk_at "wp";exact q _ _ _ g1 L
theorem Ei {Φ:Phi} {v0 v2 U v4 J G j B:Option D} {d pr po:Addr} {i a:Int} {ys zs:List (Int×Int)} {pre:List Tm} {M:Mem} {E:bC} (L:M pr=some (.lst (ys.map pD))) (Y:pr≠d) (Z:M po=some (.lst (zs.map pD))) (O:po≠d) (hd:M d=some (.dct true ((tset pre).map kcD))) (hl:pre.length+ys.length*zs.length<=10000000) (ha:bd a) (hb:∀ z∈ys,bd z.2) (hc:∀ z∈zs,bd z.2)
 (q:∀ M' J G j B,Od d M M'->M' d=some (.dct true ((tset (pre++cm i a ys zs)).map kcD))->E.nx [v0,some (.ref d),v2,U,v4,some (.ref pr),some (.ref po),some (.int i),some (.int a),J,G,j,B] M') :
 wSs Φ tH E [v0,some (.ref d),v2,U,v4,some (.ref pr),some (.ref po),some (.int i),some (.int a),J,G,j,B] M:=by
 unfold tH;walk_at "st";refine ⟨_,ag L, ?_⟩;refine aG (f:=pD) (ys:=ys) (I:=fun l ρ M' => ∃ J G j B, ρ = [v0,some (.ref d),v2,U,v4,some (.ref pr),some (.ref po),some (.int i),some (.int a),J,G,j,B]/\Od d M M'/\M' d=some (.dct true ((tset (pre++cm i a l zs)).map kcD))) rfl ⟨_,_,_,_,rfl,Od.refl,by simpa [cm] using hd⟩ (fun l ρ M' ⟨_,_,_,_,_,g,_⟩=>ag ((g pr Y).trans L)) ?_ ?_
 ·rintro l y r ρ M1 e ⟨J,G,j,B,rfl,g1,hM⟩;refine ⟨_,rfl,fun F hF => ?_⟩;have EX:=am e;have hy:=hb y (by rw [e];simp)
  have hm:(l.length+1)*zs.length<=ys.length*zs.length:=Kd _ EX;rw [J2] at hm;refine Eh ((g1 po O).trans Z) O hM (by rw [A1,pH];lia) ha hy hc fun M2 j B g2 h2=>hF _ _ ⟨_,_,_,_,rfl,g1.trans g2, ?_⟩
  rw [h2,show cm i a (l++[y]) zs=cm i a l zs++bP i a y.1 y.2 zs by simp [cm],Hl]
 ·rintro ρ M1 ⟨J,G,j,B,rfl,g1,hM⟩;dsimp only;walk_at "wp";exact q _ _ _ _ _ g1 hM
theorem Ej {Φ:Phi} {v0 v2 Z v4:Option D} {d pr po pl:Addr} {xs ys zs:List (Int×Int)} {pre:List Tm} {M:Mem} {E:bC} {L O J j B G:Option D} (EX:M pl=some (.lst (xs.map pD))) (EY:pl≠d) (EZ:M pr=some (.lst (ys.map pD))) (U:pr≠d) (F1:M po=some (.lst (zs.map pD))) (Y:po≠d) (hd:M d=some (.dct true ((tset pre).map kcD))) (hl:pre.length+xs.length*(ys.length*zs.length)<=10000000) (ha:∀ z∈xs,bd z.2) (hb:∀ z∈ys,bd z.2) (hc:∀ z∈zs,bd z.2)
 (q:∀ M' L O J j B G,Od d M M'->M' d=some (.dct true ((tset (pre++cR xs ys zs)).map kcD))->E.nx [v0,some (.ref d),v2,Z,v4,some (.ref pr),some (.ref po),L,O,J,j,B,G] M') :
 bT (kD (aX (aQ 7) (aX (aQ 8) dz))) (wSs Φ tH) (fun M=>ar M (.ref pl)=some (xs.map pD)) E (xs.map pD) [v0,some (.ref d),v2,Z,v4,some (.ref pr),some (.ref po),L,O,J,j,B,G] M:=by
 refine aG (f:=pD) (ys:=xs) (I:=fun l ρ M' => ∃ L O J j B G, ρ = [v0,some (.ref d),v2,Z,v4,some (.ref pr),some (.ref po),L,O,J,j,B,G]/\Od d M M'/\M' d=some (.dct true ((tset (pre++cR l ys zs)).map kcD))) rfl ⟨_,_,_,_,_,_,rfl,Od.refl,by simpa [cR] using hd⟩ (fun l ρ M' ⟨_,_,_,_,_,_,_,g,_⟩=>ag ((g pl EY).trans EX)) ?_ ?_
 ·rintro l x r ρ M1 e ⟨L,O,J,j,B,G,rfl,g1,hM⟩;refine ⟨_,rfl,fun F hF => ?_⟩;have F5:=am e;have hx:=ha x (by rw [e];simp)
  have hm:(l.length+1)*(ys.length*zs.length)<=xs.length*(ys.length*zs.length):=Kd _ F5;rw [J2] at hm;refine Ei ((g1 pr U).trans EZ) U ((g1 po Y).trans F1) Y hM (by rw [A1,iX];lia) hx hb hc fun M2 J j B G g2 h2=>hF _ _ ⟨_,_,_,_,_,_,rfl,g1.trans g2, ?_⟩
  rw [h2,show cR (l++[x]) ys zs=cR l ys zs++cm x.1 x.2 ys zs by simp [cR],Hl]
 ·rintro ρ M1 ⟨L,O,J,j,B,G,rfl,g1,hM⟩;exact q _ _ _ _ _ _ _ g1 hM
theorem pJ {l:List Int} (h:Big l):∀ z∈nz l,bd z.2:=fun z j=>by
 unfold nz at j;have j:=(Lo.mp j).1;unfold idx at j;obtain ⟨i,hi,e⟩:=List.mem_mapIdx.mp j;rw [<- e];exact h _ (Mv hi)
theorem wa {ps:List Pr} {p:Pr}:ba (ps++[p])=ba ps++eS p:=by simp [ba]
theorem Bk {f fz:Nat} {xs:Str} {s:Stmt} (hf:T[f]? = some (pI xs s fz)) {n:Nat} (EX:Do T (n - 1) fz) (hn : 1<=n) {x0 x1 x2:D} {p:Addr} {ps:List Pr} {M:Mem} {Q:QD} (hp:M p=some (.lst (ps.map prD))) (hl:(ba ps).length<=10000000) (hF:∀ p∈ps,Dp p)
 (q:∀ (L:List Tm) d M',zC ps L->L.length<=10000000->Ge M M'->M d=none->M' d=some (.dct true (L.map kcD))->Q (.ref d) M'):phi T n f [.tup [x0,x1,x2, .ref p]] M Q:=by
 refine aF (by lia) hf rfl (ρ := [some _,none,none,none,none,none,none,none,none,none,none,none,none]) rfl ?_
 unfold pI;walk_at "st";intro d hd;have g0:=Ge.new (o := .dct true []) hd;have d0:=ad (M:=M) (a:=d) (o := .dct true []);generalize ah M d (.dct true [])=M0 at g0 d0 ⊢;walk_at "st";refine ⟨_,rfl,_,ag (g0 _ _ hp), ?_⟩;have Fe:p≠d:=fun z=>by rw [z,hd] at hp;cases hp
 refine aG (f:=prD) (ys:=ps) (I:=fun l ρ M' => ∃ o2 o3 o4 o5 o6 o7 o8 o9 B G J, ρ = [some (.tup [x0,x1,x2, .ref p]),some (.ref d),o2,o3,o4,o5,o6,o7,o8,o9,B,G,J]/\Ge M M'/\M' d=some (.dct true ((tset (ba l)).map kcD))) rfl ⟨_,_,_,_,_,_,_,_,_,_,_,rfl,g0,d0⟩ (fun l ρ M' ⟨_,_,_,_,_,_,_,_,_,_,_,_,g,_⟩=>ag (g _ _ hp)) ?_ ?_
 ·rintro l x r ρ M1 e ⟨o2,o3,o4,o5,o6,o7,o8,o9,B,G,J,rfl,g1,j⟩;refine ⟨_,rfl,fun F F6 => ?_⟩;have hx:=hF x (by rw [e];simp)
  have F7:(ba l).length+(eS x).length<=10000000:=by
   have:ba ps=ba l++eS x++ba r:=by rw [e];simp [ba]
   rw [this,A1,A1] at hl;lia
  walk_at "st";refine EX (by have:=hx.l2;lia) fun pr O => ?_
  have F8:pr≠d:=fun z=>by rw [z,j] at O;cases O
  have gr:=Ge.new (o := .lst ((nz x.2.1).map pD)) O;have er:=ad (M:=M1) (a:=pr) (o := .lst ((nz x.2.1).map pD));have j:=gr _ _ j;have g2:=g1.trans gr;generalize ah M1 pr (.lst ((nz x.2.1).map pD))=M2 at er j g2 ⊢;clear g1 gr O;walk_at "st";refine EX (by have:=hx.l3;lia) fun po U => ?_
  have F9:po≠d:=fun z=>by rw [z,j] at U;cases U
  have go:=Ge.new (o := .lst ((nz x.2.2).map pD)) U;have eo:=ad (M:=M2) (a:=po) (o := .lst ((nz x.2.2).map pD));have j:=go _ _ j;have er:=go _ _ er;have g3:=g2.trans go;generalize ah M2 po (.lst ((nz x.2.2).map pD))=M3 at er eo j g3 ⊢;clear g2 go U;walk_at "st";refine EX (by have:=hx.l1;lia) fun pl Y => ?_
  have Fa:pl≠d:=fun z=>by rw [z,j] at Y;cases Y
  have gl:=Ge.new (o := .lst ((nz x.1).map pD)) Y;have el:=ad (M:=M3) (a:=pl) (o := .lst ((nz x.1).map pD));have j:=gl _ _ j;have er:=gl _ _ er;have eo:=gl _ _ eo;have g4:=g3.trans gl;generalize ah M3 pl (.lst ((nz x.1).map pD))=M4 at er eo el j g4 ⊢;clear g3 gl Y;refine ⟨_,ag el, ?_⟩;refine Ej el Fa er F8 eo F9 j (by have:=iX (xs:=nz x.1) (ys:=nz x.2.1) (zs:=nz x.2.2);unfold eS at F7;lia) (pJ hx.b1) (pJ hx.b2) (pJ hx.b3) fun M5 o7 o8 o9 B G J g5 h5 => ?_
  walk_at "wp";refine F6 _ _ ⟨_,_,_,_,_,_,_,_,_,_,_,rfl,fun a o ea => ?_,by rw [h5,wa];rfl⟩
  by_cases had:a=d
  ·subst had;rw [hd] at ea;cases ea
  ·rw [g5 a had];exact g4 _ _ ea
 ·rintro ρ M1 ⟨o2,o3,o4,o5,o6,o7,o8,o9,B,G,J,rfl,g1,j⟩;dsimp only;walk_at "st";refine Bc rfl j ?_;have fd:=ad (M:=M1) (a:=d) (o := .fdc ((tset (ba ps)).map kcD));have g2:Ge M (ah M1 d (.fdc ((tset (ba ps)).map kcD))):=g1.upd hd;have Fb:=IH (pC (ba ps)) hl;have Z:=fW (ba ps);have EZ:=Bj (ba ps);generalize ah M1 d (.fdc ((tset (ba ps)).map kcD))=M2 at fd g2 ⊢;generalize tset (ba ps)=L at fd Fb Z EZ;walk_at "wp";refine ⟨_,fd, ?_⟩;refine au (f:=fun t:Tm=>k3D t.1) (ys:=L) (I:=fun l ρ M' acc=>(∃ o0, ρ = [o0,some (.ref d)])/\M'=M2/\acc=(l.filter fun t => !(t.2==0)).map fun t => .tup [k3D t.1, .int t.2]) (by rw [Im];rfl) ⟨⟨_,rfl⟩,rfl,rfl⟩ (fun _ _ _ _ _=>trivial) ?_ ?_
  ·rintro l t r ρ M3 acc e ⟨⟨o0,rfl⟩,rfl,rfl⟩;refine ⟨_,rfl,fun N' F1 => ?_⟩;have Ff:=am e;have ht:t∈L:=by rw [e];simp
   have Fc:(l.filter fun t => !(t.2==0)).length<=l.length:=KW _ _;walk_at "wp";refine vZ fd (jW _) (fX Z ht) ?_;walk_at "wp"
   by_cases hz:t.2=0
   ·rw [if_neg (by simp [hz])]
    refine F1 _ _ _ ⟨⟨_,rfl⟩,rfl, ?_⟩;rw [Lz,JH (by simp [hz])];simp
   ·rw [if_pos (by simp [hz])]
    refine vZ fd (jW _) (fX Z ht) ?_;refine ⟨by rw [B2];lia,by rw [A0,B2];lia,F1 _ _ _ ⟨⟨_,rfl⟩,rfl, ?_⟩⟩
    rw [Lz,JG (by simp [hz])];simp
  ·rintro ρ M3 acc ⟨⟨o0,rfl⟩,rfl,rfl⟩ p2 hp2;have Fc:(L.filter fun t => !(t.2==0)).length<=L.length:=KW _ _;have F5:((L.filter fun t => !(t.2==0)).map (·.1)).Nodup:=Z.sublist (List.Sublist.map _ List.filter_sublist);refine ⟨p2,(L.filter fun t => !(t.2==0)).map kcD,rfl,by rw [ad,Im];rfl,fun kv Fd => ?_,by rw [A0,B2];lia,fun pf EY => ?_⟩
   ·obtain ⟨t,_,rfl⟩:=Hu.mp Fd;exact jW _
   ·rw [yE F5];have g3:=g2.trans (Ge.new (o := .lst ((L.filter fun t => !(t.2==0)).map fun t=>D.tup [k3D t.1, .int t.2])) hp2);refine q (L.filter fun t => !(t.2==0)) pf _ ⟨F5,fun t ht => ?_,fun k=>by rw [Eg];exact EZ k⟩ (by lia) (g3.trans (Ge.new EY)) ?_ ad
    ·have:=(Lo.mp ht).2;simpa using this
    ·cases hz:M pf with
     | none=>rfl
     | some o=>rw [g3 _ _ hz] at EY;cases EY
end
section
open PySem PySem.Spec PyProof.Rows L2.Srt
noncomputable def S1 (zs:List (Int×Int)) (k:Int):Int:=(zs.map fun z=>if z.1=k then z.2 else 0).sum
theorem dW {z:Int×Int} {zs:List (Int×Int)} {k:Int}:S1 (z::zs) k=(if z.1=k then z.2 else 0)+S1 zs k:=by simp [S1]
theorem rf {α:Type} {F : α -> List Tm} {k:K3}:∀ l:List α,cf (l.flatMap F) k=(l.map fun x=>cf (F x) k).sum
 | [] => rfl
 | x::l=>by rw [Ke,dq,rf l];simp
theorem rg {i a j b k i' j':Int}:∀ {zs:List (Int×Int)},cf (bP i a j b zs) (k,i',j')=if i=i'/\j=j' then a*b*S1 zs k else 0
 | [] => by simp [bP,ff,S1]
 | z::zs=>by
   rw [show bP i a j b (z::zs)=((z.1,i,j),a*b*z.2)::bP i a j b zs from rfl,aZ,rg,dW]
   by_cases h:i=i'/\j=j'
   ·obtain ⟨rfl,rfl⟩:=h
    by_cases q:z.1=k
    ·subst q;simp [Kf]
    ·have : ¬ ((z.1,i,j)=(k,i,j)):=fun e=>q (congrArg (·.1) e);rw [if_neg this,if_pos ⟨rfl,rfl⟩,if_pos ⟨rfl,rfl⟩,if_neg q];simp
   ·have : ¬ ((z.1,i,j)=(k,i',j')):=fun e=>h ⟨congrArg (·.2.1) e,congrArg (·.2.2) e⟩;rw [if_neg this,if_neg h,if_neg h];rfl
theorem rh {i a k i' j':Int} {zs:List (Int×Int)}:∀ {ys:List (Int×Int)},cf (cm i a ys zs) (k,i',j')=if i=i' then a*S1 ys j'*S1 zs k else 0
 | [] => by simp [cm,ff,S1]
 | y::ys=>by
   rw [show cm i a (y::ys) zs=bP i a y.1 y.2 zs++cm i a ys zs from by simp [cm],dq,rh,rg,dW]
   by_cases h:i=i'
   ·subst h
    by_cases j:y.1=j'
    ·subst j;simp [Kf,L6]
    ·rw [if_neg (fun e=>j e.2),if_pos rfl,if_pos rfl,if_neg j];simp
   ·rw [if_neg (fun e=>h e.1),if_neg h,if_neg h];rfl
theorem rj {k i' j':Int} {ys zs:List (Int×Int)}:∀ {xs:List (Int×Int)},cf (cR xs ys zs) (k,i',j')=S1 xs i'*S1 ys j'*S1 zs k
 | [] => by simp [cR,ff,S1]
 | x::xs=>by
   rw [show cR (x::xs) ys zs=cm x.1 x.2 ys zs++cR xs ys zs from by simp [cR],dq,rj,rh,dW]
   by_cases h:x.1=i'
   ·subst h;simp [L6]
   ·rw [if_neg h,if_neg h];simp
noncomputable def gz (l:List Int) (i:Int):Int:=if i < 0 then 0 else l.getD i.toNat 0
theorem jX {l:List Int} {i:Int} (h:i < 0):gz l i=0:=if_pos h
theorem eG {i:Int}:gz [] i=0:=by unfold gz;split <;> simp
theorem bF {x:Int} {l:List Int} {i:Int}:gz (x::l) i=if i=0 then x else gz l (i - 1):=by
 unfold gz
 by_cases h:i < 0
 ·rw [if_pos h,if_neg (by lia),if_pos (by lia)]
 ·rw [if_neg h]
  by_cases h0:i=0
  ·subst h0;simp
  ·rw [if_neg h0,if_neg (by lia)]
   obtain ⟨n,rfl⟩:∃ n:Nat,i=((n+1:Nat):Int):=⟨(i - 1).toNat,by lia⟩
   rw [show (((n+1:Nat):Int) - 1).toNat=n by lia,HA]
   simp
theorem mw {a b:List Int}:∀ {i:Int},gz (a++b) i=if i < a.length then gz a i else gz b (i - a.length):=by
 induction a with
 | nil =>
   intro i
   by_cases h:i < 0
   ·rw [if_pos (by simpa using h),MV,jX h,jX h]
   ·rw [if_neg (by simpa using h)];simp
 | cons x a ih =>
   intro i;rw [Oe,bF,bF,ih,HS]
   by_cases h0:i=0
   ·subst h0;rw [if_pos rfl,if_pos rfl,if_pos (by lia)]
   ·rw [if_neg h0,if_neg h0]
    by_cases h:i < ((a.length+1:Nat):Int)
    ·rw [if_pos (by lia),if_pos h]
    ·rw [if_neg (by lia),if_neg h]
     congr 1;lia
theorem pK {x:Int}:∀ {b:List Int} {i:Int},gz (b.map (x * ·)) i=x*gz b i
 | [],i=>by rw [JP,eG];simp
 | y::b,i=>by rw [Hs,bF,bF,pK];split <;> rfl
theorem jY {l:List Int} {i:Int} (h:gz l i≠0) : 0<=i/\i < l.length:=by
 unfold gz at h
 by_cases hi:i < 0
 ·rw [if_pos hi] at h;exact absurd rfl h
 ·rw [if_neg hi] at h;refine ⟨by lia, ?_⟩
  by_cases hl:i.toNat < l.length
  ·lia
  ·rw [Ip,Jq (by lia)] at h;exact absurd rfl h
theorem wb {a b:List (Int×Int)} {k:Int}:S1 (a++b) k=S1 a k+S1 b k:=by simp [S1]
theorem jZ {k:Int}:∀ zs:List (Int×Int),S1 (zs.filter fun q => !(q.2==0)) k=S1 zs k
 | [] => rfl
 | z::zs=>by
   rw [dW]
   by_cases h:z.2=0
   ·rw [JH (by simp [h]),jZ zs,h];simp
   ·rw [JG (by simp [h]),dW,jZ zs]
theorem pL (l:List Int) (k:Int):S1 (idx l) k=gz l k:=fV (P:=fun l=>S1 (idx l) k=gz l k) (by rw [eG];rfl) (fun l x ih=>by
 have e:idx (l++[x])=idx l++[(((l.length:Nat):Int),x)]:=by simp [idx,List.mapIdx_append]
 rw [e,wb,ih,mw,dW];simp only [S1,JP,List.sum_nil]
 by_cases h:k < l.length
 ·rw [if_pos h,if_neg (by lia)];lia
 ·rw [if_neg h,bF,eG];have z:gz l k=0:=by
   cases Decidable.em (gz l k=0) with
   | inl h=>exact h
   | inr h'=>exact absurd (jY h').2 h
  rw [z]
  by_cases e:(l.length:Int)=k
  ·rw [if_pos e,if_pos (by lia)];lia
  ·rw [if_neg e,if_neg (by lia)];rfl) l
theorem Bl {p:Pr} {k i j:Int}:cf (eS p) (k,i,j)=gz p.1 i*gz p.2.1 j*gz p.2.2 k:=by
 unfold eS;rw [rj];unfold nz;rw [jZ,jZ,jZ,pL,pL,pL]
noncomputable def kr (a b:List Int):List Int:=a.flatMap fun x=>b.map (x * ·)
theorem rl {x:Int} {a b:List Int}:kr (x::a) b=b.map (x * ·)++kr a b:=by simp [kr]
theorem bR {b:List Int}:∀ {a:List Int},(kr a b).length=a.length*b.length
 | [] => by simp [kr]
 | x::a=>by rw [rl,A1,bR,A0,HS,J2];lia
theorem ka {b:List Int} {B:Nat} (hb:b.length=B) (j : 1<=B):∀ {a:List Int} {i:Int},gz (kr a b) i=gz a (i / B)*gz b (i % B)
 | [],i=>by rw [show kr [] b=[] from rfl,eG,eG];simp
 | x::a,i=>by
   rw [rl,mw,pK,ka hb j,A0,hb,bF]
   by_cases h:i < B
   ·rw [if_pos h]
    by_cases h0:i < 0
    ·have:i / B < 0:=Int.ediv_neg_of_neg_of_pos h0 (by lia)
     rw [jX h0,if_neg (by lia),jX (by lia)];simp
    ·rw [Int.ediv_eq_zero_of_lt (by lia) h,if_pos rfl,Int.emod_eq_of_lt (by lia) h]
   ·rw [if_neg h];have e1:(i - B) / B=i / B - 1:=by rw [Int.sub_ediv_of_dvd _ (Int.dvd_refl _),Int.ediv_self (by lia)]
    have e2:(i - B) % B=i % B:=by rw [Int.sub_emod,Int.emod_self];simp
    have q:i / B≠0:=by
     have : 1<=i / B:=by rw [Int.le_ediv_iff_mul_le (by lia)];lia
     lia
    rw [e1,e2,if_neg q]
noncomputable def krP (p u:Pr):Pr:=(kr p.1 u.1,kr p.2.1 u.2.1,kr p.2.2 u.2.2)
noncomputable def aT (ps us:List Pr):List Pr:=ps.flatMap fun p=>us.map (krP p)
noncomputable def Tn (ps:List Pr) (k i j:Int):Int:=(ps.map fun p=>gz p.1 i*gz p.2.1 j*gz p.2.2 k).sum
theorem Bm {ps:List Pr} {k i j:Int}:cf (ba ps) (k,i,j)=Tn ps k i j:=by
 unfold ba Tn;rw [rf];congr 1;exact HK fun p _=>Bl
theorem dv {a b:List Pr} {k i j:Int}:Tn (a++b) k i j=Tn a k i j+Tn b k i j:=by simp [Tn]
theorem df {p:Pr} {a:List Pr} {k i j:Int}:Tn (p::a) k i j=gz p.1 i*gz p.2.1 j*gz p.2.2 k+Tn a k i j:=by simp [Tn]
theorem wc {L0 L1 L2:Nat} (h0 : 1<=L0) (h1 : 1<=L1) (h2 : 1<=L2) {p:Pr} {k i j:Int}:∀ {us:List Pr},(∀ u∈us,u.1.length=L0/\u.2.1.length=L1/\u.2.2.length=L2) ->
 Tn (us.map (krP p)) k i j=gz p.1 (i / L0)*gz p.2.1 (j / L1)*gz p.2.2 (k / L2)*Tn us (k % L2) (i % L0) (j % L1)
 | [],_=>by simp [Tn]
 | u::us,h=>by
   obtain ⟨e0,e1,e2⟩:=h u (by simp)
   rw [Hs,df,df,wc h0 h1 h2 fun v q=>h v (by simp [q]),Kf]
   congr 1;unfold krP;dsimp only;rw [ka e0 h0,ka e1 h1,ka e2 h2];generalize gz p.1 (i / L0)=a;generalize gz p.2.1 (j / L1)=b;generalize gz p.2.2 (k / L2)=c;generalize gz u.1 (i % L0)=d;generalize gz u.2.1 (j % L1)=e;generalize gz u.2.2 (k % L2)=f;simp only [Int.mul_assoc,Int.mul_comm,Int.mul_left_comm]
theorem zE {L0 L1 L2:Nat} (h0 : 1<=L0) (h1 : 1<=L1) (h2 : 1<=L2) {us:List Pr} (h:∀ u∈us,u.1.length=L0/\u.2.1.length=L1/\u.2.2.length=L2) {k i j:Int}:∀ {ps:List Pr},
 Tn (aT ps us) k i j=Tn ps (k / L2) (i / L0) (j / L1)*Tn us (k % L2) (i % L0) (j % L1)
 | [] => by simp [aT,Tn]
 | p::ps=>by
   rw [show aT (p::ps) us=us.map (krP p)++aT ps us by simp [aT],dv,zE h0 h1 h2 h,wc h0 h1 h2 h,df,L6]
theorem pM {L0 L1 L2:Nat} {k i j:Int}:∀ {us:List Pr},(∀ u∈us,u.1.length=L0/\u.2.1.length=L1/\u.2.2.length=L2)->Tn us k i j≠0->(0<=k/\k < L2)/\(0<=i/\i < L0)/\(0<=j/\j < L1)
 | [],_,h=>absurd (by simp [Tn]) h
 | u::us,q,h=>by
   obtain ⟨e0,e1,e2⟩:=q u (by simp)
   rw [df] at h
   by_cases z:gz u.1 i*gz u.2.1 j*gz u.2.2 k=0
   ·rw [z,Int.zero_add] at h;exact pM (fun v B=>q v (by simp [B])) h
   ·have a1:gz u.1 i≠0:=fun e=>z (by rw [e];simp)
    have a2:gz u.2.1 j≠0:=fun e=>z (by rw [e];simp)
    have F:gz u.2.2 k≠0:=fun e=>z (by rw [e];simp)
    have:=jY a1;have:=jY a2;have:=jY F;lia
theorem n6 {l:List Tm} (g:(l.map (·.1)).Nodup):l.Nodup:=by
 rw [Jf] at g ⊢;rw [Jd] at g;exact g.imp fun {a b} hab e=>hab (by rw [e])
theorem wd {a:List Tm} (hn:(a.map (·.1)).Nodup) {k:K3} (h:cf a k≠0):(k,cf a k)∈a:=by
 by_cases e:∃ r∈a,r.1=k
 ·obtain ⟨r,j,rfl⟩:=e;rw [fg hn j];exact j
 ·exact absurd (kQ fun r j z=>e ⟨r,j,z⟩) h
theorem Bn {a b:List Tm} (q:(a.map (·.1)).Nodup) (hb:(b.map (·.1)).Nodup) (za:∀ t∈a,t.2≠0) (zb:∀ t∈b,t.2≠0) (h:∀ k,cf a k=cf b k):a.Perm b:=by
 refine (NF (n6 q) (n6 hb)).mpr fun t=>⟨fun j => ?_,fun j => ?_⟩
 ·have e:=fg q j;have:=wd hb (k:=t.1) (by rw [<- h,e];exact za t j)
  rwa [<- h,e] at this
 ·have e:=fg hb j;have:=wd q (k:=t.1) (by rw [h,e];exact zb t j)
  rwa [h,e] at this
theorem yG {a b:List Tm} (hb:(b.map (·.1)).Nodup) (h:a.Perm b):eqD (a.map kcD) (b.map kcD)=true:=by
 unfold eqD;rw [tv];refine ⟨by simp [h.length_eq], ?_⟩
 rw [Le];intro kv j;obtain ⟨t,q,rfl⟩:=Hu.mp j;exact decide_eq_true (fX hb (h.mem_iff.mp q))
end
section
open PySem PySem.Spec PyProof.Rows L2.Srt
variable {T:List FD}
theorem we {n k:Nat} {F:Nat->Int} (h:k < n):bN n (fun i=>if k=i then F i else 0)=F k:=by
 induction n with
 | zero=>lia
 | succ n ih =>
   rw [dr]
   by_cases e:k=n
   ·subst e;rw [if_pos rfl,gE fun i hi=>if_neg (by lia)];lia
   ·rw [if_neg e,ih (by lia)];lia
end
section
open PySem PySem.Spec PyProof.Rows L2.Srt
theorem fh {a b m:Nat} (hb:b < m):(a*m+b) / m=a:=by
 rw [LV,Nat.mul_add_div (by lia),Nat.div_eq_of_lt hb,Nat.add_zero]
theorem mz {α:Type} {n p:Nat} {f:Nat -> α}:(B0 (n*p)).map f=(B0 n).flatMap fun i=>(B0 p).map fun j=>f (i*p+j):=by
 induction n with
 | zero=>simp
 | succ n ih =>
   rw [J2,List.range_add,Iz,ih,N4,Ko,Im];simp
end
section
open PySem PySem.Spec PyProof.Rows L2.Srt
variable {T:List FD}
structure TI (n m p:Nat) (X:List Tm) (L:List Tm):Prop where
 nd:(L.map (·.1)).Nodup
 sub:∀ t∈L,t∈X
 all:∀ t∈X,t.1∈L.map (·.1)
theorem mC {L:List Tm} {k a:K3} {c:Int} (h:a∈L.map (·.1)∨a=k):a∈(dB L k c).map (·.1):=by
 unfold dB
 split
 ·next j =>
  rw [Im];have e:L.map ((fun x:Tm=>x.1) ∘ fun p=>if p.1=k then (p.1,c) else p)=L.map (·.1):=HK fun p _=>by
   simp only [KQ];split <;> rfl
  rw [e]
  rcases h with h | rfl
  ·exact h
  ·obtain ⟨t,q,e⟩:=JW.mp j;rw [<- of_decide_eq_true e];exact HX q
 ·rw [Iz]
  rcases h with h | rfl
  ·exact IA _ h
  ·exact Hw _ (by simp)
theorem TI.put {n m p:Nat} {X L:List Tm} (h:TI n m p X L) (t:Tm):TI n m p (X++[t]) (dB L t.1 t.2) where
 nd:=tE h.nd
 sub:=fun u j=>by
  rcases yC j with z | z
  ·exact IA _ (h.sub u z)
  ·exact Hw _ (by rw [z];simp)
 all:=fun u j=>by
  rcases Hy.mp j with z | z
  ·exact mC (.inl (h.all u z))
  ·have e:u=t:=by simpa using z
   rw [e];exact mC (.inr rfl)
noncomputable def one (L:Nat) (k:Int):List Int:=(B0 L).map fun h=>if ((h:Nat):Int)=k then 1 else 0
theorem dg {L:Nat} {k:Int}:(one L k).length=L:=by simp [one]
theorem fi {L:Nat} {k i:Int} (h0 : 0<=k) (h1:k < L):gz (one L k) i=if i=k then 1 else 0:=by
 unfold gz one
 by_cases hi:i < 0
 ·rw [if_pos hi,if_neg (by lia)]
 ·rw [if_neg hi,Ip,HC]
  by_cases hl:i.toNat < L
  ·rw [Jh hl];simp only [KL,Option.getD_some]
   by_cases e:i=k
   ·rw [if_pos (by lia),if_pos e]
   ·rw [if_neg (by lia),if_neg e]
  ·rw [Jq (by simp;lia),if_neg (by lia)];rfl
noncomputable def iY (s:Stmt):FD:=⟨"_law_single",s,["_law_length", "_law_place"],2,
 (.cons (.ret (.blt .tuple (.cons (.comp [none,(some 1)] ["_law_here", "_law_place"] (.last (.rng1 (.var 0)) (.name 0) .nil (.blt .int (.cons (.cmp .eq (.var 0) (.var 1)) .nil)))) .nil)))
 .nil)⟩
theorem wf {f:Nat} {s:Stmt} (hf:T[f]? = some (iY s)) {n:Nat} (hn : 1<=n) {L:Nat} (F:L<=100000) {k:Int} {M:Mem} {Q:QD} (q:∀ M',Ge M M'->Q (.tup ((one L k).map .int)) M'):phi T n f [.int L, .int k] M Q:=by
 refine aF (by lia) hf rfl (ρ := [some _,some _]) rfl ?_
 unfold iY;walk_at "st";refine ⟨by lia,by lia, ?_⟩
 rw [HA];refine au (f:=fun i=>D.int (i:Nat)) (ys:=B0 L) (I:=fun l ρ M' acc=>(∃ o0, ρ = [o0,some (.int k)])/\M'=M/\acc=(l.map fun h=>if ((h:Nat):Int)=k then (1:Int) else 0).map .int) aA ⟨⟨_,rfl⟩,rfl,rfl⟩ (fun _ _ _ _ _=>trivial) ?_ ?_
 ·rintro l i r ρ M1 acc e ⟨⟨o0,rfl⟩,rfl,rfl⟩;refine ⟨_,rfl,fun N' j => ?_⟩;have z:=am e;rw [HD] at z;walk_at "wp";refine ⟨by rw [A0,A0,B2];lia,j _ _ _ ⟨⟨_,rfl⟩,rfl, ?_⟩⟩
  simp
 ·rintro ρ M1 acc ⟨⟨o0,rfl⟩,rfl,rfl⟩ p B;exact ⟨_,_,rfl,ag ad,q _ (Ge.new B)⟩
noncomputable def kR (x y:Str) (s:Stmt):FD:=⟨"_law_turned_about",s,[x],1,
 (.cons (.ret (.blt .tuple (.cons (.comp [none] [y] (.last (.seq (.var 0)) (.name 0) .nil (.neg (.var 0)))) .nil)))
 .nil)⟩
theorem yH {f:Nat} {x y:Str} {s:Stmt} (hf:T[f]? = some (kR x y s)) {n:Nat} (hn : 1<=n) {l:List Int} (F:l.length<=100000) {M:Mem} {Q:QD} (q:∀ M',Ge M M'->Q (.tup ((l.map (- ·)).map .int)) M'):phi T n f [.tup (l.map .int)] M Q:=by
 refine aF (by lia) hf rfl (ρ := [some _]) rfl ?_
 unfold kR;walk_at "st";refine au (f:=D.int) (ys:=l) (I:=fun l ρ M' acc=>(∃ o0, ρ = [o0])/\M'=M/\acc=(l.map (- ·)).map .int) rfl ⟨⟨_,rfl⟩,rfl,rfl⟩ (fun _ _ _ _ _=>by first | rfl | trivial) ?_ ?_
 ·rintro l' i r ρ M1 acc e ⟨⟨o0,rfl⟩,rfl,rfl⟩;refine ⟨_,rfl,fun N' j => ?_⟩;have z:=am e;walk_at "wp";refine ⟨by rw [A0,A0,B2];lia,j _ _ _ ⟨⟨_,rfl⟩,rfl, ?_⟩⟩
  simp
 ·rintro ρ M1 acc ⟨⟨o0,rfl⟩,rfl,rfl⟩ p B;exact ⟨_,_,rfl,ag ad,q _ (Ge.new B)⟩
noncomputable def plP (L0 L1 L2:Nat) (t:Tm):Pr:=(one L0 t.1.2.1,one L1 t.1.2.2,(one L2 t.1.1).map (· * t.2))
theorem rn {x:Int}:∀ {b:List Int} {i:Int},gz (b.map (· * x)) i=gz b i*x
 | [],i=>by rw [JP,eG];simp
 | y::b,i=>by rw [Hs,bF,bF,rn];split <;> rfl
theorem pO {L0 L1 L2:Nat} {k i j:Int}:∀ {L:List Tm},(∀ t∈L,(0<=t.1.1/\t.1.1 < L2)/\(0<=t.1.2.1/\t.1.2.1 < L0)/\(0<=t.1.2.2/\t.1.2.2 < L1))->Tn (L.map (plP L0 L1 L2)) k i j=cf L (k,i,j)
 | [],_=>rfl
 | t::L,h=>by
   obtain ⟨⟨z,a1⟩,⟨B,b1⟩,⟨F,G⟩⟩:=h t (by simp)
   rw [Hs,df,aZ,pO fun u J=>h u (by simp [J])]
   congr 1;unfold plP;dsimp only;rw [fi B b1,fi F G,rn,fi z a1]
   by_cases e:t.1=(k,i,j)
   ·rw [if_pos e,if_pos (by rw [e]),if_pos (by rw [e]),if_pos (by rw [e])];lia
   ·rw [if_neg e]
    by_cases e1:i=t.1.2.1
    ·by_cases e2:j=t.1.2.2
     ·by_cases q:k=t.1.1
      ·exact absurd (by rw [e1,e2,q]) e
      ·rw [if_neg q];simp
     ·rw [if_neg e2];simp
    ·rw [if_neg e1];simp
def rp (cap:Nat) (bf:BF):Prop := ∀ {d:Addr} {kvs:List (D×D)} (sh:Sh) {M:Mem} {Q:QD},M d=some (.dct true kvs)->iO sh=true->(∀ kv∈kvs,hs sh kv.1=true)->kvs.length<=cap->(∀ p ys,M p=none->ys.Perm (kvs.map (·.1))->kH ys->Q (.ref p) (ah M p (.lst ys)))->opF bf [.ref d] M Q
theorem EV {cap:Nat}:rp cap .sortk:=fun sh _ _ h1 h2 j _ q=>⟨_,true,_,sh,rfl,h1,h2,j,q⟩
noncomputable def gG (bf:BF) (y:Str) (s:Stmt) (fs:Nat):FD:=⟨"_law_plainly",s,["_law_lengths", "_law_sums_here"],2,
 (.cons (.ret (.comp [none,none,none,(some 0),(some 1)] ["_law_k", "_law_i", "_law_j", "_law_lengths", "_law_sums_here"] (.last (.seq (.blt bf (.cons (.var 1) .nil))) (.tup (.cons (.name 0) (.cons (.name 1) (.cons (.name 2) .nil)))) .nil (.tup (.cons (.call fs (.cons (.ix (.var 3) (.int 0)) (.cons (.var 1) .nil))) (.cons (.call fs (.cons (.ix (.var 3) (.int 1)) (.cons (.var 2) .nil))) (.cons (.blt .tuple (.cons (.comp [none,(some 4),(some 0),(some 1),(some 2)] [y, "_law_sums_here", "_law_k", "_law_i", "_law_j"] (.last (.seq (.call fs (.cons (.ix (.var 3) (.int 2)) (.cons (.var 0) .nil)))) (.name 0) .nil (.bin .mul (.var 0) (.ix (.var 1) (.tup (.cons (.var 2) (.cons (.var 3) (.cons (.var 4) .nil)))))))) .nil)) .nil)))))))
 .nil)⟩
def iZ (T:List FD) (n f:Nat):Prop := ∀ {L:Nat} {k:Int} {M:Mem} {Q:QD},L<=100000->(∀ M',Ge M M'->Q (.tup ((one L k).map .int)) M')->phi T n f [.int L, .int k] M Q
theorem tI {f fs:Nat} {y:Str} {s:Stmt} {cap:Nat} {bf:BF} (hS:rp cap bf) (hf:T[f]? = some (gG bf y s fs)) {n:Nat} (j:iZ T (n - 1) fs) (hn : 1<=n) {L0 L1 L2:Nat} (h0:L0<=1000) (h1:L1<=1000) (h2:L2<=1000) {L:List Tm} (B:(L.map (·.1)).Nodup) (hl:L.length<=1000000) (F:L.length<=cap) {d:Addr} {M:Mem} {Q:QD} (hd:M d=some (.dct true (L.map kcD)))
 (q:∀ (rs:List Tm) p M',rs.Perm L->Ge M M'->M p=none->M' p=some (.lst ((rs.map (plP L0 L1 L2)).map prD))->Q (.ref p) M'):phi T n f [.tup [.int L0, .int L1, .int L2], .ref d] M Q:=by
 refine aF (by lia) hf rfl (ρ := [some _,some _]) rfl ?_
 unfold gG;walk_at "st";refine hS (.tup [.int, .int, .int]) hd rfl (fun kv Z => ?_) (by rw [A0];exact F) fun ps ys EX z G => ?_
 ·obtain ⟨t,_,rfl⟩:=Hu.mp Z;rfl
 obtain ⟨rs,J,rfl,EZ⟩:=qk B z G;have g1:=Ge.new (o := .lst (rs.map fun t=>k3D t.1)) EX;have e1:=ad (M:=M) (a:=ps) (o := .lst (rs.map fun t=>k3D t.1));generalize ah M ps (.lst (rs.map fun t=>k3D t.1))=M1 at g1 e1 ⊢;have F1:rs.length<=1000000:=by rw [J.length_eq];exact hl
 refine ⟨_,ag e1, ?_⟩;refine au (f:=fun t:Tm=>k3D t.1) (ys:=rs) (I:=fun l ρ M' acc=>(∃ o0 o1 o2, ρ = [o0,o1,o2,some (.tup [.int L0, .int L1, .int L2]),some (.ref d)])/\Ge M1 M'/\acc=(l.map (plP L0 L1 L2)).map prD) rfl ⟨⟨_,_,_,rfl⟩,Ge.refl,rfl⟩ (fun _ _ _ _ h=>ag (h.2.1 _ _ e1)) ?_ ?_
 ·rintro l t r ρ M2 acc e ⟨⟨o0,o1,o2,rfl⟩,g2,rfl⟩;refine ⟨_,rfl,fun N' EY => ?_⟩;have F5:=am e;have ht:t∈L:=J.mem_iff.mp (by rw [e];simp)
  walk_at "wp";refine ⟨_,rfl,j (by lia) fun M3 g3=>⟨_,rfl,j (by lia) fun M4 g4=>⟨_,rfl,j (by lia) fun M5 Y=>⟨_,rfl, ?_⟩⟩⟩⟩
  have Y:=g2.trans (g3.trans (g4.trans Y));have d5:=Y _ _ (g1 _ _ hd);have ho:∀ x∈one L2 t.1.1,x=0∨x=1:=fun x hx=>by
   unfold one at hx;obtain ⟨h,_,rfl⟩:=Hu.mp hx
   split <;> simp
  refine au (f:=D.int) (ys:=one L2 t.1.1) (I:=fun l' ρ M' acc=>(∃ o0, ρ = [o0,some (.ref d),some (.int t.1.1),some (.int t.1.2.1),some (.int t.1.2.2)])/\M'=M5/\acc=(l'.map (· * t.2)).map .int) rfl ⟨⟨_,rfl⟩,rfl,rfl⟩ (fun _ _ _ _ _=>by first | rfl | trivial) ?_ ?_
  ·rintro l' x r' ρ M6 acc e' ⟨⟨o0,rfl⟩,rfl,rfl⟩;refine ⟨_,rfl,fun N'' O => ?_⟩;have U:=am e';rw [dg] at U;have hx:=ho x (by rw [e'];simp)
   walk_at "wp";refine ⟨by rw [B2];lia, ?_⟩
   rw [show D.tup [.int t.1.1, .int t.1.2.1, .int t.1.2.2]=k3D t.1 from rfl];refine Dj d5 (jW t.1) (fX B ht) ?_;walk_at "wp";refine ⟨aO (by lia),by rw [A0,A0,B2];lia,O _ _ _ ⟨⟨_,rfl⟩,rfl,by simp⟩⟩
  ·rintro ρ M6 acc ⟨⟨o0,rfl⟩,rfl,rfl⟩ p J;refine ⟨_,_,rfl,ag ad,by rw [B2];lia,by rw [A0,A0,B2];lia,EY _ _ _ ⟨⟨_,_,_,rfl⟩,Y.trans (Ge.new J), ?_⟩⟩
   simp [prD,plP]
 ·rintro ρ M2 acc ⟨⟨o0,o1,o2,rfl⟩,g2,rfl⟩ p2 hp2;have g3:=g1.trans g2;refine q rs p2 _ J (g3.trans (Ge.new hp2)) ?_ ad
  cases hz:M p2 with
  | none=>rfl
  | some o=>rw [g3 _ _ hz] at hp2;cases hp2
end
section
open PySem PySem.Spec PyProof.Rows L2.Srt
noncomputable def tm (p:Pr) (k i j:Int):Int:=gz p.1 i*gz p.2.1 j*gz p.2.2 k
theorem fY {p:Pr} {a:List Pr} {k i j:Int}:Tn (p::a) k i j=tm p k i j+Tn a k i j:=df
theorem wg {ps:List Pr} {n:Nat} {p:Pr} {k i j:Int}:Tn (ps.take n++p::ps.drop n) k i j=Tn ps k i j+tm p k i j:=by
 have e:Tn ps k i j=Tn (ps.take n) k i j+Tn (ps.drop n) k i j:=by rw [<- dv,IY]
 rw [dv,fY,e];lia
theorem wj {k i j:Int} {p':Pr}:∀ {ps:List Pr} {n:Nat} {p:Pr},ps[n]? = some p->Tn (ps.set n p') k i j=Tn ps k i j - tm p k i j+tm p' k i j
 | [],n,p,h=>by simp at h
 | a::ps,0,p,h=>by
   simp at h;subst h;rw [NB,fY,fY];lia
 | a::ps,n+1,p,h=>by
   rw [ND,fY,fY,wj (ps:=ps) (n:=n) (p:=p) (by simpa using h)];lia
theorem i8 {i:Int}:∀ {l:List Int},gz (l.map (- ·)) i = - gz l i:=by
 intro l;have:=pK (x := -1) (b:=l) (i:=i);rw [show l.map (- ·)=l.map (-1 * ·) from HK fun x _=>by lia,this];lia
theorem Ek {l r o:List Int} {k i j:Int}:tm (l.map (- ·),r,o.map (- ·)) k i j=tm (l,r,o) k i j:=by
 unfold tm;dsimp only;rw [i8,i8];simp [MR,Int.mul_neg]
theorem tm_lr {l r o:List Int} {k i j:Int}:tm (l.map (- ·),r.map (- ·),o) k i j=tm (l,r,o) k i j:=by
 unfold tm;dsimp only;rw [i8,i8];simp [MR,Int.mul_neg]
noncomputable def aP (a b:List Int):List Int:=K9 (· - ·) a b
theorem kS {i:Int}:∀ {a b:List Int},a.length=b.length->gz (aP a b) i+gz b i=gz a i:=by
 intro a
 induction a generalizing i with
 | nil=>intro b h;cases b with | nil=>rw [show aP [] []=[] from rfl,eG];rfl | cons y b=>simp at h
 | cons x a ih =>
   intro b h
   cases b with
   | nil=>simp at h
   | cons y b =>
     rw [show aP (x::a) (y::b)=(x - y)::aP a b from rfl,bF,bF,bF]
     by_cases e:i=0
     ·rw [if_pos e,if_pos e,if_pos e];lia
     ·rw [if_neg e,if_neg e,if_neg e];exact ih (by simpa using h)
theorem Bo {l r o m:List Int} {k i j:Int} (h:l.length=m.length):tm (aP l m,r,o) k i j+tm (m,r,o) k i j=tm (l,r,o) k i j:=by
 unfold tm;dsimp only;rw [<- L6, <- L6,kS h]
theorem Bp {l r o m:List Int} {k i j:Int} (h:r.length=m.length):tm (l,aP r m,o) k i j+tm (l,m,o) k i j=tm (l,r,o) k i j:=by
 unfold tm;dsimp only;rw [<- L6, <- Kf,kS h]
theorem Bq {l r o m:List Int} {k i j:Int} (h:o.length=m.length):tm (l,r,aP o m) k i j+tm (l,r,m) k i j=tm (l,r,o) k i j:=by
 unfold tm;dsimp only;rw [<- Kf,kS h]
end
section
open PySem PySem.Spec PyProof.Rows L2.Srt
variable {T:List FD}
noncomputable def mvl (l:List (Int×Nat)) (L:Nat):List Int:=(B0 L).map fun t=>(l.map fun q=>if q.2=t then q.1 else 0).sum
noncomputable def mv (xs:List Int) (ps:List Nat) (L:Nat):List Int:=mvl (xs.zip ps) L
theorem cF {l:List (Int×Nat)} {L:Nat}:(mvl l L).length=L:=by simp [mvl]
theorem rq {L:Nat}:mvl [] L=Ho L 0:=by
 unfold mvl;rw [List.eq_replicate_iff];exact ⟨by simp,fun x hx=>by obtain ⟨t,_,rfl⟩:=Hu.mp hx;rfl⟩
theorem i9 {l:List (Int×Nat)} {L t:Nat} (h:t < L):(mvl l L)[t]? = some ((l.map fun q=>if q.2=t then q.1 else 0).sum):=by
 unfold mvl;rw [HC,Jh h];rfl
theorem rA {l:List (Int×Nat)} {x:Int} {t L:Nat} (h:t < L):(mvl l L).set t ((l.map fun q=>if q.2=t then q.1 else 0).sum+x)=mvl (l++[(x,t)]) L:=by
 apply Kc;intro i;rw [Qk,cF]
 by_cases hi:i < L
 ·rw [i9 hi,i9 hi,Iz,OI]
  by_cases e:t=i
  ·subst e;simp [h]
  ·rw [if_neg e];simp [e]
 ·rw [Jq (by rw [cF];lia),Jq (by rw [cF];lia),if_neg (by lia)]
noncomputable def nsD (ps:List Nat):List D:=ps.map fun t=>D.int (t:Nat)
noncomputable def kT (s:Stmt):FD:=⟨"moved",s,["part", "places", "length", "row", "x", "at"],3,
 (.cons (.asg (.name 3) (.bin .mul (.lst (.cons (.int 0) .nil)) (.var 2)))
 (.cons (.for (.tup (.cons (.name 4) (.cons (.name 5) .nil))) (.zip (.var 0) (.var 1)) (.cons (.augI (.var 3) (.var 5) .add (.var 4))
 .nil))
 (.cons (.ret (.blt .tuple (.cons (.var 3) .nil)))
 .nil)))⟩
def rB (T:List FD) (n f:Nat):Prop := ∀ {xs:List Int} {ps:List Nat} {L:Nat} {pp:Addr} {M:Mem} {Q:QD},L<=100000->(∀ t∈ps,t < L)->M pp=some (.lst (nsD ps))->(∀ M',Ge M M'->Q (.tup ((mv xs ps L).map .int)) M')->phi T n f [.tup (xs.map .int), .ref pp, .int L] M Q
theorem wk:∀ {xs:List Int} {ps:List Nat},K9 fM (xs.map .int) (nsD ps)=(xs.zip ps).map fun q=>D.tup [.int q.1, .int (q.2:Nat)]
 | [],ps=>by simp [nsD]
 | x::xs,[] => by simp [nsD]
 | x::xs,t::ps=>by
   have:=wk (xs:=xs) (ps:=ps);unfold nsD at this ⊢;rw [Hs,Hs,List.zipWith_cons_cons,this];rfl
theorem yI {f:Nat} {s:Stmt} (hf:T[f]? = some (kT s)) {n:Nat} (hn : 1<=n):rB T n f:=by
 intro xs ps L pp M Q hL O ep q;refine aF (by lia) hf rfl (ρ := [some _,some _,some _,none,none,none]) rfl ?_
 unfold kT;walk_at "st";refine ⟨by rw [B2];lia,fun p1 U => ?_⟩
 have g1:=Ge.new (o := .lst [.int 0]) U;refine ⟨_,ad,by lia,by lia,by rw [B2];simp;lia,fun p2 B => ?_⟩
 have g2:=g1.trans (Ge.new (o := .lst (Ho (L:Int).toNat [D.int 0]).flatten) B);have G:M p2=none:=by
  cases hq:M p2 with
  | none=>rfl
  | some o=>rw [g1 _ _ hq] at B;cases B
 have e2:ah (ah M p1 (.lst [.int 0])) p2 (.lst (Ho (L:Int).toNat [D.int 0]).flatten) p2=some (.lst ((mvl [] L).map .int)):=by
  rw [ad,Dm,rq];simp
 generalize ah (ah M p1 (.lst [.int 0])) p2 (.lst (Ho (L:Int).toNat [D.int 0]).flatten)=M2 at g2 e2 ⊢;walk_at "st";refine ⟨_,ag (g2 _ _ ep), ?_⟩;rw [wk];refine aG (f:=fun q:Int×Nat=>D.tup [.int q.1, .int (q.2:Nat)]) (ys:=xs.zip ps) (I:=fun l ρ M' => ∃ Y Z, ρ = [some (.tup (xs.map .int)),some (.ref pp),some (.int L),some (.ref p2),Y,Z]/\Ge M M'/\M' p2=some (.lst ((mvl l L).map .int))) rfl ⟨_,_,rfl,g2,e2⟩ (fun _ _ _ ⟨_,_,_,g,_⟩=>by first | exact ag (g _ _ ep) | exact ⟨rfl,ag (g _ _ ep)⟩) ?_ ?_
 ·rintro l z r ρ M3 e ⟨Y,Z,rfl,g3,J⟩;refine ⟨_,rfl,fun F hF => ?_⟩;have hz:z.2 < L:=O z.2 (Lp (show (z.1,z.2)∈xs.zip ps by rw [e];simp)).2
  rw [cZ];walk_at "wp";refine ⟨p2,_,_, .int ((l.map fun q=>if q.2=z.2 then q.1 else 0).sum),rfl,rfl,J, ?_, ?_⟩
  ·refine dU ?_;rw [HC,i9 hz];rfl
  walk_at "wp";refine cB J (j:=z.2) ?_ ?_
  ·unfold ixN;rw [A0,cF,if_pos (by lia),if_pos (by lia)];simp
  refine hF _ _ ⟨_,_,rfl,g3.upd G, ?_⟩;rw [ad, <- rA hz,Ni]
 ·rintro ρ M3 ⟨Y,Z,rfl,g3,J⟩;dsimp only;walk_at "st";exact ⟨_,_,rfl,ag J,q _ g3⟩
noncomputable def mvP (P0 P1 P2:List Nat) (L0 L1 L2:Nat) (u:Pr):Pr:=(mv u.1 P0 L0,mv u.2.1 P1 L1,mv u.2.2 P2 L2)
noncomputable def yJ (s:Stmt) (fm:Nat):FD:=⟨"products_moved",s,["products", "places", "lengths"],3,
 (.cons (.ret (.comp [none,(some 1),(some 2)] ["product", "places", "lengths"] (.last (.seq (.var 0)) (.name 0) .nil (.blt .tuple (.cons (.comp [none,none,none] ["part", "spots", "length"] (.last (.zip3 (.var 0) (.var 1) (.var 2)) (.tup (.cons (.name 0) (.cons (.name 1) (.cons (.name 2) .nil)))) .nil (.call fm (.cons (.var 0) (.cons (.var 1) (.cons (.var 2) .nil)))))) .nil)))))
 .nil)⟩
theorem wm {f fm:Nat} {s:Stmt} (hf:T[f]? = some (yJ s fm)) {n:Nat} (L:rB T (n - 1) fm) (hn : 1<=n) {us:List Pr} (hl:us.length<=100000) {j z B:List Nat} {L0 L1 L2:Nat} (h0:L0<=100000) (h1:L1<=100000) (h2:L2<=100000) (b0:∀ t∈j,t < L0) (b1:∀ t∈z,t < L1) (b2:∀ t∈B,t < L2) {pu pl G J p2:Addr} {M:Mem} {Q:QD} (eu:M pu=some (.lst (us.map prD))) (el:M pl=some (.lst [.ref G, .ref J, .ref p2])) (e0:M G=some (.lst (nsD j))) (e1:M J=some (.lst (nsD z))) (e2:M p2=some (.lst (nsD B)))
 (q:∀ p M',Ge M M'->M p=none->M' p=some (.lst ((us.map (mvP j z B L0 L1 L2)).map prD))->Q (.ref p) M'):phi T n f [.ref pu, .ref pl, .tup [.int L0, .int L1, .int L2]] M Q:=by
 refine aF (by lia) hf rfl (ρ := [some _,some _,some _]) rfl ?_
 unfold yJ;walk_at "st";refine ⟨_,ag eu, ?_⟩;refine au (f:=prD) (ys:=us) (I:=fun l ρ M' acc=>(∃ o0, ρ = [o0,some (.ref pl),some (.tup [.int L0, .int L1, .int L2])])/\Ge M M'/\acc=(l.map (mvP j z B L0 L1 L2)).map prD) rfl ⟨⟨_,rfl⟩,Ge.refl,rfl⟩ (fun _ _ _ _ h=>ag (h.2.1 _ _ eu)) ?_ ?_
 ·rintro l u r ρ M1 acc e ⟨⟨o0,rfl⟩,g1,rfl⟩;refine ⟨_,rfl,fun N' O => ?_⟩;have EX:=am e;have el:=g1 _ _ el;walk_at "wp";refine ⟨_,rfl,rfl,_,ag el, ?_⟩;refine au (f:=fun w:List Int×(Addr×List Nat)×Nat=>D.tup [.tup (w.1.map .int), .ref w.2.1.1, .int (w.2.2:Nat)]) (ys := [(u.1,(G,j),L0),(u.2.1,(J,z),L1),(u.2.2,(p2,B),L2)]) (I:=fun l' ρ M' acc=>(∃ o0 U Y, ρ = [o0,U,Y])/\Ge M M'/\acc=l'.map fun w=>D.tup ((mv w.1 w.2.1.2 w.2.2).map .int)) rfl ⟨⟨_,_,_,rfl⟩,g1,rfl⟩ (fun _ _ _ _ h=>by first | exact ag (h.2.1 _ _ (by assumption)) | trivial) ?_ ?_
  ·rintro l' w r' ρ M2 acc e' ⟨⟨o0,U,Y,rfl⟩,g2,rfl⟩;refine ⟨_,rfl,fun N'' F => ?_⟩;have Z:l'.length < 3:=am e';have hw:w.2.2<=100000/\(∀ t∈w.2.1.2,t < w.2.2)/\M2 w.2.1.1=some (.lst (nsD w.2.1.2)):=by
    have hm:w∈[(u.1,(G,j),L0),(u.2.1,(J,z),L1),(u.2.2,(p2,B),L2)]:=by rw [e'];simp
    simp only [Hg,HE,or_false] at hm
    rcases hm with rfl | rfl | rfl
    ·exact ⟨h0,b0,g2 _ _ e0⟩
    ·exact ⟨h1,b1,g2 _ _ e1⟩
    ·exact ⟨h2,b2,g2 _ _ e2⟩
   walk_at "wp";refine L hw.1 hw.2.1 hw.2.2 fun M3 g3 => ?_;exact ⟨by rw [A0,B2];lia,F _ _ _ ⟨⟨_,_,_,rfl⟩,g2.trans g3,by simp⟩⟩
  ·rintro ρ M2 acc ⟨⟨o0,U,Y,rfl⟩,g2,rfl⟩ pt hpt;refine ⟨_,_,rfl,ag ad, ?_⟩;exact ⟨by rw [A0,A0,B2];lia,O _ _ _ ⟨⟨_,rfl⟩,g2.trans (Ge.new hpt),by simp [prD,mvP]⟩⟩
 ·rintro ρ M1 acc ⟨⟨o0,rfl⟩,g1,rfl⟩ p hp;refine q p _ (g1.trans (Ge.new hp)) ?_ ad
  cases hq:M p with
  | none=>rfl
  | some o=>rw [g1 _ _ hq] at hp;cases hp
end
section
open PySem PySem.Spec PyProof.Rows L2.Srt
variable {T:List FD}
noncomputable def gH (s:Stmt) (ft fa:Nat):FD:=⟨"_law_dressed",s,["_law_box_here", "_law_lengths", "_law_products", "_law_most", "_law_found", "_law_l", "_law_r", "_law_o", "_law_way", "_law_turn", "_law_at", "_law_side", "_law_more", "_law_less", "_law_extra"],4,
 (.cons (.asg (.name 4) (.lst .nil))
 (.cons (.for (.tup (.cons (.name 5) (.cons (.name 6) (.cons (.name 7) .nil)))) (.seq (.var 2)) (.cons (.asg (.name 8) (.call ft (.cons (.var 0) (.cons (.int 6) .nil))))
 (.cons (.ite (.cmp .eq (.var 8) (.int 0)) (.cons (.par 5 7 (.call fa (.cons (.var 5) .nil)) (.call fa (.cons (.var 7) .nil)))
 .nil) .nil)
 (.cons (.ite (.cmp .eq (.var 8) (.int 1)) (.cons (.par 5 6 (.call fa (.cons (.var 5) .nil)) (.call fa (.cons (.var 6) .nil)))
 .nil) .nil)
 (.cons (.drop (.ins (.var 4) (.call ft (.cons (.var 0) (.cons (.bin .add (.blt .len (.cons (.var 4) .nil)) (.int 1)) .nil))) (.tup (.cons (.var 5) (.cons (.var 6) (.cons (.var 7) .nil))))))
 .nil)))))
 (.cons (.for (.name 9) (.rng1 (.call ft (.cons (.var 0) (.cons (.bin .add (.var 3) (.int 1)) .nil)))) (.cons (.asg (.name 10) (.call ft (.cons (.var 0) (.cons (.blt .len (.cons (.var 4) .nil)) .nil))))
 (.cons (.asg (.tup (.cons (.name 5) (.cons (.name 6) (.cons (.name 7) .nil)))) (.ix (.var 4) (.var 10)))
 (.cons (.asg (.name 11) (.call ft (.cons (.var 0) (.cons (.int 3) .nil))))
 (.cons (.asg (.name 12) (.blt .tuple (.cons (.comp [none,(some 0)] ["_law_number", "_law_box_here"] (.last (.seq (.ix (.ix (.var 4) (.var 10)) (.var 11))) (.name 0) .nil (.bin .sub (.call ft (.cons (.var 1) (.cons (.int 5) .nil))) (.int 2)))) .nil)))
 (.cons (.asg (.name 13) (.blt .tuple (.cons (.comp [none,none] ["_law_number", "_law_other"] (.last (.zip (.ix (.ix (.var 4) (.var 10)) (.var 11)) (.var 12)) (.tup (.cons (.name 0) (.cons (.name 1) .nil))) .nil (.bin .sub (.var 0) (.var 1)))) .nil)))
 (.cons (.put (.var 4) (.var 10) (.bin .add (.bin .add (.sl (.ix (.var 4) (.var 10)) .none (.some (.var 11))) (.tup (.cons (.var 13) .nil))) (.sl (.ix (.var 4) (.var 10)) (.some (.bin .add (.var 11) (.int 1))) .none)))
 (.cons (.asg (.name 14) (.bin .add (.bin .add (.sl (.tup (.cons (.var 5) (.cons (.var 6) (.cons (.var 7) .nil)))) .none (.some (.var 11))) (.tup (.cons (.var 12) .nil))) (.sl (.tup (.cons (.var 5) (.cons (.var 6) (.cons (.var 7) .nil)))) (.some (.bin .add (.var 11) (.int 1))) .none)))
 (.cons (.drop (.ins (.var 4) (.call ft (.cons (.var 0) (.cons (.bin .add (.blt .len (.cons (.var 4) .nil)) (.int 1)) .nil))) (.var 14)))
 .nil)))))))))
 (.cons (.ret (.bin .add (.blt .tuple (.cons (.var 1) .nil)) (.tup (.cons (.var 4) .nil))))
 .nil))))⟩
def rC (T:List FD) (n f:Nat):Prop := ∀ {l:List Int} {M:Mem} {Q:QD},l.length<=100000->(∀ M',Ge M M'->Q (.tup ((l.map (- ·)).map .int)) M')->phi T n f [.tup (l.map .int)] M Q
def Within (B:Int) (l:List Int):Prop := ∀ x∈l, -B<=x/\x<=B
structure Dr (B:Int) (L0 L1 L2:Nat) (p:Pr):Prop where
 l0:p.1.length=L0
 l1:p.2.1.length=L1
 l2:p.2.2.length=L2
 e0:Within B p.1
 e1:Within B p.2.1
 e2:Within B p.2.2
theorem Within.neg {B:Int} {l:List Int} (h:Within B l):Within B (l.map (- ·)):=fun x hx=>by
 obtain ⟨y,j,rfl⟩:=Hu.mp hx;have:=h y j;lia
theorem Within.mono {B B':Int} (hb:B<=B') {l:List Int} (h:Within B l):Within B' l:=fun x hx=>by
 have:=h x hx;lia
theorem Dr.mono {B B':Int} (hb:B<=B') {L0 L1 L2:Nat} {p:Pr} (h:Dr B L0 L1 L2 p):Dr B' L0 L1 L2 p:=⟨h.l0,h.l1,h.l2,h.e0.mono hb,h.e1.mono hb,h.e2.mono hb⟩
theorem yK {a b:List Int} (h:a.length=b.length):(aP a b).length=a.length:=by simp [aP,h]
theorem Within.less {B:Int}:∀ {a b:List Int},Within B a->Within 2 b->Within (B+2) (aP a b)
 | [],_,_,_=>fun x hx=>by simp [aP] at hx
 | _::_,[],_,_=>fun x hx=>by simp [aP] at hx
 | x::a,y::b,q,hb=>fun z j=>by
   rw [show aP (x::a) (y::b)=(x - y)::aP a b from rfl] at j
   rcases Hg.mp j with rfl | j
   ·have:=q x (by simp);have:=hb y (by simp);lia
   ·exact Within.less (fun w hw=>q w (by simp [hw])) (fun w hw=>hb w (by simp [hw])) z j
noncomputable def pAt (p:Pr):Nat->List Int | 0=>p.1 | 1=>p.2.1 | _=>p.2.2
noncomputable def cC (p:Pr) (m:List Int):Nat->Pr | 0=>(m,p.2.1,p.2.2) | 1=>(p.1,m,p.2.2) | _=>(p.1,p.2.1,m)
theorem Dq {p:Pr} {m:List Int} {s:Nat} {k i j:Int} (h:(pAt p s).length=m.length):tm (cC p (aP (pAt p s) m) s) k i j+tm (cC p m s) k i j=tm p k i j:=by
 match s with
 | 0=>exact Bo h
 | 1=>exact Bp h
 | _+2=>exact Bq h
theorem Dr.set {B:Int} {L0 L1 L2:Nat} {p:Pr} (h:Dr B L0 L1 L2 p) {m:List Int} {s:Nat} (j:m.length=(pAt p s).length) (hw:Within B m):Dr B L0 L1 L2 (cC p m s):=by
 match s with
 | 0=>exact ⟨j.trans h.l0,h.l1,h.l2,hw,h.e1,h.e2⟩
 | 1=>exact ⟨h.l0,j.trans h.l1,h.l2,h.e0,hw,h.e2⟩
 | _+2=>exact ⟨h.l0,h.l1,j.trans h.l2,h.e0,h.e1,hw⟩
theorem Dr.at {B:Int} {L0 L1 L2:Nat} {p:Pr} (h:Dr B L0 L1 L2 p) {s:Nat}:Within B (pAt p s):=by
 match s with
 | 0=>exact h.e0
 | 1=>exact h.e1
 | _+2=>exact h.e2
theorem Br {ft n:Nat} (B:jV T n ft) {b:Addr} {M:Mem} {N:NC} (hb:Box b M) {l:List Int} (j:l.length<=1000)
 (q:∀ (ns:List Int) ρ M',ns.length=l.length->Within 2 ns->Bx b M M'->N ρ M' (ns.map .int)) :
 bK (aQ 0) (ci (wOp ky (wAr (phi T n ft) (ax (bu 1) (ax (wC (.int 5)) bv))) (wC (.int 2)))) (fun M=>ar M (.tup (l.map .int))=some (l.map .int)) N (l.map .int) [none,some (.ref b)] M []:=by
 refine au (f:=D.int) (ys:=l) (I:=fun l ρ M' acc => ∃ ns:List Int,(∃ o, ρ = [o,some (.ref b)])/\acc=ns.map .int/\ns.length=l.length/\Within 2 ns/\Bx b M M') rfl ⟨[],⟨_,rfl⟩,rfl,rfl,fun _ h=>by simp at h,Bx.refl hb⟩ (fun _ _ _ _ _=>rfl) ?_ ?_
 ·rintro l i r ρ M1 acc e ⟨ns,⟨o,rfl⟩,rfl,j,F,z⟩;refine ⟨_,rfl,fun N' G => ?_⟩;have J:=am e;walk_at "wp";refine B z.box (by lia) (by lia) fun v M2 v0 v1 L => ?_
  walk_at "wp";refine ⟨by rw [A0,B2];lia,G _ _ _ ⟨ns++[v - 2],⟨_,rfl⟩,by simp,by simp [j],fun y O => ?_,z.trans L⟩⟩
  rcases Hy.mp O with h | h
  ·exact F y h
  ·simp at h;subst h;lia
 ·rintro ρ M1 acc ⟨ns,⟨o,rfl⟩,rfl,j,F,z⟩;exact q ns _ M1 j F z
theorem Bs {M:Mem} {N:NC} {a b:List Int} (J:a.length<=1000) {chk:Mem->Prop} (G:chk M)
 (q:∀ ρ,N ρ M ((aP a b).map .int)) :
 bK (kD (aX (aQ 0) (aX (aQ 1) dz))) (ci (wOp ky (bu 0) (bu 1))) chk N (K9 fM (a.map .int) (b.map .int)) [none,none] M []:=by
 have ez:K9 fM (a.map D.int) (b.map D.int)=(a.zip b).map fun z=>D.tup [.int z.1, .int z.2]:=by
  rw [List.zipWith_map,List.zip,QI];rfl
 refine au (f:=fun z:Int×Int=>D.tup [.int z.1, .int z.2]) (ys:=a.zip b) (I:=fun l ρ M' acc=>(∃ o0 j, ρ = [o0,j])/\M'=M/\acc=(l.map fun z=>z.1 - z.2).map .int) ez ⟨⟨_,_,rfl⟩,rfl,rfl⟩ (fun _ _ _ _ h=>by rw [h.2.1];exact G) ?_ ?_
 ·rintro l z r ρ M1 acc e ⟨⟨o0,j,rfl⟩,rfl,rfl⟩;refine ⟨_,rfl,fun N' B => ?_⟩;have F:=am e;rw [OG] at F;walk_at "wp";exact ⟨by rw [A0,A0,B2];lia,B _ _ _ ⟨⟨_,_,rfl⟩,rfl,by simp⟩⟩
 ·rintro ρ M1 acc ⟨⟨o0,j,rfl⟩,rfl,rfl⟩;have:(a.zip b).map (fun z=>z.1 - z.2)=aP a b:=by rw [List.zip,QI];rfl
  rw [this];exact q _
theorem wn {p:Pr} {s:Nat} (h:s < 3):atI [D.tup (p.1.map .int), .tup (p.2.1.map .int), .tup (p.2.2.map .int)] (s:Nat)=some (.tup ((pAt p s).map .int)):=by
 match s,h with
 | 0,_=>rfl
 | 1,_=>rfl
 | 2,_=>rfl
noncomputable def pts (p:Pr):List D := [.tup (p.1.map .int), .tup (p.2.1.map .int), .tup (p.2.2.map .int)]
theorem rD {p:Pr} {s:Nat} (h:s < 3) {M:Mem} {Q:QD} (q:Q (.tup ((pts p).take s)) M):ee (prD p) none (some ((s:Nat):Int)) M Q:=by
 match s,h with
 | 0,_=>exact q
 | 1,_=>exact q
 | 2,_=>exact q
theorem rE {p:Pr} {s:Nat} (h:s < 3) {M:Mem} {Q:QD} (q:Q (.tup ((pts p).drop (s+1))) M):ee (prD p) (some (((s:Nat):Int)+1)) none M Q:=by
 match s,h with
 | 0,_=>exact q
 | 1,_=>exact q
 | 2,_=>exact q
theorem rF {p:Pr} {m:List Int} {s:Nat} (h:s < 3):D.tup ((pts p).take s++[.tup (m.map .int)]++(pts p).drop (s+1))=prD (cC p m s):=by
 match s,h with
 | 0,_=>rfl
 | 1,_=>rfl
 | 2,_=>rfl
theorem ic {p:Pr}:(pts p).length=3:=rfl
theorem tJ {f ft fa:Nat} {s:Stmt} (hf:T[f]? = some (gH s ft fa)) {n:Nat} (Y:jV T (n - 1) ft) (F1:rC T (n - 1) fa) (hn : 1<=n) {b:Addr} {L0 L1 L2 most:Nat} {B:Int} (hB : 1<=B/\B<=100) (h0:L0<=100) (h1:L1<=100) (h2:L2<=100) (hm:most<=20) {ps:List Pr} (Fl:∀ p∈ps,Dr B L0 L1 L2 p) (Ff:ps≠[]) (hl:ps.length<=10000) {y0 y1 y2:D} {pp:Addr} {M:Mem} {Q:QD} (hb:Box b M) (Fg:pp≠b) (ep:M pp=some (.lst (ps.map prD)))
 (q:∀ (qs:List Pr) pf M',(∀ p∈qs,Dr (B+2*most) L0 L1 L2 p)->qs.length<=ps.length+most->qs≠[]->(∀ k i j,Tn qs k i j=Tn ps k i j)->Bx b M M'->M pf=none->pf≠b->M' pf=some (.lst (qs.map prD))->Q (.tup [y0,y1,y2, .ref pf]) M') :
 phi T n f [.ref b, .tup [y0,y1,y2], .ref pp, .int most] M Q:=by
 refine aF (by lia) hf rfl (ρ := [some _,some _,some _,some _,none,none,none,none,none,none,none,none,none,none,none]) rfl ?_
 unfold gH;walk_at "st";refine ⟨by rw [B2];lia,fun pf Z => ?_⟩
 have G:pf≠b:=fun w=>by obtain ⟨_,_,_,e⟩:=hb;rw [<- w,Z] at e;cases e
 have x1:=Bx.of hb (Ge.new (o := .lst []) Z);have e1:=ad (M:=M) (a:=pf) (o := .lst []);generalize ah M pf (.lst [])=M1 at x1 e1 ⊢;walk_at "st";refine ⟨_,ag (x1.keep _ _ Fg ep), ?_⟩;refine aG (f:=prD) (ys:=ps) (I:=fun l ρ M' => ∃ qs o5 o6 o7 o8, ρ = [some (.ref b),some (.tup [y0,y1,y2]),some (.ref pp),some (.int most),some (.ref pf),o5,o6,o7,o8,none,none,none,none,none,none]/\Bx b M M'/\M' pf=some (.lst (qs.map prD))/\qs.length=l.length/\(∀ p∈qs,Dr B L0 L1 L2 p) /\ ∀ k i j,Tn qs k i j=Tn l k i j) rfl ⟨[],_,_,_,_,rfl,x1,e1,rfl,fun _ h=>by simp at h,fun _ _ _=>rfl⟩ (fun _ _ _ ⟨_,_,_,_,_,_,h,_⟩=>ag (h.keep _ _ Fg ep)) ?_ ?_
 ·rintro l p r ρ M2 e ⟨qs,o5,o6,o7,o8,rfl,x2,e2,EX,L,hT⟩;refine ⟨_,rfl,fun F hF => ?_⟩;have U:=Fl p (by rw [e];simp)
  have Fh:=am e;walk_at "st";refine Y x2.box (by decide) (by decide) fun v M3 v0 v1 x3 => ?_
  have e3:=x3.keep pf _ G e2;have x3:=x2.trans x3;clear e2 x2;refine de (fun ρ M' => ∃ l' r' o', ρ = [some (.ref b),some (.tup [y0,y1,y2]),some (.ref pp),some (.int most),some (.ref pf),some (.tup (l'.map .int)),some (.tup (r'.map .int)),some (.tup (o'.map .int)),some (.int v),none,none,none,none,none,none]/\Bx b M M'/\M' pf=some (.lst (qs.map prD))/\Dr B L0 L1 L2 (l',r',o') /\ ∀ k i j,tm (l',r',o') k i j=tm p k i j) (fun R hR => ?_) ?_
  ·walk_at "wp"
   by_cases hv:v=0
   ·rw [if_pos (by simp [hv])]
    walk_at "st";refine F1 (by have:=U.l0;lia) fun M4 g4=>F1 (by have:=U.l2;lia) fun M5 g5=>hR _ _ ⟨_,_,_,rfl,x3.ge (g4.trans g5),(g4.trans g5) _ _ e3,⟨by rw [A0];exact U.l0,U.l1,by rw [A0];exact U.l2,U.e0.neg,U.e1,U.e2.neg⟩,fun k i j=>Ek⟩
   ·rw [if_neg (by simp [hv])]
    exact hR _ _ ⟨_,_,_,rfl,x3,e3,U,fun _ _ _=>rfl⟩
  rintro ρ M4 ⟨l',r',o',rfl,x4,e4,J,ht⟩;refine de (fun ρ M' => ∃ l' r' o', ρ = [some (.ref b),some (.tup [y0,y1,y2]),some (.ref pp),some (.int most),some (.ref pf),some (.tup (l'.map .int)),some (.tup (r'.map .int)),some (.tup (o'.map .int)),some (.int v),none,none,none,none,none,none]/\Bx b M M'/\M' pf=some (.lst (qs.map prD))/\Dr B L0 L1 L2 (l',r',o') /\ ∀ k i j,tm (l',r',o') k i j=tm p k i j) (fun R hR => ?_) ?_
  ·walk_at "wp"
   by_cases hv:v=1
   ·rw [if_pos (by simp [hv])]
    walk_at "st";refine F1 (by have:=J.l0;dsimp only at this;lia) fun M5 g5=>F1 (by have:=J.l1;dsimp only at this;lia) fun M6 g6=>hR _ _ ⟨_,_,_,rfl,x4.ge (g5.trans g6),(g5.trans g6) _ _ e4,⟨by rw [A0];exact J.l0,by rw [A0];exact J.l1,J.l2,J.e0.neg,J.e1.neg,J.e2⟩,fun k i j=>tm_lr.trans (ht k i j)⟩
   ·rw [if_neg (by simp [hv])]
    exact hR _ _ ⟨_,_,_,rfl,x4,e4,J,ht⟩
  clear x3 e3 x4 e4 J ht;rintro ρ M5 ⟨l',r',o',rfl,x5,e5,J,ht⟩;walk_at "st";refine ⟨⟨_,e5⟩,kL e5 ?_⟩;walk_at "wp";rw [A0];refine Y x5.box (by lia) (by lia) fun w M6 w0 w1 x6 => ?_
  have e6:=x6.keep pf _ G e5;have x6:=x5.trans x6;refine ⟨by rw [B2];lia, ?_⟩
  refine ⟨_,_,_,_,rfl,rfl,e6,w0,by rw [A0];lia,by rw [A0,B2];lia, ?_⟩
  refine hF _ _ ⟨qs.take w.toNat++(l',r',o')::qs.drop w.toNat,_,_,_,_,rfl,x6.upd Z G, ?_, ?_, ?_, ?_⟩
  ·rw [ad,Iz,Hs,List.map_take,List.map_drop];rfl
  ·rw [A1,HS,Hz,J8,A1,HQ];lia
  ·intro y hy
   rcases Hy.mp hy with h | h
   ·exact L y (Kb h)
   ·rcases Hg.mp h with rfl | h
    ·exact J
    ·exact L y (Ka h)
  ·intro k i j;rw [wg,hT,ht,dv,fY];simp [Tn]
 ·rintro ρ M2 ⟨qs,o5,o6,o7,o8,rfl,x2,e2,EX,L,hT⟩;dsimp only;walk_at "st";refine Y x2.box (by lia) (by lia) fun v M3 v0 v1 x3 => ?_
  have e3:=x3.keep pf _ G e2;have x3:=x2.trans x3;clear e1 x1 e2 x2;refine ⟨_,rfl,by lia,by lia, ?_⟩
  refine aG (f:=fun i=>D.int (i:Nat)) (ys:=B0 v.toNat) (I:=fun l ρ M' => ∃ qs o5 o6 o7 o8 o9 F7 F8 F9 Fa Fb, ρ = [some (.ref b),some (.tup [y0,y1,y2]),some (.ref pp),some (.int most),some (.ref pf),o5,o6,o7,o8,o9,F7,F8,F9,Fa,Fb]/\Bx b M M'/\M' pf=some (.lst (qs.map prD))/\qs.length=ps.length+l.length/\(∀ p∈qs,Dr (B+2*l.length) L0 L1 L2 p) /\ ∀ k i j,Tn qs k i j=Tn ps k i j) aA ⟨qs,_,_,_,_,_,_,_,_,_,_,rfl,x3,e3,EX,fun p U=>(L p U).mono (by simp),hT⟩ (fun _ _ _ _=>trivial) ?_ ?_
  ·rintro l t r ρ M4 e ⟨qs,o5,o6,o7,o8,o9,F7,F8,F9,Fa,Fb,rfl,x4,e4,EX,L,hT⟩;refine ⟨_,rfl,fun F hF => ?_⟩;have Fh:=am e;rw [HD] at Fh;have Fq : 1<=ps.length:=by
    cases ps with
    | nil=>exact absurd rfl Ff
    | cons _ _=>simp
   walk_at "st";refine kL e4 ?_;rw [A0];refine Y x4.box (by lia) (by lia) fun a M5 a0 a1 x5 => ?_
   have e5:=x5.keep pf _ G e4;have x5:=x4.trans x5;clear e4 x4;obtain ⟨a,rfl⟩:∃ k:Nat,a=k:=⟨a.toNat,by lia⟩
   obtain ⟨p,U⟩:∃ p,qs[a]? = some p:=⟨_,A2 (by lia)⟩
   have Fm:=HN U;have hd:=L p Fm;have EY:atI (qs.map prD) ((a:Nat):Int)=some (prD p):=dU (by rw [HC,U];rfl)
   walk_at "st";refine bo e5 EY ?_;refine ⟨_,rfl, ?_⟩;walk_at "st";refine Y x5.box (by decide) (by decide) fun c M6 c0 c1 x6 => ?_
   have e6:=x6.keep pf _ G e5;have x6:=x5.trans x6;clear e5 x5;obtain ⟨c,rfl⟩:∃ k:Nat,c=k:=⟨c.toNat,by lia⟩
   have O:c < 3:=by lia
   have Fi:(pAt p c).length<=1000:=by
    have:=hd.l0;have:=hd.l1;have:=hd.l2
    match c,O with
    | 0,_=>show p.1.length<=_;lia
    | 1,_=>show p.2.1.length<=_;lia
    | 2,_=>show p.2.2.length<=_;lia
   walk_at "st";refine bo e6 EY ?_;refine ⟨_,_,rfl,wn O,_,rfl, ?_⟩;refine Br Y x6.box Fi fun m ρ M7 Fc Fj x7 p7 hp7 => ?_;have e7:=x7.keep pf _ G e6;have x7:=x6.trans x7;refine ⟨_,_,rfl,ag ad, ?_⟩;have g8:=Ge.new (o := .lst (m.map .int)) hp7;have e8:=g8 _ _ e7;have x8:=x7.ge g8;generalize ah M7 p7 (.lst (m.map .int))=M8 at g8 e8 x8 ⊢;clear e6 x6 e7 x7 g8 hp7;walk_at "st";refine bo e8 EY ?_;refine ⟨_,_,rfl,wn O,_,rfl, ?_⟩;refine Bs Fi rfl fun ρ p9 hp9 => ?_;refine ⟨_,_,rfl,ag ad, ?_⟩;have g9:=Ge.new (o := .lst ((aP (pAt p c) m).map .int)) hp9;have e9:=g9 _ _ e8;have x9:=x8.ge g9;generalize ah M8 p9 (.lst ((aP (pAt p c) m).map .int))=M9 at g9 e9 x9 ⊢;clear e8 x8 g9 hp9;walk_at "st";refine bo e9 EY ?_;refine rD O ⟨by rw [B2];lia, .inr trivial,by rw [B2,Hz,ic,HQ];lia, ?_⟩
   refine bo e9 EY ?_;refine rE O ⟨.inr trivial,by rw [B2,A1,Hz,J8,ic,HQ];lia, ?_⟩
   rw [rF O];refine cB e9 (j:=a) (by rw [A0];unfold ixN;rw [if_pos (by lia),if_pos (by lia),HA]) ?_
   have Fd:Bx b M (ah M9 pf (.lst ((qs.map prD).set a (prD (cC p (aP (pAt p c) m) c))))):=x9.upd Z G;have EZ:ah M9 pf (.lst ((qs.map prD).set a (prD (cC p (aP (pAt p c) m) c)))) pf=some (.lst ((qs.set a (cC p (aP (pAt p c) m) c)).map prD)):=by rw [ad,Ni]
   generalize ah M9 pf (.lst ((qs.map prD).set a (prD (cC p (aP (pAt p c) m) c))))=M10 at Fd EZ ⊢;clear e9 x9;have Fk:∀ k i j,Tn (qs.set a (cC p (aP (pAt p c) m) c)) k i j+tm (cC p m c) k i j=Tn ps k i j:=fun k i j=>by
    have h1:=Dq (p:=p) (m:=m) (s:=c) (k:=k) (i:=i) (j:=j) Fc.symm;rw [wj U,hT, <- h1];lia
   have Fe:∀ y∈qs.set a (cC p (aP (pAt p c) m) c),Dr (B+2*(l++[t]).length) L0 L1 L2 y:=fun y hy=>by
    have F5:B+2*l.length<=B+2*(l++[t]).length:=by rw [A1,HQ];lia
    rcases List.mem_or_eq_of_mem_set hy with h | h
    ·exact (L y h).mono F5
    ·rw [h];refine (hd.mono F5).set (yK Fc.symm) ?_;have:=(hd.at (s:=c)).less Fj;exact this.mono (by rw [A1,HQ];lia)
   have Fn:Dr (B+2*(l++[t]).length) L0 L1 L2 (cC p m c):=by
    have F5:B+2*l.length<=B+2*(l++[t]).length:=by rw [A1,HQ];lia
    exact (hd.mono F5).set Fc (Fj.mono (by rw [A1,HQ];lia))
   have Fo:(qs.set a (cC p (aP (pAt p c) m) c)).length=qs.length:=QW;generalize qs.set a (cC p (aP (pAt p c) m) c)=us at Fk Fe Fo EZ;walk_at "st";refine ⟨by rw [B2];lia, ?_⟩
   refine rD O ⟨by rw [B2];lia, .inr trivial,by rw [B2,Hz,ic,HQ];lia, ?_⟩
   refine ⟨by rw [B2];lia, ?_⟩
   refine rE O ⟨.inr trivial,by rw [B2,A1,Hz,J8,ic,HQ];lia, ?_⟩
   rw [rF O];walk_at "st";refine ⟨⟨_,EZ⟩,kL EZ ?_⟩;walk_at "wp";rw [A0];refine Y Fd.box (by lia) (by lia) fun w Fs w0 w1 F6 => ?_
   have Fp:=F6.keep pf _ G EZ;have F6:=Fd.trans F6;refine ⟨_,_,_,_,rfl,rfl,Fp,w0,by rw [A0];lia,by rw [A0,B2];lia, ?_⟩
   refine hF _ _ ⟨us.take w.toNat++cC p m c::us.drop w.toNat,_,_,_,_,_,_,_,_,_,_,rfl,F6.upd Z G, ?_, ?_, ?_, ?_⟩
   ·rw [ad,Iz,Hs,List.map_take,List.map_drop]
   ·rw [A1,HS,Hz,J8,A1,HQ];lia
   ·intro y hy
    rcases Hy.mp hy with h | h
    ·exact Fe y (Kb h)
    ·rcases Hg.mp h with rfl | h
     ·exact Fn
     ·exact Fe y (Ka h)
   ·intro k i j;rw [wg,Fk]
  ·rintro ρ M4 ⟨qs,o5,o6,o7,o8,o9,F7,F8,F9,Fa,Fb,rfl,x4,e4,EX,L,hT⟩;dsimp only;rw [HD] at EX L;walk_at "st";refine ⟨_,_,rfl,rfl,by rw [B2];lia, .inr trivial,by rw [B2];simp, ?_⟩
   refine q qs pf M4 (fun p U=>(L p U).mono (by lia)) (by lia) (fun z => ?_) hT x4 Z G e4
   subst z
   cases ps with
   | nil=>exact Ff rfl
   | cons _ _=>rw [Jo,HS] at EX;lia
end
section
open PySem PySem.Spec PyProof.Rows L2.Srt
variable {T:List FD}
structure Bd (p:Pr):Prop where
 l0:p.1.length<=100
 l1:p.2.1.length<=100
 l2:p.2.2.length<=100
 e0:Within 100 p.1
 e1:Within 100 p.2.1
 e2:Within 100 p.2.2
theorem Dr.bd {B:Int} (j:B<=100) {L0 L1 L2:Nat} (h0:L0<=100) (h1:L1<=100) (h2:L2<=100) {p:Pr} (h:Dr B L0 L1 L2 p):Bd p:=by
 have w:∀ {l:List Int},Within B l->Within 100 l:=fun h x hx=>by have:=h x hx;lia
 exact ⟨by rw [h.l0];exact h0,by rw [h.l1];exact h1,by rw [h.l2];exact h2,w h.e0,w h.e1,w h.e2⟩
theorem Bt {a b:List Int} {x:Int}:kr (a++[x]) b=kr a b++b.map (x * ·):=by simp [kr]
theorem Bu {Φ:Phi} {a b:List Int} (G:Within 100 a) (la:a.length<=100) (lb:b.length<=100) {M:Mem} {N:NC} (q:∀ ρ,N ρ M ((kr a b).map .int)) {o0 j:Option D} :
 bK (aQ 0) (cU (kE (bu 2)) (aQ 1) (ci (wOp gi (bu 0) (bu 1)))) (fun M=>True) N (a.map .int) [o0,j,some (.tup (b.map .int))] M []:=by
 refine au (f:=D.int) (ys:=a) (I:=fun l ρ M' acc=>(∃ o0 j, ρ = [o0,j,some (.tup (b.map .int))])/\M'=M/\acc=(kr l b).map .int) rfl ⟨⟨_,_,rfl⟩,rfl,rfl⟩ (fun _ _ _ _ _=>trivial) ?_ ?_
 ·rintro l x r ρ M1 acc e ⟨⟨o0,j,rfl⟩,rfl,rfl⟩;refine ⟨_,rfl,fun N' B => ?_⟩;have J:=am e;have hx:=G x (by rw [e];simp)
  walk_at "wp";refine au (f:=D.int) (ys:=b) (I:=fun l' ρ M' acc=>(∃ j, ρ = [some (.int x),j,some (.tup (b.map .int))])/\M'=M1/\acc=(kr l b++l'.map (x * ·)).map .int) rfl ⟨⟨_,rfl⟩,rfl,by simp⟩ (fun _ _ _ _ _=>by first | rfl | trivial) ?_ ?_
  ·rintro l' y r' ρ M2 acc e' ⟨⟨j,rfl⟩,rfl,rfl⟩;refine ⟨_,rfl,fun N'' z => ?_⟩;have F:=am e';walk_at "wp";refine ⟨aO (by lia), ?_,z _ _ _ ⟨⟨_,rfl⟩,rfl,by simp⟩⟩
   rw [A0,A1,A0,bR,B2];have:l.length*b.length<=100*100:=HH (by lia) lb
   lia
  ·rintro ρ M2 acc ⟨⟨j,rfl⟩,rfl,rfl⟩;exact B _ _ _ ⟨⟨_,_,rfl⟩,rfl,by rw [Bt]⟩
 ·rintro ρ M1 acc ⟨⟨o0,j,rfl⟩,rfl,rfl⟩;exact q _
noncomputable def tK (s:Stmt):FD:=⟨"product_within",s,["outer", "inner"],2,
 (.cons (.ret (.blt .tuple (.cons (.comp [none,none] ["block", "part"] (.last (.zip (.var 0) (.var 1)) (.tup (.cons (.name 0) (.cons (.name 1) .nil))) .nil (.blt .tuple (.cons (.comp [none,none,(some 1)] ["x", "y", "part"] (.more (.seq (.var 0)) (.name 0) .nil (.last (.seq (.var 2)) (.name 1) .nil (.bin .mul (.var 0) (.var 1))))) .nil)))) .nil)))
 .nil)⟩
theorem tL {f:Nat} {s:Stmt} (hf:T[f]? = some (tK s)) {n:Nat} (hn : 1<=n) {p u:Pr} (j:Bd p) (B:Bd u) {M:Mem} {Q:QD} (q:∀ M',Ge M M'->Q (prD (krP p u)) M'):phi T n f [prD p,prD u] M Q:=by
 refine aF (by lia) hf rfl (ρ := [some _,some _]) rfl ?_
 unfold tK prD;walk_at "st";have O:∀ ab∈[(p.1,u.1),(p.2.1,u.2.1),(p.2.2,u.2.2)],Within 100 ab.1/\ab.1.length<=100/\ab.2.length<=100:=by
  intro ab z;simp only [Hg,HE,or_false] at z
  rcases z with rfl | rfl | rfl
  ·exact ⟨j.e0,j.l0,B.l0⟩
  ·exact ⟨j.e1,j.l1,B.l1⟩
  ·exact ⟨j.e2,j.l2,B.l2⟩
 refine au (f:=fun ab:List Int×List Int=>D.tup [.tup (ab.1.map .int), .tup (ab.2.map .int)]) (ys := [(p.1,u.1),(p.2.1,u.2.1),(p.2.2,u.2.2)]) (I:=fun l ρ M' acc=>(∃ o0 F, ρ = [o0,F])/\Ge M M'/\acc=l.map fun ab=>D.tup ((kr ab.1 ab.2).map .int)) rfl ⟨⟨_,_,rfl⟩,Ge.refl,rfl⟩ (fun _ _ _ _ _=>by first | rfl | trivial) ?_ ?_
 ·rintro l ab r ρ M1 acc e ⟨⟨o0,F,rfl⟩,g,rfl⟩;refine ⟨_,rfl,fun N' G => ?_⟩;have J:=am e;obtain ⟨h1,h2,U⟩:=O ab (by rw [e];simp)
  walk_at "wp";refine Bu (Φ := phi T n) h1 h2 U fun ρ pq hpq=>⟨_,_,rfl,ag ad, ?_⟩;have Y:l.length < 3:=J;refine ⟨by rw [A0,B2];lia,G _ _ _ ⟨⟨_,_,rfl⟩,g.trans (Ge.new hpq),by simp⟩⟩
 ·rintro ρ M1 acc ⟨⟨o0,F,rfl⟩,g,rfl⟩ pp L;exact ⟨_,_,rfl,ag ad,q _ (g.trans (Ge.new L))⟩
theorem mD {ps us:List Pr} {p:Pr}:aT (ps++[p]) us=aT ps us++us.map (krP p):=by simp [aT]
theorem dh {us:List Pr}:∀ {ps:List Pr},(aT ps us).length=ps.length*us.length
 | [] => by simp [aT]
 | p::ps=>by rw [show aT (p::ps) us=us.map (krP p)++aT ps us by simp [aT],A1,dh,A0,HS,J2];lia
noncomputable def j3 (s:Stmt) (fp:Nat):FD:=⟨"within",s,["outer", "inner", "products"],2,
 (.cons (.asg (.name 2) (.comp [none,none,(some 1)] ["block", "product", "inner"] (.more (.seq (.ix (.var 0) (.int 3))) (.name 0) .nil (.last (.seq (.ix (.var 2) (.int 3))) (.name 1) .nil (.call fp (.cons (.var 0) (.cons (.var 1) .nil)))))))
 (.cons (.ret (.tup (.cons (.bin .mul (.ix (.var 0) (.int 0)) (.ix (.var 1) (.int 0))) (.cons (.bin .mul (.ix (.var 0) (.int 1)) (.ix (.var 1) (.int 1))) (.cons (.bin .mul (.ix (.var 0) (.int 2)) (.ix (.var 1) (.int 2))) (.cons (.var 2) .nil))))))
 .nil))⟩
theorem wo {f fp:Nat} {s sp:Stmt} (hf:T[f]? = some (j3 s fp)) (J:T[fp]? = some (tK sp)) {n:Nat} (hn : 2<=n) {L O U B F G:Nat} (hA:L<=1000/\O<=1000/\U<=1000) {ps us:List Pr} (ha:∀ p∈ps,Bd p) (hb:∀ p∈us,Bd p) (EY:ps.length<=1000) (Y:us.length<=1000) {po pi:Addr} {M:Mem} {Q:QD} (ho:M po=some (.lst (ps.map prD))) (hi:M pi=some (.lst (us.map prD)))
 (q:∀ p M',Ge M M'->M p=none->M' p=some (.lst ((aT ps us).map prD))->Q (.tup [.int (L*B:Nat), .int (O*F:Nat), .int (U*G:Nat), .ref p]) M') :
 phi T n f [.tup [.int L, .int O, .int U, .ref po], .tup [.int B, .int F, .int G, .ref pi]] M Q:=by
 refine aF (by lia) hf rfl (ρ := [some _,some _,none]) rfl ?_
 unfold j3;walk_at "st";refine ⟨_,rfl,_,ag ho, ?_⟩;refine au (f:=prD) (ys:=ps) (I:=fun l ρ M' acc=>(∃ o0 j, ρ = [o0,j,some (.tup [.int B, .int F, .int G, .ref pi])])/\Ge M M'/\acc=(aT l us).map prD) rfl ⟨⟨_,_,rfl⟩,Ge.refl,rfl⟩ (fun _ _ _ _ h=>ag (h.2.1 _ _ ho)) ?_ ?_
 ·rintro l x r ρ M1 acc e ⟨⟨o0,j,rfl⟩,g,rfl⟩;refine ⟨_,rfl,fun N' Z => ?_⟩;have EZ:=am e;have hx:=ha x (by rw [e];simp)
  walk_at "wp";refine ⟨_,rfl,_,ag (g _ _ hi), ?_⟩;refine au (f:=prD) (ys:=us) (I:=fun l' ρ M' acc=>(∃ j, ρ = [some (prD x),j,some (.tup [.int B, .int F, .int G, .ref pi])])/\Ge M M'/\acc=(aT l us++l'.map (krP x)).map prD) rfl ⟨⟨_,rfl⟩,g,by simp⟩ (fun _ _ _ _ h=>ag (h.2.1 _ _ hi)) ?_ ?_
  ·rintro l' y r' ρ M2 acc e' ⟨⟨j,rfl⟩,g2,rfl⟩;refine ⟨_,rfl,fun N'' z => ?_⟩;have EX:=am e';have hy:=hb y (by rw [e'];simp)
   walk_at "wp";refine tL J (by lia) hx hy fun M3 g3=>⟨?_,z _ _ _ ⟨⟨_,rfl⟩,g2.trans g3,by simp⟩⟩
   rw [A0,A1,A0,dh,B2];have:l.length*us.length<=1000*1000:=HH (by lia) Y
   lia
  ·rintro ρ M2 acc ⟨⟨j,rfl⟩,g2,rfl⟩;exact Z _ _ _ ⟨⟨_,_,rfl⟩,g2,by rw [mD]⟩
 ·rintro ρ M1 acc ⟨⟨o0,j,rfl⟩,g,rfl⟩ p hp;walk_at "st";refine ⟨_,rfl,_,rfl,aO (by lia), ?_⟩
  refine ⟨_,rfl,_,rfl,aO (by lia),_,rfl,_,rfl,aO (by lia),by rw [B2];lia, ?_⟩
  rw [<- HV, <- HV, <- HV];refine q p _ (g.trans (Ge.new hp)) ?_ ad
  cases hz:M p with
  | none=>rfl
  | some o=>rw [g _ _ hz] at hp;cases hp
end
section
open PySem PySem.Spec PyProof.Rows L2.Srt
variable {T:List FD}
def mF (T:List FD) (n f:Nat):Prop := ∀ {b:Addr} {L0 L1 L2 most:Nat} {B:Int},(1<=B/\B<=100)->L0<=100->L1<=100->L2<=100->most<=20 -> ∀ {ps:List Pr},(∀ p∈ps,Dr B L0 L1 L2 p)->ps≠[]->ps.length<=10000 -> ∀ {y0 y1 y2:D} {pp:Addr} {M:Mem} {Q:QD},Box b M->pp≠b->M pp=some (.lst (ps.map prD)) ->
 (∀ (qs:List Pr) pf M',(∀ p∈qs,Dr (B+2*most) L0 L1 L2 p)->qs.length<=ps.length+most->qs≠[]->(∀ k i j,Tn qs k i j=Tn ps k i j)->Bx b M M'->M pf=none->pf≠b->M' pf=some (.lst (qs.map prD))->Q (.tup [y0,y1,y2, .ref pf]) M') ->
 phi T n f [.ref b, .tup [y0,y1,y2], .ref pp, .int most] M Q
def mG (T:List FD) (cap n f:Nat):Prop := ∀ {L0 L1 L2:Nat},L0<=1000->L1<=1000->L2<=1000 -> ∀ {L:List Tm},(L.map (·.1)).Nodup->L.length<=1000000->L.length<=cap -> ∀ {d:Addr} {M:Mem} {Q:QD},M d=some (.dct true (L.map kcD)) ->
 (∀ (rs:List Tm) p M',rs.Perm L->Ge M M'->M p=none->M' p=some (.lst ((rs.map (plP L0 L1 L2)).map prD))->Q (.ref p) M')->phi T n f [.tup [.int L0, .int L1, .int L2], .ref d] M Q
theorem fj {L:Nat} {k:Int}:Within 1 (one L k):=fun x hx=>by
 unfold one at hx;obtain ⟨h,_,rfl⟩:=Hu.mp hx
 split <;> lia
theorem Ds {L0 L1 L2:Nat} {t:Tm} (h:t.2=1):Dr 1 L0 L1 L2 (plP L0 L1 L2 t):=by
 refine ⟨dg,dg,by unfold plP;rw [A0];exact dg,fj,fj,fun x hx => ?_⟩
 unfold plP at hx;dsimp only at hx;rw [h] at hx;obtain ⟨y,j,rfl⟩:=Hu.mp hx;have:=fj y j;lia
end
section
open PySem PySem.Spec PyProof.Rows L2.Srt
theorem fo {a b m:Nat} (hb:b < m):(a*m+b) % m=b:=by
 rw [Nat.add_comm,Nat.add_mul_mod_self_right,Nat.mod_eq_of_lt hb]
theorem bH {F:Nat->Int} {n:Nat} {i:Nat} (h:i < n):gz ((B0 n).map F) (i:Nat)=F i:=by
 unfold gz;rw [if_neg (by lia),HA,Ip,HC,Jh h];rfl
theorem wp {a b:List Int} (j:a.length=b.length) (h:∀ i:Nat,i < a.length->gz a (i:Nat)=gz b (i:Nat)):a=b:=by
 refine Qw j fun i h1 h2 => ?_;have:=h i h1;unfold gz at this;rw [if_neg (by lia),if_neg (by lia),HA,Ip,Ip,A2 h1,A2 h2] at this
 exact this
theorem zF {n m i:Nat} (h:i < n*m):∃ a b,a < n/\b < m/\i=a*m+b:=by
 have hm : 0 < m:=by
  rcases Nat.eq_zero_or_pos m with z | z
  ·rw [z] at h;simp at h
  ·exact z
 exact ⟨i / m,i % m,Pe (by rw [LV];exact h),Nat.mod_lt _ hm,by rw [LV];exact (Nat.div_add_mod i m).symm⟩
end
section
open PySem PySem.Spec PyProof.Rows L2.Srt
variable {T:List FD}
theorem kb {α β:Type} {f g : α -> List β} {l:List α} (h:∀ x∈l,f x=g x):l.flatMap f=l.flatMap g:=by
 rw [QJ,QJ,HK h]
theorem j4 {i0:Nat} {f:Nat->Int} {p:Nat->Prop} [DecidablePred p]:∀ {n:Nat},(∀ i,i < n->(p i↔i=i0))->((B0 n).map fun i=>if p i then f i else 0).sum=if i0 < n then f i0 else 0
 | 0,_=>by simp
 | n+1,h=>by
   rw [N4,Iz,OI,j4 (n:=n) fun i hi=>h i (by lia)]
   have hn:=h n (by lia)
   by_cases e:n=i0
   ·have j:=hn.mpr e;subst e;rw [if_neg (by lia),if_pos (by lia)];simp [j]
   ·have : ¬ p n:=fun z=>e (hn.mp z)
    by_cases g:i0 < n
    ·rw [if_pos g,if_pos (by lia)];simp [this]
    ·rw [if_neg g,if_neg (by lia)];simp [this]
theorem pP {α β:Type} {f:Nat -> α} {g:Nat -> β} {l:List Nat}:(l.map f).zip (l.map g)=l.map fun i=>(f i,g i):=by
 induction l with
 | nil=>rfl
 | cons x l ih=>simp [ih]
end
section
open PySem PySem.Spec PyProof.Rows L2.Srt
variable {T:List FD}
theorem ie {l:List Int} {n:Nat} (h:l.length=n):l=(B0 n).map fun i=>gz l (i:Nat):=by
 refine wp (by simp [h]) fun i hi => ?_
 rw [bH (by lia)]
end
section
open PySem PySem.Spec PyProof.Rows L2.Srt
variable {T:List FD}
noncomputable def kU (s:Stmt):FD:=⟨"_law_line_sums",s,["_law_n", "_law_m", "_law_found", "_law_i", "_law_j"],2,
 (.cons (.asg (.name 2) (.dnew true))
 (.cons (.for (.name 3) (.rng1 (.var 0)) (.cons (.for (.name 4) (.rng1 (.var 1)) (.cons (.put (.var 2) (.tup (.cons (.bin .add (.var 3) (.var 4)) (.cons (.var 3) (.cons (.var 4) .nil)))) (.int 1))
 .nil))
 .nil))
 (.cons (.ret (.var 2))
 .nil)))⟩
theorem TI.perm' {n m p:Nat} {X L:List Tm} (hn:(X.map (·.1)).Nodup) (h:TI n m p X L):L.Perm X:=by
 refine (NF (n6 h.nd) (n6 hn)).mpr fun t=>⟨h.sub t,fun j => ?_⟩;obtain ⟨u,q,e⟩:=Hu.mp (h.all t j);have h1:=fg hn (h.sub u q);have h2:=fg hn j;rw [e,h2] at h1;have:u=t:=Prod.ext e h1.symm;rw [<- this];exact q
def kW (T:List FD) (k f:Nat):Prop := ∀ {n m:Nat} {M:Mem} {Q:QD},n<=50->m<=50->(∀ (L:List Tm) d M',L.Perm (be n m)->Ge M M'->M d=none->M' d=some (.dct true (L.map kcD))->Q (.ref d) M')->phi T k f [.int n, .int m] M Q
theorem yL {f:Nat} {s:Stmt} (hf:T[f]? = some (kU s)) {k:Nat} (hk : 1<=k):kW T k f:=by
 intro n m M Q hn hm q;refine aF (by lia) hf rfl (ρ := [some _,some _,none,none,none]) rfl ?_
 unfold kU;walk_at "st";intro d hd;have Z:=Ge.new (o := .dct true []) hd;have d0:=ad (M:=M) (a:=d) (o := .dct true []);generalize ah M d (.dct true [])=M0 at Z d0 ⊢;walk_at "st";refine ⟨by lia,by lia, ?_⟩
 rw [HA];refine aG (f:=fun i=>D.int (i:Nat)) (ys:=B0 n) (I:=fun l ρ M' => ∃ L J j, ρ = [some (.int n),some (.int m),some (.ref d),J,j]/\Ge M M'/\M' d=some (.dct true (L.map kcD))/\TI 0 0 0 (l.flatMap fun i=>(B0 m).map (bD i)) L/\L.length<=l.length*50) aA ⟨[],_,_,rfl,Z,d0,⟨by simp,fun _ h=>by simp at h,fun _ h=>by simp at h⟩,by simp⟩ (fun _ _ _ _=>trivial) ?_ ?_
 ·rintro l a r ρ M1 e ⟨L,J,j,rfl,g1,h1,z,B⟩;refine ⟨_,rfl,fun F hF => ?_⟩;have O:=am e;rw [HD] at O;walk_at "st";refine ⟨by lia,by lia, ?_⟩
  rw [HA];refine aG (f:=fun i=>D.int (i:Nat)) (ys:=B0 m) (I:=fun l' ρ M' => ∃ L j, ρ = [some (.int n),some (.int m),some (.ref d),some (.int (a:Nat)),j]/\Ge M M'/\M' d=some (.dct true (L.map kcD))/\TI 0 0 0 ((l.flatMap fun i=>(B0 m).map (bD i))++l'.map (bD a)) L/\L.length<=l.length*50+l'.length) aA ⟨L,_,rfl,g1,h1,by simpa using z,by simpa using B⟩ (fun _ _ _ _=>trivial) ?_ ?_
  ·rintro l' b r' ρ M3 e3 ⟨L,j,rfl,g3,U,z,B⟩;refine ⟨_,rfl,fun F3 Y => ?_⟩;have G:=am e3;rw [HD] at G;rw [cZ];walk_at "wp";refine ⟨by rw [B2];lia, ?_⟩
   have ek:D.tup [.int (a+b), .int a, .int b]=k3D (bD a b).1:=by
    unfold bD k3D;simp only [K6]
   rw [ek];refine ph U (jW (bD a b).1) (by rw [A0,B2];lia) ?_
   rw [show D.int 1 = .int (bD a b).2 from rfl,pE];refine Y _ _ ⟨_,_,rfl,g3.upd hd,ad, ?_, ?_⟩
   ·rw [Iz, <- Hl];exact z.put _
   ·have:=yD (L:=L) (k:=(bD a b).1) (c:=(bD a b).2);rw [A1,HQ];lia
  ·rintro ρ M3 ⟨L,j,rfl,g3,U,z,B⟩;dsimp only;walk_at "wp";refine hF _ _ ⟨L,_,_,rfl,g3,U, ?_, ?_⟩
   ·rw [Ko];simpa using z
   ·rw [A1];rw [HD] at B;simp;lia
 ·rintro ρ M1 ⟨L,J,j,rfl,g1,h1,z,B⟩;dsimp only;walk_at "st";exact q L d M1 (z.perm' dN) g1 hd h1
noncomputable def eT (n i:Nat):List Int:=(B0 (2*n - 1)).map fun k=>if k=2*i then 1 else if i<=k/\k < i+n then -1 else 0
noncomputable def cw (n i j:Nat):List Int:=(B0 n).map fun h=>if h=i∨h=j then 1 else 0
noncomputable def ppI (n i:Nat):List Pr:=(one n (i:Nat),one n (i:Nat),eT n i)::(B0 i).map fun j=>(cw n i j,cw n i j,one (2*n - 1) ((i+j:Nat):Int))
noncomputable def pp (n:Nat):List Pr:=(B0 n).flatMap (ppI n)
theorem rG {G:Nat->List Pr} {k i j:Int}:∀ l:List Nat,Tn (l.flatMap G) k i j=(l.map fun x=>Tn (G x) k i j).sum
 | [] => rfl
 | x::l=>by rw [Ke,dv,rG l];simp
theorem Bv {G:Nat->Pr} {k i j:Int} {n:Nat}:Tn ((B0 n).map G) k i j=bN n fun x=>tm (G x) k i j:=by
 unfold Tn bN;rw [Im];rfl
theorem dX {n k:Nat} {v:Int}:bN n (fun i=>if k=i then v else 0)=if k < n then v else 0:=by
 by_cases h:k < n
 ·rw [if_pos h,we (F:=fun _=>v) h]
 ·rw [if_neg h];exact gE fun i hi=>if_neg (by lia)
theorem Dt {n:Nat} {i a b:Nat} {o:List Int} {k:Int} (hi:i < n):tm (one n (i:Nat),one n (i:Nat),o) k (a:Nat) (b:Nat)=if a=i/\b=i then gz o k else 0:=by
 unfold tm;dsimp only;rw [fi (by lia) (by lia),fi (by lia) (by lia)]
 by_cases h1:a=i
 ·by_cases h2:b=i
  ·rw [if_pos (by lia),if_pos (by lia),if_pos ⟨h1,h2⟩];lia
  ·rw [if_pos (show (a:Int)=(i:Int) by lia),if_neg (show ¬ (b:Int)=(i:Int) by lia),if_neg (show ¬ (a=i/\b=i) by lia)];lia
 ·rw [if_neg (show ¬ (a:Int)=(i:Int) by lia),if_neg (show ¬ (a=i/\b=i) by lia)];simp
theorem Bw {n i j a b k:Nat} (hi:i < n) (F:j < i) (B:a < n) (hb:b < n):tm (cw n i j,cw n i j,one (2*n - 1) ((i+j:Nat):Int)) (k:Nat) (a:Nat) (b:Nat)=if ((a=i∨a=j)/\(b=i∨b=j))/\k=i+j then 1 else 0:=by
 unfold tm cw;dsimp only;rw [bH B,bH hb,fi (by lia) (by lia)]
 by_cases h1:a=i∨a=j
 ·by_cases h2:b=i∨b=j
  ·by_cases q:k=i+j
   ·rw [if_pos h1,if_pos h2,if_pos (by lia),if_pos ⟨⟨h1,h2⟩,q⟩];rfl
   ·rw [if_pos h1,if_pos h2,if_neg (by lia),if_neg (fun z=>q z.2)];rfl
  ·rw [if_neg h2,if_neg (show ¬ (((a=i∨a=j)/\(b=i∨b=j))/\k=i+j) from fun z=>h2 z.1.2)];simp
 ·rw [if_neg h1,if_neg (show ¬ (((a=i∨a=j)/\(b=i∨b=j))/\k=i+j) from fun z=>h1 z.1.1)];simp
theorem El {n a b k:Nat} (J:a < n) (hb:b < n) (L:k < 2*n - 1):Tn (pp n) (k:Nat) (a:Nat) (b:Nat)=if k=a+b then 1 else 0:=by
 unfold pp;rw [rG];show bN n (fun i=>Tn (ppI n i) _ _ _)=_;have O:∀ i,i < n->Tn (ppI n i) (k:Nat) (a:Nat) (b:Nat)=(if a=i/\b=i then (if k=2*i then 1 else if i<=k/\k < i+n then -1 else 0) else 0)+bN i fun j=>if ((a=i∨a=j)/\(b=i∨b=j))/\k=i+j then 1 else 0:=fun i hi=>by
  unfold ppI;rw [fY,Dt hi,Bv];unfold eT;rw [bH L];congr 1;exact bO fun j B=>Bw hi B J hb
 rw [bO O]
 by_cases hab:a=b
 ·subst hab;have h1:∀ i,i < n->((if a=i/\a=i then (if k=2*i then 1 else if i<=k/\k < i+n then -1 else 0) else 0)+bN i fun j=>if ((a=i∨a=j)/\(a=i∨a=j))/\k=i+j then (1:Int) else 0)=(if a=i then ((if k=2*a then 1 else if a<=k/\k < a+n then -1 else 0)+if a<=k/\k < 2*a then 1 else 0) else 0)+if k - a=i then (if a < k - a/\a<=k then 1 else 0) else 0:=fun i hi=>by
   by_cases e:a=i
   ·subst e;rw [if_pos ⟨rfl,rfl⟩,if_pos rfl];have e1:(bN a fun j=>if ((a=a∨a=j)/\(a=a∨a=j))/\k=a+j then (1:Int) else 0)=if a<=k/\k < 2*a then 1 else 0:=by
     by_cases h:a<=k
     ·have:∀ j,j < a->(if ((a=a∨a=j)/\(a=a∨a=j))/\k=a+j then (1:Int) else 0)=if k - a=j then 1 else 0:=fun j B=>by
       by_cases z:k=a+j
       ·rw [if_pos ⟨⟨.inl rfl, .inl rfl⟩,z⟩,if_pos (by lia)]
       ·rw [if_neg (fun w=>z w.2),if_neg (by lia)]
      rw [bO this,dX]
      by_cases h2:k < 2*a
      ·rw [if_pos (by lia),if_pos ⟨h,h2⟩]
      ·rw [if_neg (by lia),if_neg (fun w=>h2 w.2)]
     ·rw [if_neg (fun w=>h w.1)];exact gE fun j B=>if_neg (fun w=>h (by lia))
    rw [e1];have e2:(if k - a=a then (if a < k - a/\a<=k then (1:Int) else 0) else 0)=0:=by
     by_cases h:k - a=a
     ·rw [if_pos h,if_neg (by lia)]
     ·rw [if_neg h]
    rw [e2];lia
   ·rw [if_neg (fun w=>e w.1),if_neg e];have e1:∀ j,j < i->(if ((a=i∨a=j)/\(a=i∨a=j))/\k=i+j then (1:Int) else 0)=if a=j then (if k=i+a then 1 else 0) else 0:=fun j B=>by
     by_cases z:a=j
     ·subst z;rw [if_pos rfl]
      by_cases q:k=i+a
      ·rw [if_pos ⟨⟨.inr rfl, .inr rfl⟩,q⟩,if_pos q]
      ·rw [if_neg (fun w=>q w.2),if_neg q]
     ·rw [if_neg z,if_neg (fun w=>by lia)]
    rw [bO e1,dX]
    by_cases h:a < i
    ·rw [if_pos h]
     by_cases z:k=i+a
     ·rw [if_pos z,if_pos (by lia),if_pos (by lia)]
     ·rw [if_neg z]
      by_cases q:k - a=i
      ·rw [if_pos q,if_neg (by lia)]
      ·rw [if_neg q]
    ·rw [if_neg h]
     by_cases q:k - a=i
     ·rw [if_pos q,if_neg (by lia)]
     ·rw [if_neg q]
  rw [bO h1,yA,dX,dX,if_pos J]
  by_cases c1:k=2*a
  ·rw [if_pos c1,if_neg (show ¬ (a<=k/\k < 2*a) by lia),if_neg (show ¬ (a < k - a/\a<=k) by lia),if_pos (show k=a+a by lia)]
   split <;> rfl
  ·rw [if_neg c1,if_neg (show ¬ k=a+a by lia)]
   by_cases G:a<=k/\k < a+n
   ·rw [if_pos G,if_pos (show k - a < n by lia)]
    by_cases F:k < 2*a
    ·rw [if_pos ⟨G.1,F⟩,if_neg (show ¬ (a < k - a/\a<=k) by lia)];rfl
    ·rw [if_neg (show ¬ (a<=k/\k < 2*a) from fun w=>F w.2),if_pos (show a < k - a/\a<=k by lia)];rfl
   ·rw [if_neg G,if_neg (show ¬ (a<=k/\k < 2*a) by lia)]
    by_cases F:k - a < n
    ·rw [if_pos F,if_neg (show ¬ (a < k - a/\a<=k) by lia)];rfl
    ·rw [if_neg F];rfl
 ·have h1:∀ i,i < n->((if a=i/\b=i then (if k=2*i then 1 else if i<=k/\k < i+n then -1 else 0) else 0)+bN i fun j=>if ((a=i∨a=j)/\(b=i∨b=j))/\k=i+j then (1:Int) else 0)=if max a b=i then (if k=a+b then 1 else 0) else 0:=fun i hi=>by
   rw [if_neg (by lia)]
   have e1:∀ j,j < i->(if ((a=i∨a=j)/\(b=i∨b=j))/\k=i+j then (1:Int) else 0)=if min a b=j then (if max a b=i/\k=a+b then 1 else 0) else 0:=fun j B=>by
    by_cases z:min a b=j
    ·rw [if_pos z]
     by_cases q:max a b=i/\k=a+b
     ·rw [if_pos q,if_pos (by lia)]
     ·rw [if_neg q,if_neg (by lia)]
    ·rw [if_neg z,if_neg (by lia)]
   rw [bO e1,dX]
   by_cases z:max a b=i
   ·rw [if_pos z,if_pos (by lia)]
    by_cases q:k=a+b
    ·rw [if_pos q,if_pos ⟨z,q⟩];rfl
    ·rw [if_neg q,if_neg (fun w=>q w.2)];rfl
   ·rw [if_neg z,if_neg (show ¬ (max a b=i/\k=a+b) from fun w=>z w.1)]
    split <;> rfl
  rw [bO h1,dX,if_pos (by lia)]
theorem fu {n m:Nat} {k i j:Int}:cf (be n m) (k,i,j)=if (0<=i/\i < n)/\(0<=j/\j < m)/\k=i+j then 1 else 0:=by
 by_cases h:(0<=i/\i < n)/\(0<=j/\j < m)/\k=i+j
 ·rw [if_pos h];have hm:bD i.toNat j.toNat∈be n m:=Ja.mpr ⟨i.toNat,HB.mpr (by lia),HX (HB.mpr (by lia))⟩
  have e:(k,i,j)=(bD i.toNat j.toNat).1:=by
   unfold bD;rw [MJ,MJ];exact ⟨by lia,by lia,by lia⟩
  rw [e];exact fg dN hm
 ·rw [if_neg h];refine kQ fun t q e=>h ?_;unfold be eQ at q;obtain ⟨a,z,q⟩:=Ja.mp q;obtain ⟨b,hb,rfl⟩:=Hu.mp q;have z:=HB.mp z;have hb:=HB.mp hb;unfold bD at e;rw [MJ,MJ] at e;lia
theorem fw {n:Nat}:∀ p∈pp n,Dr 1 n n (2*n - 1) p:=by
 intro p q;unfold pp at q;obtain ⟨i,hi,q⟩:=Ja.mp q;unfold ppI at q
 rcases Hg.mp q with rfl | q
 ·refine ⟨dg,dg,by simp [eT],fj,fj,fun x hx => ?_⟩
  unfold eT at hx;obtain ⟨k,_,rfl⟩:=Hu.mp hx
  split
  ·lia
  ·split <;> lia
 ·obtain ⟨j,_,rfl⟩:=Hu.mp q;have hb:Within 1 (cw n i j):=fun x hx=>by
   unfold cw at hx;obtain ⟨k,_,rfl⟩:=Hu.mp hx
   split <;> lia
  exact ⟨by simp [cw],by simp [cw],dg,hb,hb,fj⟩
theorem zG {n:Nat} {k i j:Int}:Tn (pp n) k i j=cf (be n n) (k,i,j):=by
 rw [fu]
 by_cases h:(0<=k/\k < ((2*n - 1:Nat):Int))/\(0<=i/\i < (n:Int))/\(0<=j/\j < (n:Int))
 ·obtain ⟨K,rfl⟩:∃ K:Nat,k=K:=⟨k.toNat,by lia⟩
  obtain ⟨I,rfl⟩:∃ K:Nat,i=K:=⟨i.toNat,by lia⟩
  obtain ⟨J,rfl⟩:∃ K:Nat,j=K:=⟨j.toNat,by lia⟩
  rw [El (by lia) (by lia) (by lia)]
  by_cases z:K=I+J
  ·rw [if_pos z,if_pos (by lia)]
  ·rw [if_neg z,if_neg (by lia)]
 ·rw [if_neg (by lia)]
  cases Decidable.em (Tn (pp n) k i j=0) with
  | inl e=>exact e
  | inr e=>exact absurd (pM (L0:=n) (L1:=n) (L2 := 2*n - 1) (us:=pp n) (fun u q=>⟨(fw u q).l0,(fw u q).l1,(fw u q).l2⟩) e) h
end
section
open PySem PySem.Spec PyProof.Rows L2.Srt
variable {T:List FD}
noncomputable def kX (s:Stmt) (fs:Nat):FD:=⟨"_law_pairs_products",s,["_law_n", "_law_found", "_law_i", "_law_out", "_law_j", "_law_both"],1,
 (.cons (.asg (.name 1) (.lst .nil))
 (.cons (.for (.name 2) (.rng1 (.var 0)) (.cons (.asg (.name 3) (.bin .mul (.lst (.cons (.int 0) .nil)) (.bin .sub (.bin .mul (.int 2) (.var 0)) (.int 1))))
 (.cons (.for (.name 4) (.rng1 (.var 0)) (.cons (.put (.var 3) (.bin .add (.var 2) (.var 4)) (.neg (.int 1)))
 .nil))
 (.cons (.put (.var 3) (.bin .mul (.int 2) (.var 2)) (.int 1))
 (.cons (.drop (.meth .append (.var 1) (.tup (.cons (.call fs (.cons (.var 0) (.cons (.var 2) .nil))) (.cons (.call fs (.cons (.var 0) (.cons (.var 2) .nil))) (.cons (.blt .tuple (.cons (.var 3) .nil)) .nil))))))
 (.cons (.for (.name 4) (.rng1 (.var 2)) (.cons (.asg (.name 5) (.blt .tuple (.cons (.comp [none,(some 2),(some 4)] ["_law_place", "_law_i", "_law_j"] (.last (.rng1 (.var 0)) (.name 0) .nil (.blt .int (.cons (.cmp .inS (.var 0) (.tup (.cons (.var 1) (.cons (.var 2) .nil)))) .nil)))) .nil)))
 (.cons (.drop (.meth .append (.var 1) (.tup (.cons (.var 5) (.cons (.var 5) (.cons (.call fs (.cons (.bin .sub (.bin .mul (.int 2) (.var 0)) (.int 1)) (.cons (.bin .add (.var 2) (.var 4)) .nil))) .nil))))))
 .nil)))
 .nil))))))
 (.cons (.ret (.var 1))
 .nil)))⟩
theorem pQ {F:Nat->Int} {L i:Nat} {v:Int}:((B0 L).map F).set i v=(B0 L).map fun k=>if k=i then v else F k:=by
 apply Kc;intro k;rw [Qk]
 by_cases h:i=k
 ·subst h;rw [if_pos rfl]
  by_cases j:i < L
  ·rw [if_pos (by simpa using j),HC,Jh j];simp
  ·rw [if_neg (by simpa using j),Jq (by simp;lia)]
 ·rw [if_neg h,HC,HC]
  by_cases j:k < L
  ·rw [Jh j];simp [Ne.symm h]
  ·rw [Jq (by simp;lia)];rfl
theorem Em {L:Nat}:(Ho L [D.int 0]).flatten=((B0 L).map fun _=>(0:Int)).map D.int:=by
 rw [Im];have:(B0 L).map (D.int ∘ fun _=>(0:Int))=Ho L (D.int 0):=by
  rw [show (D.int ∘ fun _:Nat=>(0:Int))=fun _=>D.int 0 from rfl,OJ,HD]
 rw [this,List.flatten_replicate_singleton]
theorem tM {L i:Nat} (h:i < L):ixN L (i:Nat)=some i:=by
 unfold ixN;rw [if_pos (by lia),if_pos (by lia),HA]
theorem fA {n:Nat}:∀ l:List Nat,(∀ i∈l,i < n)->(l.flatMap (ppI n)).length<=l.length*n
 | [],_=>by simp
 | i::l,h=>by
   have:=fA l fun j q=>h j (by simp [q])
   have hi:=h i (by simp)
   rw [Ke,A1,HS,J2];have:(ppI n i).length=i+1:=by simp [ppI]
   lia
def kY (T:List FD) (k f:Nat):Prop := ∀ {n:Nat} {M:Mem} {Q:QD},1<=n->n<=50->(∀ p M',Ge M M'->M p=none->M' p=some (.lst ((pp n).map prD))->Q (.ref p) M')->phi T k f [.int n] M Q
theorem yM {f fs:Nat} {s:Stmt} (hf:T[f]? = some (kX s fs)) {k:Nat} (U:iZ T (k - 1) fs) (hk : 1<=k):kY T k f:=by
 intro n M Q Fd hn q;refine aF (by lia) hf rfl (ρ := [some _,none,none,none,none,none]) rfl ?_
 unfold kX;walk_at "st";refine ⟨by rw [B2];lia,fun pf O => ?_⟩
 have g0:=Ge.new (o := .lst []) O;have e0:=ad (M:=M) (a:=pf) (o := .lst []);generalize ah M pf (.lst [])=M0 at g0 e0 ⊢;walk_at "st";refine ⟨by lia,by lia, ?_⟩
 rw [HA];refine aG (f:=fun i=>D.int (i:Nat)) (ys:=B0 n) (I:=fun l ρ M' => ∃ o2 o3 G J, ρ = [some (.int n),some (.ref pf),o2,o3,G,J]/\Ge M M'/\M' pf=some (.lst ((l.flatMap (ppI n)).map prD))) aA ⟨_,_,_,_,rfl,g0,e0⟩ (fun _ _ _ _=>trivial) ?_ ?_
 ·rintro l i r ρ Y e ⟨o2,o3,G,J,rfl,g1,e1⟩;refine ⟨_,rfl,fun F hF => ?_⟩;have F9:=am e;rw [HD] at F9;have hi:i < n:=HB.mp (by rw [e];simp)
  have EZ:∀ j∈l,j < n:=fun j hj=>HB.mp (by rw [e];simp [hj])
  have Fe:=fA l EZ;have Ff:l.length*n<=50*50:=HH (by lia) hn
  walk_at "st";refine ⟨by rw [B2];lia,fun p0 Fa=>⟨aO (by lia), ?_⟩⟩
  refine ⟨_,ad,by lia,by lia,by rw [B2];simp;lia,fun po Z => ?_⟩
  rw [show (2*(n:Int) - 1).toNat=2*n - 1 by lia,Em]
  have F1:=Ge.new (o := .lst [.int 0]) Fa;have L:Y po=none:=by
   cases hz:Y po with
   | none=>rfl
   | some o=>rw [F1 _ _ hz] at Z;cases Z
  have g2:=F1.trans (Ge.new (o := .lst (((B0 (2*n - 1)).map fun _=>(0:Int)).map D.int)) Z);have e2:=ad (M:=ah Y p0 (.lst [.int 0])) (a:=po) (o := .lst (((B0 (2*n - 1)).map fun _=>(0:Int)).map D.int));generalize ah (ah Y p0 (.lst [.int 0])) po (.lst (((B0 (2*n - 1)).map fun _=>(0:Int)).map D.int))=M2 at g2 e2 ⊢;have Fg:pf≠po:=fun w=>by rw [w,L] at e1;cases e1
  walk_at "st";refine ⟨by lia,by lia, ?_⟩
  rw [HA];refine aG (f:=fun i=>D.int (i:Nat)) (ys:=B0 n) (I:=fun l' ρ M' => ∃ G J, ρ = [some (.int n),some (.ref pf),some (.int (i:Nat)),some (.ref po),G,J]/\Ge Y M'/\M' po=some (.lst (((B0 (2*n - 1)).map fun k=>if i<=k/\k < i+l'.length then (-1:Int) else 0).map D.int))) aA ⟨_,_,rfl,g2,by rw [e2];congr 3;exact HK fun k _=>by rw [if_neg (by simp)]⟩ (fun _ _ _ _=>trivial) ?_ ?_
  ·rintro l' j r' ρ M3 e' ⟨G,J,rfl,g3,e3⟩;refine ⟨_,rfl,fun F' EX => ?_⟩;have B:=am e';rw [HD] at B;have hj:j=l'.length:=by
    have:=w5 e';rw [Jh B] at this;exact (Jj.inj this).symm
   subst hj;walk_at "st";rw [<- K6];refine cB e3 (j:=i+l'.length) (by rw [A0,A0,HD];exact tM (by lia)) ?_
   refine EX _ _ ⟨_,_,rfl,g3.upd L, ?_⟩;rw [ad, <- Ni (f:=D.int),pQ];congr 3;refine HK fun k _ => ?_;rw [A1,HQ]
   by_cases h1:k=i+l'.length
   ·rw [if_pos h1,if_pos (by lia)]
   ·rw [if_neg h1]
    by_cases h2:i<=k/\k < i+l'.length
    ·rw [if_pos h2,if_pos (by lia)]
    ·rw [if_neg h2,if_neg (by lia)]
  ·rintro ρ M3 ⟨G,J,rfl,g3,e3⟩;rw [HD] at e3;dsimp only;walk_at "st";refine ⟨aO (by lia), ?_⟩
   rw [show (2*(i:Int))=((2*i:Nat):Int) by lia]
   refine cB e3 (j := 2*i) (by rw [A0,A0,HD];exact tM (by lia)) ?_
   have g4:=g3.upd L (o := .lst ((((B0 (2*n - 1)).map fun k=>if i<=k/\k < i+n then (-1:Int) else 0).map D.int).set (2*i) (.int 1)))
   have e4:ah M3 po (.lst ((((B0 (2*n - 1)).map fun k=>if i<=k/\k < i+n then (-1:Int) else 0).map D.int).set (2*i) (.int 1))) po=some (.lst ((eT n i).map D.int)):=by
    rw [ad, <- Ni (f:=D.int),pQ];rfl
   generalize ah M3 po (.lst ((((B0 (2*n - 1)).map fun k=>if i<=k/\k < i+n then (-1:Int) else 0).map D.int).set (2*i) (.int 1)))=M4 at g4 e4 ⊢
   clear g3 e3 g2 e2;walk_at "st";refine ⟨⟨_,g4 _ _ e1⟩, ?_⟩;refine U (by lia) fun M5 g5=>U (by lia) fun M6 g6 => ?_
   have g6:=g5.trans g6;refine ⟨_,_,rfl,ag (g6 _ _ e4), ?_⟩;have g7:=g4.trans g6;refine ⟨by rw [B2];lia,pf,_,_,rfl,rfl,g7 _ _ e1,by rw [A0,B2];lia, ?_⟩
   have g8:Ge M (ah M6 pf (.lst ((l.flatMap (ppI n)).map prD++[.tup [.tup ((one n (i:Nat)).map .int), .tup ((one n (i:Nat)).map .int), .tup ((eT n i).map .int)]]))):=(g1.trans g7).upd O;have e8:=ad (M:=M6) (a:=pf) (o := .lst ((l.flatMap (ppI n)).map prD++[.tup [.tup ((one n (i:Nat)).map .int), .tup ((one n (i:Nat)).map .int), .tup ((eT n i).map .int)]]));generalize ah M6 pf (.lst ((l.flatMap (ppI n)).map prD++[.tup [.tup ((one n (i:Nat)).map .int), .tup ((one n (i:Nat)).map .int), .tup ((eT n i).map .int)]]))=M8 at g8 e8 ⊢;clear g4 e4 g5 g6 g7;walk_at "st";refine ⟨by lia,by lia, ?_⟩
   rw [HA];refine aG (f:=fun i=>D.int (i:Nat)) (ys:=B0 i) (I:=fun l' ρ M' => ∃ G J, ρ = [some (.int n),some (.ref pf),some (.int (i:Nat)),some (.ref po),G,J]/\Ge M M'/\M' pf=some (.lst (((l.flatMap (ppI n))++((one n (i:Nat),one n (i:Nat),eT n i)::l'.map fun j=>(cw n i j,cw n i j,one (2*n - 1) ((i+j:Nat):Int)))).map prD))) aA ⟨_,_,rfl,g8,by rw [e8];simp [prD]⟩ (fun _ _ _ _=>trivial) ?_ ?_
   ·rintro l' j r' ρ M9 e' ⟨G,J,rfl,g9,e9⟩;refine ⟨_,rfl,fun F' EX => ?_⟩;have B:=am e';rw [HD] at B;walk_at "st";refine ⟨by lia,by lia, ?_⟩
    rw [HA];refine au (f:=fun i=>D.int (i:Nat)) (ys:=B0 n) (I:=fun r ρ M' acc=>(∃ o0, ρ = [o0,some (.int (i:Nat)),some (.int (j:Nat))])/\M'=M9/\acc=(r.map fun h=>if h=i∨h=j then (1:Int) else 0).map .int) aA ⟨⟨_,rfl⟩,rfl,rfl⟩ (fun _ _ _ _ _=>trivial) ?_ ?_
    ·rintro r h r2 ρ F5 acc e10 ⟨⟨o0,rfl⟩,rfl,rfl⟩;refine ⟨_,rfl,fun N' Fb => ?_⟩;have F6:=am e10;rw [HD] at F6;walk_at "wp";refine ⟨by rw [B2];lia,[(i:Int),(j:Int)],rfl, ?_⟩
     walk_at "wp";refine ⟨by rw [A0,A0,B2];lia,Fb _ _ _ ⟨⟨_,rfl⟩,rfl, ?_⟩⟩
     rw [Iz,Iz];congr 1;simp only [Hg,HE,or_false,decide_eq_true_eq,Hs,JP,OH,D.int.injEq,and_true]
     by_cases z:h=i∨h=j
     ·rw [if_pos z,if_pos (by lia)]
     ·rw [if_neg z,if_neg (by lia)]
    ·rintro ρ F5 acc ⟨⟨o0,rfl⟩,rfl,rfl⟩ p2 hp2;refine ⟨_,_,rfl,ag ad, ?_⟩;have EY:=Ge.new (o := .lst (((B0 n).map fun h=>if h=i∨h=j then (1:Int) else 0).map .int)) hp2
     generalize ah F5 p2 (.lst (((B0 n).map fun h=>if h=i∨h=j then (1:Int) else 0).map .int))=M11 at EY ⊢
     have F7:=EY _ _ e9;walk_at "st";refine ⟨⟨_,F7⟩,aO (by lia), ?_⟩
     rw [show (2*(n:Int) - 1)=((2*n - 1:Nat):Int) by lia, <- K6]
     refine U (by lia) fun Fh F8 => ?_
     have Fc:=F8 _ _ F7;refine ⟨by rw [B2];lia,pf,_,_,rfl,rfl,Fc, ?_, ?_⟩
     ·rw [A0,A1,HS,A0,B2];lia
     ·refine EX _ _ ⟨_,_,rfl,(g9.trans (EY.trans F8)).upd O, ?_⟩;rw [ad];simp [prD,cw]
   ·rintro ρ M9 ⟨G,J,rfl,g9,e9⟩;dsimp only;walk_at "wp";refine hF _ _ ⟨_,_,_,_,rfl,g9, ?_⟩;rw [e9,Ko];simp [ppI]
 ·rintro ρ Y ⟨o2,o3,G,J,rfl,g1,e1⟩;dsimp only;walk_at "st";exact q pf Y g1 O e1
noncomputable def kZ (s:Stmt) (ft fd fq fp fs:Nat):FD:=⟨"_law_line",s,["_law_box_here", "_law_n", "_law_m", "_law_most", "_law_lengths"],4,
 (.cons (.asg (.name 4) (.tup (.cons (.var 1) (.cons (.var 2) (.cons (.bin .sub (.bin .add (.var 1) (.var 2)) (.int 1)) .nil)))))
 (.cons (.ite (.and (.cons (.cmp .eq (.var 1) (.var 2)) (.cons (.cmp .eq (.call ft (.cons (.var 0) (.cons (.int 2) .nil))) (.int 0)) .nil))) (.cons (.ret (.call fd (.cons (.var 0) (.cons (.var 4) (.cons (.call fq (.cons (.var 1) .nil)) (.cons (.var 3) .nil))))))
 .nil) .nil)
 (.cons (.ret (.call fd (.cons (.var 0) (.cons (.var 4) (.cons (.call fp (.cons (.var 4) (.cons (.call fs (.cons (.var 1) (.cons (.var 2) .nil))) .nil))) (.cons (.var 3) .nil))))))
 .nil)))⟩
theorem pR {n m:Nat} {t:Tm} (h:t∈be n m):((0<=t.1.1/\t.1.1 < (n+m - 1:Nat))/\(0<=t.1.2.1/\t.1.2.1 < (n:Nat))/\(0<=t.1.2.2/\t.1.2.2 < (m:Nat)))/\t.2=1:=by
 unfold be eQ at h;obtain ⟨a,j,h⟩:=Ja.mp h;obtain ⟨b,hb,rfl⟩:=Hu.mp h;have j:=HB.mp j;have hb:=HB.mp hb;unfold bD;dsimp only;lia
theorem fZ {n m:Nat}:(be n m).length=n*m:=yB
theorem Eo {n:Nat} (h : 1<=n):pp n≠[]:=fun z=>by
 have:(one n ((0:Nat):Int),one n ((0:Nat):Int),eT n 0)∈pp n:=Ja.mpr ⟨0,HB.mpr (by lia),by simp [ppI]⟩
 rw [z] at this;cases this
theorem pS {cap f ft fd fq fp fs:Nat} {s:Stmt} (hf:T[f]? = some (kZ s ft fd fq fp fs)) {k:Nat} (EX:jV T (k - 1) ft) (Y:mF T (k - 1) fd) (EY:kY T (k - 1) fq) (EZ:mG T cap (k - 1) fp) (F1:kW T (k - 1) fs) (hk : 2<=k) {b:Addr} {n m most:Nat} (hn : 1<=n/\n<=50) (hm : 1<=m/\m<=50) (Z:most<=20) (Fb:n*m<=cap) {M:Mem} {Q:QD} (hb:Box b M)
 (q:∀ (qs:List Pr) pf M',(∀ p∈qs,Dr (1+2*most) n m (n+m - 1) p)->qs.length<=n*m+most->(∀ k i j,Tn qs k i j=cf (be n m) (k,i,j))->Bx b M M'->M pf=none->pf≠b->M' pf=some (.lst (qs.map prD))->Q (.tup [.int n, .int m, .int (n+m - 1:Nat), .ref pf]) M') :
 phi T k f [.ref b, .int n, .int m, .int most] M Q:=by
 have bne:∀ {M':Mem} {p:Addr},Box b M'->M' p=none->p≠b:=fun F5 hp w=>by obtain ⟨_,_,_,e⟩:=F5;rw [<- w,hp] at e;cases e
 refine aF (by lia) hf rfl (ρ := [some _,some _,some _,some _,none]) rfl ?_
 unfold kZ;walk_at "st";refine ⟨by rw [B2];lia, ?_⟩
 have hmul:n*m<=50*50:=HH hn.2 hm.2;rw [show ((n:Int)+m - 1)=((n+m - 1:Nat):Int) by lia]
 refine de (fun ρ M' => ρ = [some (.ref b),some (.int n),some (.int m),some (.int most),some (.tup [.int n, .int m, .int (n+m - 1:Nat)])]/\Bx b M M') (fun R hR => ?_) ?_
 ·walk_at "wp"
  by_cases h:n=m
  ·subst h;rw [if_pos (by simp)]
   refine EX hb (by decide) (by decide) fun v M1 _ _ U => ?_
   walk_at "wp"
   by_cases hv:v=0
   ·rw [if_pos (by simp [hv])]
    walk_at "st";refine EY hn.1 hn.2 fun p M2 g2 hp e2 => ?_;have x2:=U.ge g2;have F6:n+n - 1=2*n - 1:=by lia
    refine Y (B := 1) (L0:=n) (L1:=n) (L2:=n+n - 1) (by lia) (by lia) (by lia) (by lia) Z (fun u hu=>by rw [F6];exact fw u hu) (Eo hn.1) ?_ x2.box (bne U.box hp) e2 fun qs pf M3 hq G F7 J x3 O z e3 => ?_
    ·have:=fA (n:=n) (B0 n) fun i hi=>HB.mp hi;rw [HD] at this;show (pp n).length<=_;unfold pp;lia
    ·have:=fA (n:=n) (B0 n) fun i hi=>HB.mp hi;rw [HD] at this;have Fc:(pp n).length<=n*n:=this;refine q qs pf M3 hq (by lia) (fun k i j => ?_) (x2.trans x3) (x2.none O z) z e3
     rw [J,zG]
   ·rw [if_neg (by simp [hv])]
    exact hR _ _ ⟨rfl,U⟩
  ·rw [if_neg (by simp;lia)]
   exact hR _ _ ⟨rfl,Bx.refl hb⟩
 ·rintro ρ M1 ⟨rfl,U⟩;walk_at "st";refine F1 hn.2 hm.2 fun L d M2 hL g2 hd e2 => ?_;have F8:(L.map (·.1)).Nodup:=(hL.map _).nodup_iff.mpr dN;have hlen:=hL.length_eq;rw [fZ] at hlen;refine EZ (by lia) (by lia) (by lia) F8 (by lia) (by lia) e2 fun rs p M3 F9 g3 hp e3 => ?_
  have x3:=U.ge (g2.trans g3);have Fa:=bne (U.ge g2).box hp;have F:=F9.trans hL;have Fd : 1*1<=n*m:=HH hn.1 hm.1;refine Y (B := 1) (L0:=n) (L1:=m) (L2:=n+m - 1) (by lia) (by lia) (by lia) (by lia) Z (ps:=rs.map (plP n m (n+m - 1))) ?_ ?_ ?_ x3.box Fa e3 fun qs pf M4 hq G F7 J x4 O z e4 => ?_
  ·intro u hu;obtain ⟨t,ht,rfl⟩:=Hu.mp hu;exact Ds (pR (F.mem_iff.mp ht)).2
  ·intro w;have:=congrArg LF w;rw [A0,F.length_eq,fZ,Jo] at this;lia
  ·rw [A0,F.length_eq,fZ];lia
  ·refine q qs pf M4 hq (by rw [A0,F.length_eq,fZ] at G;exact G) (fun k i j => ?_) (x3.trans x4) (x3.none O z) z e4
   rw [J,pO fun t ht=>(pR (F.mem_iff.mp ht)).1];exact r6 F
end
section
open PySem PySem.Spec PyProof.Rows L2.Srt
variable {T:List FD}
noncomputable def lwp (R c b:Nat):List Nat:=(B0 R).flatMap fun q=>(B0 c).map fun k=>q*b+k
theorem rH {R c b:Nat}:lwp R c b=(B0 (R*c)).map fun t=>t / c*b+t % c:=by
 rw [mz];unfold lwp;refine kb fun q _=>HK fun k j => ?_;rw [fh (HB.mp j),fo (HB.mp j)]
theorem zH {l:List Int} {L:Nat} (h:l.length=L):mv l (B0 L) L=l:=by
 unfold mv mvl
 conv=>rhs;rw [ie h]
 refine HK fun t j => ?_;have j:=HB.mp j;have e:l.zip (B0 L)=(B0 L).map fun i=>(gz l (i:Nat),i):=by
  have z:=pP (f:=fun i=>gz l (i:Nat)) (g:=id) (l:=B0 L);rw [QP, <- ie h] at z;exact z
 rw [e,Im];show ((B0 L).map fun i=>if i=t then gz l (i:Nat) else 0).sum=_
 rw [j4 (i0:=t) (f:=fun i=>gz l (i:Nat)) (fun i _=>Qc),if_pos j]
theorem Ep {l:List Int} {R c b L k:Nat} (h:l.length=R*c) (j:k < L):gz (mv l (lwp R c b) L) (k:Nat)=((B0 (R*c)).map fun t=>if t / c*b+t % c=k then gz l (t:Nat) else 0).sum:=by
 unfold mv mvl;rw [bH j,ie h,rH,pP, <- ie h,Im];rfl
theorem rJ {p:Nat->Prop} [DecidablePred p] {c:Int} {f g:Nat->Int}:∀ l:List Nat,(l.map fun t=>if p t then c*f t+g t else 0).sum=c*(l.map fun t=>if p t then f t else 0).sum+(l.map fun t=>if p t then g t else 0).sum
 | [] => by simp
 | t::l=>by
   simp only [Hs,NY,rJ l]
   by_cases h:p t
   ·rw [if_pos h,if_pos h,if_pos h,Kf];lia
   ·rw [if_neg h,if_neg h,if_neg h,Kf];lia
noncomputable def lwO (R c b L:Nat) (w:Pr):Pr:=(w.1,w.2.1,mv w.2.2 (lwp R c b) L)
theorem wq {R c b L k:Nat} (q:k < L) {i j:Int}:∀ {X:List Pr},(∀ w∈X,w.2.2.length=R*c)->Tn (X.map (lwO R c b L)) (k:Nat) i j=((B0 (R*c)).map fun t=>if t / c*b+t % c=k then Tn X (t:Nat) i j else 0).sum
 | [],_=>by
  simp only [JP,Tn,List.sum_nil,ite_self]
  induction B0 (R*c) with
  | nil=>rfl
  | cons _ _ ih=>rw [Hs,NY, <- ih];rfl
 | w::X,h=>by
   rw [Hs,df,wq q fun x hx=>h x (HF _ hx)];unfold lwO;dsimp only;rw [Ep (h w Ie) q, <- rJ];congr 1
theorem pT {f:Nat->Int}:∀ {l:List Nat},(∀ t∈l,f t=0)->(l.map f).sum=0
 | [],_=>rfl
 | t::l,h=>by
   rw [Hs,NY,pT fun x hx=>h x (HF _ hx),h t Ie];rfl
theorem eI {ps us:List Pr} {w:Pr} (h:w∈aT ps us):∃ u∈ps, ∃ v∈us,w=krP u v:=by
 unfold aT at h;obtain ⟨u,j,h⟩:=Ja.mp h;obtain ⟨v,q,rfl⟩:=Hu.mp h;exact ⟨u,j,v,q,rfl⟩
theorem Er {n m b:Nat} (hn : 1<=n) (hm : 1<=m) (hb : 1<=b) {ps us:List Pr} (lps:∀ u∈ps,u.1.length=n/\u.2.1.length=m/\u.2.2.length=n+m - 1) (lus:∀ u∈us,u.1.length=b/\u.2.1.length=b/\u.2.2.length=2*b - 1)
 (hp:∀ k i j,Tn ps k i j=cf (be n m) (k,i,j)) (Z:∀ k i j,Tn us k i j=cf (be b b) (k,i,j)) (k i j:Int):Tn ((aT ps us).map (lwO (n+m - 1) (2*b - 1) b ((n+m)*b - 1))) k i j=cf (be (n*b) (m*b)) (k,i,j):=by
 have lk:∀ w∈aT ps us,w.1.length=n*b/\w.2.1.length=m*b/\w.2.2.length=(n+m - 1)*(2*b - 1):=fun w hw=>by
  obtain ⟨u,Z,v,hv,rfl⟩:=eI hw;obtain ⟨a0,a1,a2⟩:=lps u Z;obtain ⟨b0,b1,b2⟩:=lus v hv;unfold krP;simp only [bR,a0,a1,a2,b0,b1,b2,and_self]
 have F1:(n+m)*b=n*b+m*b:=L8 _ _ _
 by_cases Y:(0<=k/\k < ((n+m)*b - 1:Nat))/\(0<=i/\i < (n*b:Nat))/\(0<=j/\j < (m*b:Nat))
 ·obtain ⟨⟨k0,kl⟩,⟨i0,il⟩,⟨j0,jl⟩⟩:=Y;obtain ⟨k,rfl⟩:=LI k0;obtain ⟨i,rfl⟩:=LI i0;obtain ⟨j,rfl⟩:=LI j0;have il:=Ql.mp il;have jl:=Ql.mp jl;have kl:=Ql.mp kl;obtain ⟨q,F,EX,O,rfl⟩:=zF il;obtain ⟨B,G,EY,U,rfl⟩:=zF jl;rw [wq kl fun w hw=>(lk w hw).2.2];have hc:F+G < 2*b - 1:=by lia
  have e1:∀ t:Nat,Tn (aT ps us) (t:Nat) ((q*b+F:Nat):Int) ((B*b+G:Nat):Int)=if t / (2*b - 1)=q+B/\t % (2*b - 1)=F+G then 1 else 0:=fun t=>by
   rw [zE (L0:=b) (L1:=b) (L2 := 2*b - 1) (by lia) (by lia) (by lia) lus,hp,Z, <- Lf, <- Lf, <- Lf, <- Lg, <- Lg, <- Lg,fh O,fo O,fh U,fo U,fu,fu]
   have A:∀ {x y n m:Nat} {z:Nat},x < n->y < m->(if (0<=(x:Int)/\(x:Int) < n)/\(0<=(y:Int)/\(y:Int) < m)/\(z:Int)=(x:Int)+y then (1:Int) else 0)=if z=x+y then 1 else 0:=fun {x y n m z} h1 h2=>by
    by_cases c:z=x+y
    ·rw [if_pos c,if_pos (by lia)]
    ·rw [if_neg c,if_neg (by lia)]
   rw [A EX EY,A O U]
   by_cases J:t / (2*b - 1)=q+B
   ·by_cases L:t % (2*b - 1)=F+G
    ·rw [if_pos J,if_pos L,if_pos ⟨J,L⟩];rfl
    ·simp [J,L]
   ·simp [J]
  have e2:∀ t:Nat,(if t / (2*b - 1)*b+t % (2*b - 1)=k then Tn (aT ps us) (t:Nat) ((q*b+F:Nat):Int) ((B*b+G:Nat):Int) else 0)=if k=(q+B)*b+(F+G)/\t=(q+B)*(2*b - 1)+(F+G) then 1 else 0:=fun t=>by
   rw [e1]
   by_cases J:t=(q+B)*(2*b - 1)+(F+G)
   ·have d1:t / (2*b - 1)=q+B:=by rw [J,fh hc]
    have d2:t % (2*b - 1)=F+G:=by rw [J,fo hc]
    rw [d1,d2,if_pos (c:=q+B=q+B/\_) ⟨rfl,rfl⟩]
    by_cases L:(q+B)*b+(F+G)=k
    ·rw [if_pos L,if_pos ⟨L.symm,J⟩]
    ·rw [if_neg L,if_neg (fun w=>L w.1.symm)]
   ·rw [if_neg (c:=k=_/\_) (fun w=>J w.2),if_neg (c:=_/\t % (2*b - 1)=F+G) (fun w=>J (by rw [<- w.1, <- w.2,Nat.div_add_mod']))]
    simp
  rw [HK fun t _=>e2 t,fu];have F5:(q+B)*b=q*b+B*b:=L8 _ _ _
  by_cases c:k=(q+B)*b+(F+G)
  ·rw [j4 (i0:=(q+B)*(2*b - 1)+(F+G)) (f:=fun _ => 1) (fun t _=>⟨fun w=>w.2,fun w=>⟨c,w⟩⟩),if_pos (Dn (by lia) hc),if_pos (by lia)]
  ·rw [pT (fun t _=>if_neg fun w=>c w.1),if_neg (by lia)]
 ·have hR:cf (be (n*b) (m*b)) (k,i,j)=0:=by rw [fu,if_neg (by lia)]
  rw [hR];apply Classical.byContradiction;intro hz;refine Y (pM (fun w0 EZ => ?_) hz);obtain ⟨w,hw,rfl⟩:=Hu.mp EZ;obtain ⟨a,b,_⟩:=lk w hw;exact ⟨a,b,cF⟩
theorem Es {n m b L:Nat} {ps us:List Pr} (lps:∀ u∈ps,u.1.length=n/\u.2.1.length=m/\u.2.2.length=n+m - 1) (lus:∀ u∈us,u.1.length=b/\u.2.1.length=b/\u.2.2.length=2*b - 1) :
 (aT ps us).map (mvP (B0 (n*b)) (B0 (m*b)) (lwp (n+m - 1) (2*b - 1) b) (n*b) (m*b) L)=(aT ps us).map (lwO (n+m - 1) (2*b - 1) b L):=by
 refine HK fun w hw => ?_;obtain ⟨u,j,v,q,rfl⟩:=eI hw;obtain ⟨z,a1,a2⟩:=lps u j;obtain ⟨B,b1,b2⟩:=lus v q;unfold mvP lwO krP;dsimp only;rw [zH (by rw [bR,z,B]),zH (by rw [bR,a1,b1])]
theorem zI {l x:List Int} {n b:Nat} (hb : 1<=b) (j:l.length=n) (hx:x.length=b):kr l x=(B0 (n*b)).map fun t=>gz l ((t / b:Nat):Int)*gz x ((t % b:Nat):Int):=by
 refine wp (by rw [bR,j,hx];simp) fun i hi => ?_
 rw [bR,j,hx] at hi;rw [ka hx hb,bH hi,Lf,Lg]
noncomputable def lwl (o z:List Int) (b:Nat) (q:Nat) (l:List Nat):List (Int×Nat):=l.map fun k=>(gz o (q:Nat)*gz z (k:Nat),q*b+k)
noncomputable def lws (o z:List Int) (b c:Nat) (l:List Nat):List (Int×Nat):=l.flatMap fun q=>lwl o z b q (B0 c)
theorem Du {o z:List Int} {R c b L:Nat} (B : 1<=c) (ho:o.length=R) (F:z.length=c):mv (kr o z) (lwp R c b) L=mvl (lws o z b c (B0 R)) L:=by
 unfold mv;congr 1;rw [zI B ho F,rH,pP,mz];unfold lws lwl;refine kb fun q _=>HK fun k j => ?_;rw [fh (HB.mp j),fo (HB.mp j)]
end
section
variable {T:List FD}
noncomputable def fB (y:Str) (s:Stmt) (f:Nat):FD:=⟨"_law_same",s,["_law_found",y],2,
 (.cons (.ite (.tru (.isin2 (.var 1) "list" "tuple")) (.cons (.ite (.or (.cons (.cmp .ne (.isin (.var 1) "list") (.isin (.var 0) "list")) (.cons (.cmp .ne (.isin (.var 1) "tuple") (.isin (.var 0) "tuple")) .nil))) (.cons (.ret (.bl false))
 .nil) .nil)
 (.cons (.ret (.and (.cons (.cmp .eq (.blt .len (.cons (.var 0) .nil)) (.blt .len (.cons (.var 1) .nil))) (.cons (.blt .all (.cons (.comp [none,(some 0),(some 1)] ["_law_k", "_law_found",y] (.last (.rng1 (.blt .len (.cons (.var 1) .nil))) (.name 0) .nil (.call f (.cons (.ix (.var 1) (.var 0)) (.cons (.ix (.var 2) (.var 0)) .nil))))) .nil)) .nil))))
 .nil)) .nil)
 (.cons (.ret (.and (.cons (.isin (.var 0) "int") (.cons (.not (.isin (.var 0) "bool")) (.cons (.cmp .eq (.var 0) (.var 1)) .nil)))))
 .nil))⟩
theorem zJ {M:Mem} {x d:D} {ds:List D} {i:Int} {Q:QD} (h:ar M x=some ds) (e:atI ds i=some d) (q:Q d M):wIx x (.int i) M Q:=by
 cases x with
 | ref a =>
   simp only [ar] at h
   split at h
   ·next e0=>cases h;exact bo e0 e q
   ·cases h
 | tup es=>cases h;exact ⟨i,d,rfl,e,q⟩
 | con es=>cases h;exact ⟨i,d,rfl,e,q⟩
 | _=>cases h
noncomputable def Sm (M:Mem):Nat->D->D->Prop
 | _, .int i, .int j=>i=j
 | n+1, .tup ds, .tup es=>ds.length<=100000/\ds.length=es.length /\ ∀ (k:Nat) d e,ds[k]? = some d->es[k]? = some e->Sm M n d e
 | n+1, .ref a, .ref b => ∃ ds es,M a=some (.lst ds)/\M b=some (.lst es)/\ds.length<=100000/\ds.length=es.length /\ ∀ (k:Nat) d e,ds[k]? = some d->es[k]? = some e->Sm M n d e
 | _,_,_=>False
theorem Sm.ge {M M':Mem} (g:Ge M M'):∀ {n:Nat} {x y:D},Sm M n x y->Sm M' n x y:=by
 intro n
 induction n with
 | zero=>intro x y h;cases x <;> cases y <;> first | exact h.elim | exact h
 | succ n ih =>
   intro x y h
   cases x <;> cases y <;> first
    | exact h.elim
    | (obtain ⟨ds,es,e1,e2,z,l,q⟩:=h;exact ⟨ds,es,g _ _ e1,g _ _ e2,z,l,fun k d e h1 h2=>ih (q k d e h1 h2)⟩)
    | (obtain ⟨z,l,q⟩:=h;exact ⟨z,l,fun k d e h1 h2=>ih (q k d e h1 h2)⟩)
    | exact h
theorem Sm.int {M:Mem} {n:Nat} {i:Int}:Sm M n (.int i) (.int i):=by unfold Sm;cases n <;> rfl
section
variable {f:Nat} {y:Str} {s:Stmt}
theorem pU (hf:T[f]? = some (fB y s f)) {n:Nat} (hn : 1<=n) {x:Int} {M:Mem} {Q:QD} (q:Q (.bl true) M):phi T n f [.int x, .int x] M Q:=by
 refine aF (by lia) hf rfl (ρ := [some _,some _]) rfl ?_
 unfold fB;walk_at "st";refine ⟨"int",rfl,false,rfl, ?_⟩;rw [if_neg (by decide)]
 walk_at "st";refine ⟨"int",rfl, ?_⟩;rw [if_pos (by decide)]
 refine ⟨"int",rfl, ?_⟩;rw [if_pos (by decide),beq_self_eq_true]
 exact q
theorem mH {n m:Nat} (ih:∀ {x y:D} {M:Mem} {Q:QD},Sm M n x y->(∀ M',Ge M M'->Q (.bl true) M')->phi T m f [x,y] M Q) {u v:D} {ds es:List D} {M:Mem} {N:NC} (F:ar M u=some ds) (G:ar M v=some es) (z:ds.length<=100000) (l:ds.length=es.length)
 (h:∀ (k:Nat) d e,ds[k]? = some d->es[k]? = some e->Sm M n d e) (q:∀ ρ M',Ge M M'->N ρ M' (es.map fun _ => .bl true)) :
 bK (aQ 0) (ci (wAr (phi T m f) (ax (wOp wIx (bu 1) (bu 0)) (ax (wOp wIx (bu 2) (bu 0)) bv)))) (fun _=>True) N (cK 0 (es.length:Int).toNat) [none,some u,some v] M []:=by
 refine au (f:=fun i=>D.int (i:Nat)) (I:=fun l ρ M' acc=>(∃ o0, ρ = [o0,some u,some v])/\Ge M M'/\acc=l.map fun _ => .bl true) aA ⟨⟨_,rfl⟩,Ge.refl,rfl⟩ (fun _ _ _ _ _=>trivial) ?_ ?_
 ·rintro l' i r ρ M1 acc e ⟨⟨o0,rfl⟩,g,rfl⟩;refine ⟨_,rfl,fun N' j => ?_⟩;have B:=am e;rw [HD] at B;have hi:i < es.length:=by
   have:i∈B0 (es.length:Int).toNat:=by rw [e];simp
   have:=HB.mp this;lia
  walk_at "wp";have h1:ds[i]? = some ds[i]:=A2 (by lia)
  have h2:es[i]? = some es[i]:=A2 hi;refine zJ (r0 F g) (dU h1) (zJ (r0 G g) (dU h2) (ih ((h i _ _ h1 h2).ge g) fun M2 g2 => ?_));refine ⟨by rw [A0,B2];lia,j _ _ _ ⟨⟨_,rfl⟩,g.trans g2,by simp⟩⟩
 ·rintro ρ M1 acc ⟨⟨o0,rfl⟩,g,rfl⟩;have e:(B0 (es.length:Int).toNat).map (fun _=>D.bl true)=es.map fun _ => .bl true:=by
   rw [OJ,OJ];simp
  rw [e];exact q _ M1 g
theorem pV:∀ es:List D,aN oo (es.map fun _ => .bl true)=some (es.map fun _=>true)
 | [] => rfl
 | e::es=>by rw [Hs,Hs];simp only [aN,oo,pV es];rfl
theorem pW {es:List D} {p:Addr} {M:Mem} {Q:QD} (q:Q (.bl true) (ah M p (.lst (es.map fun _ => .bl true)))):sF [.ref p] (ah M p (.lst (es.map fun _ => .bl true))) Q:=by
 refine ⟨_,_,es.map (fun _=>true),rfl,ag ad,pV es, ?_⟩;rw [show ((es.map fun _=>true).all id)=true by simp]
 exact q
theorem By (hf:T[f]? = some (fB y s f)):∀ {n m:Nat},n+1<=m -> ∀ {u v:D} {M:Mem} {Q:QD},Sm M n u v->(∀ M',Ge M M'->Q (.bl true) M')->phi T m f [u,v] M Q:=by
 intro n
 induction n with
 | zero =>
   intro m hm u v M Q h q
   cases u <;> cases v <;> first
    | exact h.elim
    | (have e:=h;unfold Sm at e;subst e;exact pU hf (by lia) (q _ Ge.refl))
 | succ n ih =>
   intro m hm u v M Q h q
   cases u <;> cases v <;> first
    | exact h.elim
    | (have e:=h;unfold Sm at e;subst e;exact pU hf (by lia) (q _ Ge.refl))
    | skip
   case tup.tup ds es =>
    obtain ⟨z,l,h⟩:=h;refine aF (by lia) hf rfl (ρ := [some _,some _]) rfl ?_
    unfold fB;walk_at "st";refine ⟨"tuple",rfl,true,rfl, ?_⟩;rw [if_pos rfl];walk_at "st";refine ⟨"tuple",rfl, "tuple",rfl,_,_,rfl,rfl,false,rfl, ?_⟩;rw [if_neg (by decide)]
    refine ⟨"tuple",rfl, "tuple",rfl,_,_,rfl,rfl,false,rfl, ?_⟩;rw [if_neg (by decide)]
    walk_at "st";rw [if_pos (by simp [l])]
    refine ⟨by lia,by lia, ?_⟩
    exact mH (ih (m:=m - 1) (by lia)) rfl rfl z l h fun ρ M' g p hp=>pW (q _ (g.trans (Ge.new hp)))
   case ref.ref a b =>
    obtain ⟨ds,es,e1,e2,z,l,h⟩:=h;refine aF (by lia) hf rfl (ρ := [some _,some _]) rfl ?_
    unfold fB;have t1:tyN M (.ref a)=some "list" := by simp [tyN,e1]
    have j:tyN M (.ref b)=some "list" := by simp [tyN,e2]
    walk_at "st";refine ⟨"list",j,true,rfl, ?_⟩;rw [if_pos rfl];walk_at "st";refine ⟨"list",j, "list",t1,_,_,rfl,rfl,false,rfl, ?_⟩;rw [if_neg (by decide)]
    refine ⟨"list",j, "list",t1,_,_,rfl,rfl,false,rfl, ?_⟩;rw [if_neg (by decide)]
    walk_at "st";refine kP (ag e1) (kP (ag e2) ?_);walk_at "wp";rw [if_pos (by simp [l])]
    refine kP (ag e2) ?_;refine ⟨_,rfl,by lia,by lia, ?_⟩
    exact mH (ih (m:=m - 1) (by lia)) (ag e1) (ag e2) z l h fun ρ M' g p hp=>pW (q _ (g.trans (Ge.new hp)))
end
end
section
open PySem PySem.Spec PyProof.Rows L2.Srt
theorem gI {M:Mem} {n:Nat} {l:List Int} (j:l.length<=100000):Sm M (n+1) (.tup (l.map .int)) (.tup (l.map .int)):=by
 refine ⟨by rw [A0];exact j,rfl,fun k d e h1 h2 => ?_⟩
 rw [h1] at h2;cases h2;rw [HC] at h1;obtain ⟨i,_,rfl⟩:=KA.mp h1;exact Sm.int
theorem Bz {M:Mem} {p:Pr} (h:p.1.length<=100000/\p.2.1.length<=100000/\p.2.2.length<=100000):Sm M 2 (prD p) (prD p):=by
 refine ⟨by simp,rfl,fun k d e h1 h2 => ?_⟩
 rw [h1] at h2;cases h2;have hm:=HN h1;simp only [Hg,HE,or_false] at hm
 rcases hm with rfl | rfl | rfl
 ·exact gI h.1
 ·exact gI h.2.1
 ·exact gI h.2.2
theorem BA {M:Mem} {x y z:Int} {a b:Addr} {qs:List Pr} (j:qs.length<=100000) (q:M a=some (.lst (qs.map prD))) (hb:M b=some (.lst (qs.map prD))) (h:∀ p∈qs,p.1.length<=100000/\p.2.1.length<=100000/\p.2.2.length<=100000) :
 Sm M 4 (.tup [.int x, .int y, .int z, .ref a]) (.tup [.int x, .int y, .int z, .ref b]):=by
 refine ⟨by simp,rfl,fun k d e h1 h2 => ?_⟩
 have:k=0∨k=1∨k=2∨k=3:=by
  have:=(Hx.mp h1).1;simp at this;lia
 rcases this with rfl | rfl | rfl | rfl
 ·cases h1;cases h2;exact Sm.int
 ·cases h1;cases h2;exact Sm.int
 ·cases h1;cases h2;exact Sm.int
 ·cases h1;cases h2
  refine ⟨_,_,q,hb,by rw [A0];exact j,rfl,fun k d e h1 h2 => ?_⟩
  rw [h1] at h2;cases h2;rw [HC] at h1;obtain ⟨p,B,rfl⟩:=KA.mp h1;exact Bz (h p (HN B))
theorem Dv:∀ ns:List Int,Kn (ns.map .int) (ns.map .int)=true
 | [] => rfl
 | n::ns=>by simp [Kn,IP,Dv ns]
theorem Dw:∀ ps:List Pr,Kn (ps.map cQ) (ps.map cQ)=true
 | [] => rfl
 | p::ps=>by simp [Kn,IP,Dw ps,cQ,Dv]
theorem pX {a b c:Nat}:∀ {ps:List Pr},(∀ p∈ps,p.1.length<=a/\p.2.1.length<=b/\p.2.2.length<=c)->(ba ps).length<=ps.length*(a*(b*c))
 | [],_=>by simp [ba]
 | p::ps,h=>by
   rw [show ba (p::ps)=eS p++ba ps by simp [ba],A1,HS,J2]
   have h1:=pX (ps:=ps) fun q j=>h q (by simp [j])
   obtain ⟨x,y,z⟩:=h p (by simp)
   have h2:(eS p).length<=a*(b*c):=by
    unfold eS;rw [iX];have:=pF (l:=p.1);have:=pF (l:=p.2.1);have:=pF (l:=p.2.2);exact HH (by lia) (HH (by lia) (by lia))
   lia
theorem rK {L:List Tm}:∀ kv∈L.map kcD, ∃ i,kv.2 = .int i:=fun kv h=>by
 obtain ⟨t,_,rfl⟩:=Hu.mp h;exact ⟨t.2,rfl⟩
end
section
namespace K18
noncomputable def ao (i:Nat):Stmt:=PySem.Challenge.pw_fewtimes_k18_lines_within.main.body.getD i (.Pass ⟨0,0,0,0⟩)
noncomputable def d0:FD:=tK (ao 1)
noncomputable def d1:FD:=j3 (ao 2) 0
noncomputable def d2:FD:=kT (ao 3)
noncomputable def d3:FD:=yJ (ao 4) 2
noncomputable def b4:MSs :=
 (.cons (.asg (.name 5) (.comp [none,none,(some 4)] ["block", "k", "b"] (.more (.rng1 (.bin .sub (.bin .add (.var 1) (.var 2)) (.int 1))) (.name 0) .nil (.last (.rng1 (.bin .sub (.bin .mul (.int 2) (.var 2)) (.int 1))) (.name 1) .nil (.bin .add (.bin .mul (.var 0) (.var 2)) (.var 1))))))
 (.cons (.asg (.name 6) (.lst (.cons (.lrng (.bin .mul (.var 1) (.var 4))) (.cons (.lrng (.bin .mul (.var 2) (.var 4))) (.cons (.var 5) .nil)))))
 (.cons (.asg (.name 7) (.tup (.cons (.bin .mul (.var 1) (.var 4)) (.cons (.bin .mul (.var 2) (.var 4)) (.cons (.bin .sub (.bin .mul (.bin .add (.var 1) (.var 2)) (.var 4)) (.int 1)) .nil)))))
 (.cons (.ret (.bin .add (.var 7) (.tup (.cons (.call 3 (.cons (.ix (.call 1 (.cons (.var 0) (.cons (.var 3) .nil))) (.int 3)) (.cons (.var 6) (.cons (.var 7) .nil)))) .nil))))
 .nil))))
noncomputable def d4:FD:=⟨"lines_within",ao 5,["outer", "n", "m", "inner", "b", "told", "places", "lengths"],5,b4⟩
noncomputable def d5:FD:=jU (ao 7)
noncomputable def b6:MSs :=
 (.cons (.asg (.name 2) (.bin .mod (.bin .mul (.bin .add (.bin .add (.bin .mod (.var 0) (.int 1000000007)) (.bin .mul (.int 7) (.var 1))) (.int 1)) (.int 48271)) (.int 2147483647)))
 (.cons (.asg (.name 3) (.bin .mod (.bin .mul (.var 2) (.bin .add (.bin .add (.bin .mod (.var 2) (.int 1009)) (.var 1)) (.int 3))) (.int 998244353)))
 (.cons (.ret (.bin .fdiv (.bin .mod (.bin .add (.bin .mul (.var 3) (.int 39373)) (.var 2)) (.int 2147483629)) (.int 64)))
 .nil)))
noncomputable def d6:FD:=⟨"_law_mixed",ao 8,["_law_number", "_law_k", "_law_once", "_law_twice"],2,b6⟩
noncomputable def d7:FD:=tu (ao 9) 5 6
noncomputable def d8:FD:=pj (ao 10) 6
noncomputable def d9:FD:=fB "_law_due_here" (ao 11) 9
noncomputable def d10:FD:=gF "_law_part" "_law_number" (ao 12)
noncomputable def d11:FD:=pI "_law_scheme" (ao 13) 10
noncomputable def d12:FD:=iY (ao 14)
noncomputable def d13:FD:=gG .sortk "_law_number" (ao 15) 12
noncomputable def d14:FD:=kR "_law_part" "_law_number" (ao 16)
noncomputable def d15:FD:=gH (ao 17) 8 14
noncomputable def d16:FD:=kU (ao 18)
noncomputable def d17:FD:=kX (ao 19) 12
noncomputable def d18:FD:=kZ (ao 20) 8 15 17 13 16
noncomputable def b19:MSs :=
 (.cons (.asg (.name 5) (.lst .nil))
 (.cons (.for (.tup (.cons (.name 6) (.cons (.name 7) (.cons (.name 8) .nil)))) (.seq (.ix (.var 0) (.int 3))) (.cons (.for (.tup (.cons (.name 9) (.cons (.name 10) (.cons (.name 11) .nil)))) (.seq (.ix (.var 3) (.int 3))) (.cons (.asg (.name 12) (.bin .mul (.lst (.cons (.int 0) .nil)) (.bin .sub (.bin .add (.bin .mul (.var 1) (.var 4)) (.bin .mul (.var 2) (.var 4))) (.int 1))))
 (.cons (.for (.name 13) (.rng1 (.bin .sub (.bin .add (.var 1) (.var 2)) (.int 1))) (.cons (.for (.name 14) (.rng1 (.bin .sub (.bin .mul (.int 2) (.var 4)) (.int 1))) (.cons (.asg (.name 15) (.bin .add (.bin .mul (.var 13) (.var 4)) (.var 14)))
 (.cons (.put (.var 12) (.var 15) (.bin .add (.ix (.var 12) (.var 15)) (.bin .mul (.ix (.var 8) (.var 13)) (.ix (.var 11) (.var 14)))))
 .nil)))
 .nil))
 (.cons (.asg (.name 16) (.blt .tuple (.cons (.comp [none,(some 6),(some 4),(some 9)] ["_law_at", "_law_l", "_law_b", "_law_x"] (.last (.rng1 (.bin .mul (.var 1) (.var 4))) (.name 0) .nil (.bin .mul (.ix (.var 1) (.bin .fdiv (.var 0) (.var 2))) (.ix (.var 3) (.bin .mod (.var 0) (.var 2)))))) .nil)))
 (.cons (.asg (.name 17) (.blt .tuple (.cons (.comp [none,(some 7),(some 4),(some 10)] ["_law_at", "_law_r", "_law_b", "_law_y"] (.last (.rng1 (.bin .mul (.var 2) (.var 4))) (.name 0) .nil (.bin .mul (.ix (.var 1) (.bin .fdiv (.var 0) (.var 2))) (.ix (.var 3) (.bin .mod (.var 0) (.var 2)))))) .nil)))
 (.cons (.drop (.meth .append (.var 5) (.tup (.cons (.var 16) (.cons (.var 17) (.cons (.blt .tuple (.cons (.var 12) .nil)) .nil))))))
 .nil))))))
 .nil))
 (.cons (.ret (.tup (.cons (.bin .mul (.var 1) (.var 4)) (.cons (.bin .mul (.var 2) (.var 4)) (.cons (.bin .sub (.bin .add (.bin .mul (.var 1) (.var 4)) (.bin .mul (.var 2) (.var 4))) (.int 1)) (.cons (.var 5) .nil))))))
 .nil)))
noncomputable def d19:FD:=⟨"_law_due",ao 21,["_law_outer", "_law_n", "_law_m", "_law_inner", "_law_b", "_law_found", "_law_l", "_law_r", "_law_o", "_law_x", "_law_y", "_law_z", "_law_told", "_law_block", "_law_place", "_law_at", "_law_left", "_law_right"],5,b19⟩
noncomputable def b20:MSs :=
 (.cons (.for (.name 1) (.rng1 (.bin .add (.int 1) (.blt .min2 (.cons (.int 9) (.cons (.blt .len (.cons (.var 0) .nil)) .nil))))) (.cons (.asg (.name 2) (.call 7 (.cons (.var 0) (.cons (.var 1) .nil))))
 (.cons (.par3 3 4 5 (.bin .add (.int 1) (.call 8 (.cons (.var 2) (.cons (.int 4) .nil)))) (.bin .add (.int 1) (.call 8 (.cons (.var 2) (.cons (.int 4) .nil)))) (.bin .add (.int 1) (.call 8 (.cons (.var 2) (.cons (.int 5) .nil)))))
 (.cons (.ite (.cmp .eq (.call 8 (.cons (.var 2) (.cons (.int 8) .nil))) (.int 0)) (.cons (.par3 3 4 5 (.bin .add (.int 1) (.call 8 (.cons (.var 2) (.cons (.int 2) .nil)))) (.bin .add (.int 1) (.call 8 (.cons (.var 2) (.cons (.int 2) .nil)))) (.bin .add (.int 8) (.call 8 (.cons (.var 2) (.cons (.int 3) .nil)))))
 .nil) .nil)
 (.cons (.asg (.name 6) (.call 18 (.cons (.var 2) (.cons (.var 3) (.cons (.var 4) (.cons (.int 2) .nil))))))
 (.cons (.asg (.name 7) (.call 18 (.cons (.var 2) (.cons (.var 5) (.cons (.var 5) (.cons (.ix (.lst (.cons (.int 2) (.cons (.int 0) .nil))) (.blt .int (.cons (.or (.cons (.cmp .gt (.var 5) (.int 5)) (.cons (.cmp .gt (.bin .mul (.var 3) (.var 4)) (.int 9)) .nil))) .nil))) .nil))))))
 (.cons (.ite (.cmp .gt (.bin .mul (.blt .len (.cons (.ix (.var 6) (.int 3)) .nil)) (.blt .len (.cons (.ix (.var 7) (.int 3)) .nil))) (.int 400)) (.cons (.asg (.name 7) (.tup (.cons (.var 5) (.cons (.var 5) (.cons (.bin .sub (.bin .mul (.int 2) (.var 5)) (.int 1)) (.cons (.call 17 (.cons (.var 5) .nil)) .nil))))))
 .nil) .nil)
 (.cons (.asg (.name 8) (.lst (.cons (.blt .list (.cons (.ix (.var 6) (.int 3)) .nil)) (.cons (.blt .list (.cons (.ix (.var 7) (.int 3)) .nil)) .nil))))
 (.cons (.asg (.name 9) (.call 19 (.cons (.var 6) (.cons (.var 3) (.cons (.var 4) (.cons (.var 7) (.cons (.var 5) .nil)))))))
 (.cons (.for (.name 10) (.rng1 (.int 2)) (.cons (.asg (.name 11) (.call 4 (.cons (.var 6) (.cons (.var 3) (.cons (.var 4) (.cons (.var 7) (.cons (.var 5) .nil)))))))
 (.cons (.ite (.not (.tru (.call 9 (.cons (.var 11) (.cons (.var 9) .nil))))) (.cons (.ret (.bl false))
 .nil) .nil)
 (.cons (.drop (.meth0 .clear (.ix (.var 11) (.int 3))))
 .nil))))
 (.cons (.ite (.or (.cons (.cmp .neD (.call 11 (.cons (.var 9) .nil)) (.call 16 (.cons (.bin .mul (.var 3) (.var 5)) (.cons (.bin .mul (.var 4) (.var 5)) .nil)))) (.cons (.cmp .ne (.lst (.cons (.ix (.var 6) (.int 3)) (.cons (.ix (.var 7) (.int 3)) .nil))) (.var 8)) .nil))) (.cons (.ret (.bl false))
 .nil) .nil)
 .nil)))))))))))
 (.cons (.ret (.bl true))
 .nil))
noncomputable def d20:FD:=⟨"law",ao 22,["_law_script", "_law_k", "_law_box_here", "_law_n", "_law_m", "_law_b", "_law_outer", "_law_inner", "_law_kept", "_law_due_here", "_law_turn", "_law_found"],1,b20⟩
noncomputable def tab:List FD := [d0,d1,d2,d3,d4,d5,d6,d7,d8,d9,d10,d11,d12,d13,d14,d15,d16,d17,d18,d19,d20]
noncomputable def pY:List (Str×D) := []
theorem zK (us:List h6) (h:us.length=5):∃ a b c d e,us=[a,b,c,d,e]:=by
 cases us with
 | nil=>cases h
 | cons a us=>obtain ⟨b,c,d,e,rfl⟩:=tj us (Rk.inj h);exact ⟨a,b,c,d,e,rfl⟩
end K18
end
section
namespace K18
theorem Dx:∀ d∈tab,t9 (tab.map (·.name)) pY d=true:=by decide +kernel
noncomputable abbrev PA (K:Frag) (x:Str) (f:Addr):Prop:=PySem.W.nsIn K Jk x=some (some (.ref f))
noncomputable abbrev PL (K:Frag) (f:Addr) (x:Str) (s:Stmt) (oc:h6) (od:Option Addr) (kV dc pm:h6) (an:Option Addr) (cd ct:h6) (sl:Array (Option h6)):Prop:=K.lookup f=some ⟨oc,od, .func (Kz x x (dO s) (cb s) (aB s) .none kV dc pm an cd ct),sl⟩
noncomputable abbrev PC (K:Frag) (c:h6) (x:Str):Prop:=Nl K c x=true
noncomputable abbrev PK (K:Frag) (f:Addr):Prop:=L4 K (.ref f)=true
theorem all_mk {l:OC} {w:Ic} {K:Frag} {h:Heap} {mg:Str->Option h6} {fa:Addr} (X:K.In h) (G:h.Ns Jk mg) (hfa:mg "law" = some (.ref fa)) (z:∀ x∈bltNames,PySem.W.nsIn K Jk x=some none)
 (a0:PA K "product_within" f0) (l0:PL K f0 "product_within" (ao 1) oc0 od0 kV0 dc0 pm0 an0 cd0 ct0 sl0) (c0:PC K cd0 "product_within") (k0:PK K f0)
 (a1:PA K "within" f1) (l1:PL K f1 "within" (ao 2) oc1 od1 kV1 dc1 pm1 an1 cd1 ct1 sl1) (c1:PC K cd1 "within") (k1:PK K f1)
 (a2:PA K "moved" f2) (l2:PL K f2 "moved" (ao 3) oc2 od2 kV2 dc2 pm2 an2 cd2 ct2 sl2) (c2:PC K cd2 "moved") (k2:PK K f2)
 (a3:PA K "products_moved" f3) (l3:PL K f3 "products_moved" (ao 4) oc3 od3 kV3 dc3 pm3 an3 cd3 ct3 sl3) (c3:PC K cd3 "products_moved") (k3:PK K f3)
 (a4:PA K "lines_within" f4) (l4:PL K f4 "lines_within" (ao 5) oc4 od4 kV4 dc4 pm4 an4 cd4 ct4 sl4) (c4:PC K cd4 "lines_within") (k4:PK K f4)
 (a5:PA K "_law_cell_at" f5) (l5:PL K f5 "_law_cell_at" (ao 7) oc5 od5 kV5 dc5 pm5 an5 cd5 ct5 sl5) (c5:PC K cd5 "_law_cell_at") (k5:PK K f5)
 (a6:PA K "_law_mixed" f6) (l6:PL K f6 "_law_mixed" (ao 8) oc6 od6 kV6 dc6 pm6 an6 cd6 ct6 sl6) (c6:PC K cd6 "_law_mixed") (k6:PK K f6)
 (a7:PA K "_law_box" f7) (l7:PL K f7 "_law_box" (ao 9) oc7 od7 kV7 dc7 pm7 an7 cd7 ct7 sl7) (c7:PC K cd7 "_law_box") (k7:PK K f7)
 (a8:PA K "_law_take" f8) (l8:PL K f8 "_law_take" (ao 10) oc8 od8 kV8 dc8 pm8 an8 cd8 ct8 sl8) (c8:PC K cd8 "_law_take") (k8:PK K f8)
 (a9:PA K "_law_same" f9) (l9:PL K f9 "_law_same" (ao 11) oc9 od9 kV9 dc9 pm9 an9 cd9 ct9 sl9) (c9:PC K cd9 "_law_same") (k9:PK K f9)
 (a10:PA K "_law_nonzero" f10) (l10:PL K f10 "_law_nonzero" (ao 12) oc10 od10 kV10 dc10 pm10 an10 cd10 ct10 sl10) (c10:PC K cd10 "_law_nonzero") (k10:PK K f10)
 (a11:PA K "_law_sums" f11) (l11:PL K f11 "_law_sums" (ao 13) oc11 od11 kV11 dc11 pm11 an11 cd11 ct11 sl11) (c11:PC K cd11 "_law_sums") (k11:PK K f11)
 (a12:PA K "_law_single" f12) (l12:PL K f12 "_law_single" (ao 14) oc12 od12 kV12 dc12 pm12 an12 cd12 ct12 sl12) (c12:PC K cd12 "_law_single") (k12:PK K f12)
 (a13:PA K "_law_plainly" f13) (l13:PL K f13 "_law_plainly" (ao 15) oc13 od13 kV13 dc13 pm13 an13 cd13 ct13 sl13) (c13:PC K cd13 "_law_plainly") (k13:PK K f13)
 (a14:PA K "_law_turned_about" f14) (l14:PL K f14 "_law_turned_about" (ao 16) oc14 od14 kV14 dc14 pm14 an14 cd14 ct14 sl14) (c14:PC K cd14 "_law_turned_about") (k14:PK K f14)
 (a15:PA K "_law_dressed" f15) (l15:PL K f15 "_law_dressed" (ao 17) oc15 od15 kV15 dc15 pm15 an15 cd15 ct15 sl15) (c15:PC K cd15 "_law_dressed") (k15:PK K f15)
 (a16:PA K "_law_line_sums" f16) (l16:PL K f16 "_law_line_sums" (ao 18) oc16 od16 kV16 dc16 pm16 an16 cd16 ct16 sl16) (c16:PC K cd16 "_law_line_sums") (k16:PK K f16)
 (a17:PA K "_law_pairs_products" f17) (l17:PL K f17 "_law_pairs_products" (ao 19) oc17 od17 kV17 dc17 pm17 an17 cd17 ct17 sl17) (c17:PC K cd17 "_law_pairs_products") (k17:PK K f17)
 (a18:PA K "_law_line" f18) (l18:PL K f18 "_law_line" (ao 20) oc18 od18 kV18 dc18 pm18 an18 cd18 ct18 sl18) (c18:PC K cd18 "_law_line") (k18:PK K f18)
 (a19:PA K "_law_due" f19) (l19:PL K f19 "_law_due" (ao 21) oc19 od19 kV19 dc19 pm19 an19 cd19 ct19 sl19) (c19:PC K cd19 "_law_due") (k19:PK K f19)
 (a20:PA K "law" f20) (l20:PL K f20 "law" (ao 22) oc20 od20 kV20 dc20 pm20 an20 cd20 ct20 sl20) (c20:PC K cd20 "law") (k20:PK K f20)
 : ∃ fd:L3,(∀ (s:z4) (v:h6),Q5 s fd ⟨[v],[]⟩ [("_law_script",v)]) /\ ∀ base:Heap,K.In base->base.Ns Jk mg->dY l.prog w K mg base CX0 40 fa fd ["_law_script"] (lSp K (phi tab 40 20)):=by
 have e:=hfa.symm.trans (I9 X G a20)
 cases e
 have O:zw K mg tab pY:=by
  refine ⟨fun x hx=>PySem.W.mg_none_of X G (z x hx), ?_,Dx, ?_⟩
  ·intro i d hd
   match i,hd with
   | 0,hd=>cases hd;exact ⟨_,_,al l0 c0 k0,I9 X G a0,(al l0 c0 k0).binds fun _ _ _ _ _ _ us hl=>by obtain ⟨u0,u1,rfl⟩:=cP us hl;rfl⟩
   | 1,hd=>cases hd;exact ⟨_,_,al l1 c1 k1,I9 X G a1,(al l1 c1 k1).binds fun _ _ _ _ _ _ us hl=>by obtain ⟨u0,u1,rfl⟩:=cP us hl;rfl⟩
   | 2,hd=>cases hd;exact ⟨_,_,al l2 c2 k2,I9 X G a2,(al l2 c2 k2).binds fun _ _ _ _ _ _ us hl=>by obtain ⟨u0,u1,u2,rfl⟩:=tf us hl;rfl⟩
   | 3,hd=>cases hd;exact ⟨_,_,al l3 c3 k3,I9 X G a3,(al l3 c3 k3).binds fun _ _ _ _ _ _ us hl=>by obtain ⟨u0,u1,u2,rfl⟩:=tf us hl;rfl⟩
   | 4,hd=>cases hd;exact ⟨_,_,al l4 c4 k4,I9 X G a4,(al l4 c4 k4).binds fun _ _ _ _ _ _ us hl=>by obtain ⟨u0,u1,u2,u3,u4,rfl⟩:=zK us hl;rfl⟩
   | 5,hd=>cases hd;exact ⟨_,_,al l5 c5 k5,I9 X G a5,(al l5 c5 k5).binds fun _ _ _ _ _ _ us hl=>by obtain ⟨u0,u1,rfl⟩:=cP us hl;rfl⟩
   | 6,hd=>cases hd;exact ⟨_,_,al l6 c6 k6,I9 X G a6,(al l6 c6 k6).binds fun _ _ _ _ _ _ us hl=>by obtain ⟨u0,u1,rfl⟩:=cP us hl;rfl⟩
   | 7,hd=>cases hd;exact ⟨_,_,al l7 c7 k7,I9 X G a7,(al l7 c7 k7).binds fun _ _ _ _ _ _ us hl=>by obtain ⟨u0,u1,rfl⟩:=cP us hl;rfl⟩
   | 8,hd=>cases hd;exact ⟨_,_,al l8 c8 k8,I9 X G a8,(al l8 c8 k8).binds fun _ _ _ _ _ _ us hl=>by obtain ⟨u0,u1,rfl⟩:=cP us hl;rfl⟩
   | 9,hd=>cases hd;exact ⟨_,_,al l9 c9 k9,I9 X G a9,(al l9 c9 k9).binds fun _ _ _ _ _ _ us hl=>by obtain ⟨u0,u1,rfl⟩:=cP us hl;rfl⟩
   | 10,hd=>cases hd;exact ⟨_,_,al l10 c10 k10,I9 X G a10,(al l10 c10 k10).binds fun _ _ _ _ _ _ us hl=>by obtain ⟨u0,rfl⟩:=i6 us hl;rfl⟩
   | 11,hd=>cases hd;exact ⟨_,_,al l11 c11 k11,I9 X G a11,(al l11 c11 k11).binds fun _ _ _ _ _ _ us hl=>by obtain ⟨u0,rfl⟩:=i6 us hl;rfl⟩
   | 12,hd=>cases hd;exact ⟨_,_,al l12 c12 k12,I9 X G a12,(al l12 c12 k12).binds fun _ _ _ _ _ _ us hl=>by obtain ⟨u0,u1,rfl⟩:=cP us hl;rfl⟩
   | 13,hd=>cases hd;exact ⟨_,_,al l13 c13 k13,I9 X G a13,(al l13 c13 k13).binds fun _ _ _ _ _ _ us hl=>by obtain ⟨u0,u1,rfl⟩:=cP us hl;rfl⟩
   | 14,hd=>cases hd;exact ⟨_,_,al l14 c14 k14,I9 X G a14,(al l14 c14 k14).binds fun _ _ _ _ _ _ us hl=>by obtain ⟨u0,rfl⟩:=i6 us hl;rfl⟩
   | 15,hd=>cases hd;exact ⟨_,_,al l15 c15 k15,I9 X G a15,(al l15 c15 k15).binds fun _ _ _ _ _ _ us hl=>by obtain ⟨u0,u1,u2,u3,rfl⟩:=tj us hl;rfl⟩
   | 16,hd=>cases hd;exact ⟨_,_,al l16 c16 k16,I9 X G a16,(al l16 c16 k16).binds fun _ _ _ _ _ _ us hl=>by obtain ⟨u0,u1,rfl⟩:=cP us hl;rfl⟩
   | 17,hd=>cases hd;exact ⟨_,_,al l17 c17 k17,I9 X G a17,(al l17 c17 k17).binds fun _ _ _ _ _ _ us hl=>by obtain ⟨u0,rfl⟩:=i6 us hl;rfl⟩
   | 18,hd=>cases hd;exact ⟨_,_,al l18 c18 k18,I9 X G a18,(al l18 c18 k18).binds fun _ _ _ _ _ _ us hl=>by obtain ⟨u0,u1,u2,u3,rfl⟩:=tj us hl;rfl⟩
   | 19,hd=>cases hd;exact ⟨_,_,al l19 c19 k19,I9 X G a19,(al l19 c19 k19).binds fun _ _ _ _ _ _ us hl=>by obtain ⟨u0,u1,u2,u3,u4,rfl⟩:=zK us hl;rfl⟩
   | 20,hd=>cases hd;exact ⟨_,_,al l20 c20 k20,I9 X G a20,(al l20 c20 k20).binds fun _ _ _ _ _ _ us hl=>by obtain ⟨u0,rfl⟩:=i6 us hl;rfl⟩
   | i+21,hd=>simp [tab] at hd
  ·intro x i hx;simp only [pY,Hg,HE,or_false,MJ] at hx
 refine ⟨Kz "law" "law" (dO (ao 22)) (cb (ao 22)) (aB (ao 22)) .none kV20 dc20 pm20 an20 cd20 ct20,fun s v => .of_eq rfl,fun base _ _ => ?_⟩;exact vM O 40 20 d20 _ _ rfl (al l20 c20 k20)
theorem walk {l:OC} {q:HI} {loose:List Str} {XP:(Str->Option h6)->Heap->Prop} {YP:Ic->Heap->Prop} {d:DefRec} {K:Params->Frag} (hn:l.most=some 63) (hdf:d.params.defaults=[])
 (hlaw:∀ ns:List Int,ns.length<=63->phi tab 40 20 [.con (ns.map D.int)] (fun _=>none) fun d _=>d = .bl true)
 (hY:∀ (w:Ic) (h:Heap),YP w h->(K w.params).In h)
 (F:∀ (w:Ic) (mg:Str->Option h6) (fa:Addr) (h:Heap),(K w.params).In h->h.Ns Jk mg->mg d.name=some (.ref fa) ->
   ∃ fd:L3,(∀ (s:z4) (u:h6),Q5 s fd ⟨[u],[]⟩ [("_law_script",u)]) /\ ∀ base:Heap,(K w.params).In base->base.Ns Jk mg->dY l.prog w (K w.params) mg base CX0 40 fa fd ["_law_script"] (lSp (K w.params) (phi tab 40 20))) :
 PySem.W.WalkO q loose XP YP l.row.toRowW d [] (fun f vs=>R9 f vs) :=
 L2.walk_of (n := 63) (k := 40) (x := "_law_script") (CX:=fun _=>CX0) (sp:=fun w=>lSp (K w.params) (phi tab 40 20)) hn (by decide) hdf ⟨rfl,by decide,by decide⟩ hY F (fun w H a ns hl hO hS=>Dc hO hS (hlaw ns hl)) fun _ _ _ _ _ z=>z
end K18
end
section
namespace K18
open PySem PySem.Spec PyProof.Rows L2.Srt
theorem rL {n:Nat} (hn : 1<=n):tw tab n 6:=w6 (x := "_law_number") (s:=ao 8) rfl hn
theorem bB {n:Nat} (hn : 2<=n):jV tab n 8:=fun hb h1 h2 q=>Bf (s:=ao 10) (fm := 6) rfl (rL (by lia)) hn hb h1 h2 q
theorem yN {n m:Nat} (hn:n+1<=m) {u v:D} {M:Mem} {Q:QD} (h:Sm M n u v) (q:∀ M',Ge M M'->Q (.bl true) M'):phi tab m 9 [u,v] M Q:=By (s:=ao 11) (y := "_law_due_here") rfl hn h q
theorem Dy {n:Nat} (hn : 1<=n):Do tab n 10:=fun j q=>tF (s:=ao 12) (xp := "_law_part") (xn := "_law_number") rfl hn j q
theorem yO {n:Nat} (hn : 2<=n) {x0 j z:D} {p:Addr} {ps:List Pr} {M:Mem} {Q:QD} (B:M p=some (.lst (ps.map prD))) (F:(ba ps).length<=10000000) (G:∀ p∈ps,Dp p)
 (q:∀ (L:List Tm) d M',zC ps L->L.length<=10000000->Ge M M'->M d=none->M' d=some (.dct true (L.map kcD))->Q (.ref d) M'):phi tab n 11 [.tup [x0,j,z, .ref p]] M Q:=Bk (s:=ao 13) (xs := "_law_scheme") (fz := 10) rfl (Dy (by lia)) (by lia) B F G q
theorem kc {n:Nat} (hn : 1<=n):iZ tab n 12:=fun j q=>wf (s:=ao 14) rfl hn j q
theorem iw {n:Nat} (hn : 2<=n):mG tab 1000000 n 13:=fun a b c _ h1 h2 j _ _ _ z q=>tI EV (s:=ao 15) (y := "_law_number") (fs := 12) rfl (kc (by lia)) (by lia) a b c h1 h2 j z q
theorem wt {n:Nat} (hn : 1<=n):rC tab n 14:=fun j q=>yH (s:=ao 16) (x := "_law_part") (y := "_law_number") rfl hn j q
theorem iy {n:Nat} (hn : 3<=n):mF tab n 15:=fun a b c d e _ f g h _ _ _ _ _ _ i j k q=>tJ (s:=ao 17) (ft := 8) (fa := 14) rfl (bB (by lia)) (wt (by lia)) (by lia) a b c d e f g h i j k q
theorem gJ {n:Nat} (hn : 1<=n):kW tab n 16:=fun a b q=>yL (s:=ao 18) rfl hn a b q
theorem gK {n:Nat} (hn : 2<=n):kY tab n 17:=fun a b q=>yM (s:=ao 19) (fs := 12) rfl (kc (by lia)) (by lia) a b q
theorem rM {M M':Mem} {p:Addr} (g:Ge M M') (h:M' p=none):M p=none:=by
 cases hz:M p with
 | none=>rfl
 | some o=>rw [g _ _ hz] at h;cases h
theorem BB {a:List Nat}:(nsD a).length=a.length:=by simp [nsD]
noncomputable def lq (b q:Nat) (l:List Nat):List Nat:=l.map fun k=>q*b+k
noncomputable def lqs (c b:Nat) (l:List Nat):List Nat:=l.flatMap fun q=>lq b q (B0 c)
theorem rN {c b:Nat}:∀ {l:List Nat},(lqs c b l).length=l.length*c
 | [] => by simp [lqs]
 | x::l=>by
   have ih:=rN (c:=c) (b:=b) (l:=l);unfold lqs at ih ⊢;rw [Ke,A1,ih,HS,J2];simp [lq];lia
theorem yP {k:Nat} (hk : 3<=k) {n m b:Nat} (hn : 1<=n/\n<=10) (hm : 1<=m/\m<=10) (hb : 1<=b/\b<=20) {ps us:List Pr} (lps:∀ u∈ps,u.1.length=n/\u.2.1.length=m/\u.2.2.length=n+m - 1) (lus:∀ u∈us,u.1.length=b/\u.2.1.length=b/\u.2.2.length=2*b - 1) (dps:∀ u∈ps,Bd u) (dus:∀ u∈us,Bd u) (Y:ps.length<=300) (Z:us.length<=300) {po pi:Addr} {M:Mem} {Q:QD} (ho:M po=some (.lst (ps.map prD))) (hi:M pi=some (.lst (us.map prD)))
 (q:∀ pf M',Ge M M'->M pf=none->M' pf=some (.lst (((aT ps us).map (lwO (n+m - 1) (2*b - 1) b ((n+m)*b - 1))).map prD))->Q (.tup [.int (n*b:Nat), .int (m*b:Nat), .int ((n+m)*b - 1:Nat), .ref pf]) M') :
 phi tab k 4 [.tup [.int n, .int m, .int (n+m - 1:Nat), .ref po], .int n, .int m, .tup [.int b, .int b, .int (2*b - 1:Nat), .ref pi], .int b] M Q:=by
 refine aF (by lia) rfl rfl (ρ := [some _,some _,some _,some _,some _,none,none,none]) rfl ?_
 unfold d4 L2.Mi.K18.b4;walk_at "st";have c1:(n:Int)+m - 1=(n+m - 1:Nat):=by lia
 have c2:(2:Int)*b - 1=(2*b - 1:Nat):=by lia
 rw [c1];refine ⟨by lia,by lia, ?_⟩
 rw [HA];refine au (f:=fun i=>D.int (i:Nat)) (ys:=B0 (n+m - 1)) (I:=fun l ρ M' acc=>(∃ o0 F, ρ = [o0,F,some (.int b)])/\M'=M/\acc=nsD (lqs (2*b - 1) b l)) aA ⟨⟨_,_,rfl⟩,rfl,rfl⟩ (fun _ _ _ _ _=>trivial) ?_ ?_
 ·rintro l a r ρ G acc e ⟨⟨o0,F,rfl⟩,rfl,rfl⟩;refine ⟨_,rfl,fun N' EX => ?_⟩;have ha:=am e;rw [HD] at ha;have F1:a < n+m - 1:=HB.mp (by rw [e];simp)
  walk_at "wp";rw [c2];refine ⟨aO (by lia),by lia,by lia, ?_⟩
  rw [HA];refine au (f:=fun i=>D.int (i:Nat)) (ys:=B0 (2*b - 1)) (I:=fun l' ρ M' acc=>(∃ F, ρ = [some (.int (a:Nat)),F,some (.int b)])/\M'=G/\acc=nsD (lqs (2*b - 1) b l++lq b a l')) aA ⟨⟨_,rfl⟩,rfl,by simp [lq]⟩ (fun _ _ _ _ _=>trivial) ?_ ?_
  ·rintro l' t r' ρ M2 acc e' ⟨⟨F,rfl⟩,rfl,rfl⟩;refine ⟨_,rfl,fun N2 EY => ?_⟩;have j:=am e';rw [HD] at j;walk_at "wp";rw [<- HV, <- K6];refine ⟨aO (by lia), ?_,EY _ _ _ ⟨⟨_,rfl⟩,rfl, ?_⟩⟩
   ·rw [BB,A1,rN,B2];have:l.length*(2*b - 1)<=20*40:=HH (by lia) (by lia)
    simp [lq];lia
   ·simp [nsD,lq]
  ·rintro ρ M2 acc ⟨⟨F,rfl⟩,rfl,rfl⟩;exact EX _ _ _ ⟨⟨_,_,rfl⟩,rfl,by simp [lqs,Ko]⟩
 rintro ρ G acc ⟨⟨o0,F,rfl⟩,rfl,rfl⟩ pt hpt;have g1:=Ge.new (o := .lst (nsD (lwp (n+m - 1) (2*b - 1) b))) hpt;have et:ah G pt (.lst (nsD (lqs (2*b - 1) b (B0 (n+m - 1))))) pt=some (.lst (nsD (lwp (n+m - 1) (2*b - 1) b))):=ad;change Ge G (ah G pt (.lst (nsD (lqs (2*b - 1) b (B0 (n+m - 1)))))) at g1;generalize ah G pt (.lst (nsD (lqs (2*b - 1) b (B0 (n+m - 1)))))=M2 at g1 et ⊢;have w1:n*b<=10*20:=HH hn.2 hb.2;have w2:m*b<=10*20:=HH hm.2 hb.2;have w3:(n+m)*b=n*b+m*b:=L8 _ _ _;have w4 : 1<=n*b:=Nat.mul_pos hn.1 hb.1;have s3 : 0+1+1+1<=Hh:=by rw [B2];lia
 walk_at "st";refine ⟨aO (by lia),n*b,(HV _ _).symm,by lia,fun z h0 => ?_⟩
 have g2:=Ge.new (o := .lst (nsD (B0 (n*b)))) h0;have e0:=ad (M:=M2) (a:=z) (o := .lst (nsD (B0 (n*b))));change Ge M2 (ah M2 z (.lst ((B0 (n*b)).map fun i=>D.int (i:Nat)))) at g2;change ah M2 z (.lst ((B0 (n*b)).map fun i=>D.int (i:Nat))) z=_ at e0;generalize ah M2 z (.lst ((B0 (n*b)).map fun i=>D.int (i:Nat)))=O at g2 e0 ⊢;refine ⟨aO (by lia),m*b,(HV _ _).symm,by lia,fun B h1 => ?_⟩
 have g3:=Ge.new (o := .lst (nsD (B0 (m*b)))) h1;have e1:=ad (M:=O) (a:=B) (o := .lst (nsD (B0 (m*b))));change Ge O (ah O B (.lst ((B0 (m*b)).map fun i=>D.int (i:Nat)))) at g3;change ah O B (.lst ((B0 (m*b)).map fun i=>D.int (i:Nat))) B=_ at e1;generalize ah O B (.lst ((B0 (m*b)).map fun i=>D.int (i:Nat)))=M4 at g3 e1 ⊢;refine ⟨s3,fun pl EZ => ?_⟩;have J:=Ge.new (o := .lst [.ref z, .ref B, .ref pt]) EZ;have el:=ad (M:=M4) (a:=pl) (o := .lst [.ref z, .ref B, .ref pt]);generalize ah M4 pl (.lst [.ref z, .ref B, .ref pt])=M5 at J el ⊢;have et:=(g2.trans (g3.trans J)) _ _ et;have e0:=(g3.trans J) _ _ e0;have e1:=J _ _ e1;have U:=g1.trans (g2.trans (g3.trans J));clear g1 g2 g3 J;walk_at "st";rw [<- K6, <- HV, <- HV, <- HV,show (((n+m)*b:Nat):Int) - 1=((n+m)*b - 1:Nat) by lia]
 refine ⟨aO (by lia),aO (by lia),aO (by lia),s3, ?_⟩
 walk_at "st";refine wo (s:=ao 2) (sp:=ao 1) (fp := 0) rfl rfl (by lia) (by lia) dps dus (by lia) (by lia) (U _ _ ho) (U _ _ hi) fun pw M6 L _ ew => ?_
 walk_at "wp";refine ⟨_,rfl, ?_⟩;have hl:(aT ps us).length<=100000:=by
  rw [dh];exact IH (HH Y Z) (by decide)
 refine wm (s:=ao 4) (fm := 2) rfl (yI (s:=ao 3) rfl (by lia)) (by lia) hl (by lia) (by lia) (by lia) (fun t j=>HB.mp j) (fun t j=>HB.mp j) (fun t j => ?_) ew (L _ _ el) (L _ _ e0) (L _ _ e1) (L _ _ et) fun pf M7 g7 np e7 => ?_
 ·unfold lwp at j;simp only [Ja,Hu,HB] at j;obtain ⟨q',hq,t',j,rfl⟩:=j;have:q'*b<=(n+m - 2)*b:=Kd _ (by lia)
  have e2:(n+m)*b=(n+m - 2)*b+2*b:=by rw [<- L8];congr 1;lia
  lia
 rw [Es lps lus] at e7;exact ⟨by rw [B2];lia, .inr trivial,by rw [B2];lia,q pf _ (U.trans (L.trans g7)) (rM (U.trans L) np) e7⟩
theorem zL {l:List Int} {i:Nat} (h:i < l.length):l[i]? = some (gz l (i:Nat)):=by
 unfold gz;rw [if_neg (by lia),HA,Ip,A2 h];rfl
theorem n8 {l:List Int} {i:Nat} (h:i < l.length):atI (l.map D.int) (i:Nat)=some (.int (gz l (i:Nat))):=by
 refine dU ?_;rw [HC,zL h];rfl
theorem zM {B:Int} {l:List Int} {i:Nat} (w:Within B l) (h:i < l.length) : -B<=gz l (i:Nat)/\gz l (i:Nat)<=B:=w _ (HN (zL h))
theorem rO {l x:List Int} {n b:Nat} (hn : 1<=n/\n<=10) (hb : 1<=b/\b<=20) (z:l.length=n) (hx:x.length=b) (wl:Within 100 l) {M:Mem} {N:NC} (q:∀ ρ,N ρ M ((kr l x).map .int)) {o0:Option D} :
 bK (aQ 0) (ci (wOp gi (wOp wIx (bu 1) (wOp jj (bu 0) (bu 2))) (wOp wIx (bu 3) (wOp nF (bu 0) (bu 2))))) (fun _=>True) N (cK 0 (n*b)) [o0,some (.tup (l.map .int)),some (.int b),some (.tup (x.map .int))] M []:=by
 rw [zI hb.1 z hx] at q;have F:n*b<=10*20:=HH hn.2 hb.2;refine au (f:=fun i=>D.int (i:Nat)) (ys:=B0 (n*b)) (I:=fun s ρ M' acc=>(∃ o0, ρ = [o0,some (.tup (l.map .int)),some (.int b),some (.tup (x.map .int))])/\M'=M/\acc=(s.map fun t=>gz l ((t / b:Nat):Int)*gz x ((t % b:Nat):Int)).map .int) aA ⟨⟨_,rfl⟩,rfl,rfl⟩ (fun _ _ _ _ _=>trivial) ?_ ?_
 ·rintro s t r ρ M1 acc e ⟨⟨o0,rfl⟩,rfl,rfl⟩;refine ⟨_,rfl,fun N' j => ?_⟩;have hs:=am e;rw [HD] at hs;have B:t < n*b:=HB.mp (by rw [e];simp)
  have h1:t / b < l.length:=by rw [z];exact Pe (by rw [LV];exact B)
  have h2:t % b < x.length:=by rw [hx];exact Nat.mod_lt _ (by lia)
  walk_at "wp";rw [<- Lf, <- Lg];have wv:=zM wl h1;refine ⟨by lia,by lia,_,n8 h1,by lia,_,n8 h2,aO (by lia),by rw [A0,A0,B2];lia,j _ _ _ ⟨⟨_,rfl⟩,rfl,by simp⟩⟩
 ·rintro ρ M1 acc ⟨⟨o0,rfl⟩,rfl,rfl⟩;exact q _
theorem Dz {k:Nat} (hk : 1<=k) {n m b:Nat} (hn : 1<=n/\n<=10) (hm : 1<=m/\m<=10) (hb : 1<=b/\b<=20) {ps us:List Pr} (lps:∀ u∈ps,u.1.length=n/\u.2.1.length=m/\u.2.2.length=n+m - 1) (lus:∀ u∈us,u.1.length=b/\u.2.1.length=b/\u.2.2.length=2*b - 1) (dps:∀ u∈ps,Bd u) (Fc:ps.length<=300) (F6:us.length<=300) {x0 x1 x2 y0 y1 y2:D} {po pi:Addr} {M:Mem} {Q:QD} (ho:M po=some (.lst (ps.map prD))) (hi:M pi=some (.lst (us.map prD)))
 (q:∀ pf M',Ge M M'->M pf=none->M' pf=some (.lst (((aT ps us).map (lwO (n+m - 1) (2*b - 1) b ((n+m)*b - 1))).map prD))->Q (.tup [.int (n*b:Nat), .int (m*b:Nat), .int ((n+m)*b - 1:Nat), .ref pf]) M') :
 phi tab k 19 [.tup [x0,x1,x2, .ref po], .int n, .int m, .tup [y0,y1,y2, .ref pi], .int b] M Q:=by
 refine aF (by lia) rfl rfl (ρ := [some _,some _,some _,some _,some _,none,none,none,none,none,none,none,none,none,none,none,none,none]) rfl ?_
 unfold d19 L2.Mi.K18.b19;walk_at "st";refine ⟨by rw [B2];lia,fun pf EY => ?_⟩
 have g1:=Ge.new (o := .lst []) EY;have e1:=ad (M:=M) (a:=pf) (o := .lst []);generalize ah M pf (.lst [])=M1 at g1 e1 ⊢;have c1:(n:Int)+m - 1=(n+m - 1:Nat):=by lia
 have c2:(2:Int)*b - 1=(2*b - 1:Nat):=by lia
 have w1:n*b<=10*20:=HH hn.2 hb.2;have w2:m*b<=10*20:=HH hm.2 hb.2;have w3:(n+m)*b=n*b+m*b:=L8 _ _ _;have w4 : 1<=n*b:=Nat.mul_pos hn.1 hb.1;have c3:(n:Int)*b+m*b - 1=((n+m)*b - 1:Nat):=by rw [w3, <- HV, <- HV];lia
 generalize hL:(n+m)*b - 1=L at *
 walk_at "st";refine ⟨_,rfl,_,ag (g1 _ _ ho), ?_⟩;refine aG (f:=prD) (ys:=ps) (I:=fun l ρ M'=>(∃ o6 o7 o8 o9 U Y Z O z B G J, ρ = [some (.tup [x0,x1,x2, .ref po]),some (.int n),some (.int m),some (.tup [y0,y1,y2, .ref pi]),some (.int b),some (.ref pf),o6,o7,o8,o9,U,Y,Z,O,z,B,G,J])/\Ge M M'/\M' pf=some (.lst (((aT l us).map (lwO (n+m - 1) (2*b - 1) b L)).map prD))) rfl ⟨⟨_,_,_,_,_,_,_,_,_,_,_,_,rfl⟩,g1,e1⟩ (fun _ _ _ h=>ag (h.2.1 _ _ ho)) ?_ ?_
 ·rintro l u r ρ M2 e ⟨⟨o6,o7,o8,o9,U,Y,Z,O,z,B,G,J,rfl⟩,g2,e2⟩;refine ⟨_,rfl,fun F hF => ?_⟩;have Fd:=am e;have hu:u∈ps:=by rw [e];simp
  obtain ⟨a0,a1,a2⟩:=lps u hu;have du:=dps u hu;walk_at "st";refine ⟨_,rfl,_,ag (g2 _ _ hi), ?_⟩;refine aG (f:=prD) (ys:=us) (I:=fun l' ρ M'=>(∃ o9 U Y Z O z B G J, ρ = [some (.tup [x0,x1,x2, .ref po]),some (.int n),some (.int m),some (.tup [y0,y1,y2, .ref pi]),some (.int b),some (.ref pf),some (.tup (u.1.map .int)),some (.tup (u.2.1.map .int)),some (.tup (u.2.2.map .int)),o9,U,Y,Z,O,z,B,G,J])/\Ge M M'/\M' pf=some (.lst (((aT l us++l'.map (krP u)).map (lwO (n+m - 1) (2*b - 1) b L)).map prD))) rfl ⟨⟨_,_,_,_,_,_,_,_,_,rfl⟩,g2,by simpa using e2⟩ (fun _ _ _ h=>ag (h.2.1 _ _ hi)) ?_ ?_
  ·rintro l' v r' ρ M3 e' ⟨⟨o9,U,Y,Z,O,z,B,G,J,rfl⟩,g3,e3⟩;refine ⟨_,rfl,fun F2 F7 => ?_⟩;have Fb:=am e';obtain ⟨b0,b1,b2⟩:=lus v (by rw [e'];simp)
   walk_at "st";refine ⟨by rw [B2];lia,fun p0 F8=>⟨aO (by lia),aO (by lia), ?_⟩⟩
   refine ⟨_,ad,by lia,by lia,by rw [B2];simp;lia,fun pt F1 => ?_⟩
   rw [c3,HA,Dm];have F5:=Ge.new (o := .lst [.int 0]) F8;have EX:M3 pt=none:=rM F5 F1;have et:ah (ah M3 p0 (.lst [.int 0])) pt (.lst ((Ho L (0:Int)).map D.int)) pt=some (.lst ((mvl [] L).map .int)):=by
    rw [ad,rq]
   have g4:=F5.trans (Ge.new (o := .lst ((Ho L (0:Int)).map D.int)) F1);generalize ah (ah M3 p0 (.lst [.int 0])) pt (.lst ((Ho L (0:Int)).map D.int))=M4 at g4 et ⊢;have Fe:pf≠pt:=fun w=>by rw [w,EX] at e3;cases e3
   walk_at "st";rw [c1];refine ⟨by lia,by lia, ?_⟩
   rw [HA];refine aG (f:=fun i=>D.int (i:Nat)) (ys:=B0 (n+m - 1)) (I:=fun s ρ M'=>(∃ O z B G J, ρ = [some (.tup [x0,x1,x2, .ref po]),some (.int n),some (.int m),some (.tup [y0,y1,y2, .ref pi]),some (.int b),some (.ref pf),some (.tup (u.1.map .int)),some (.tup (u.2.1.map .int)),some (.tup (u.2.2.map .int)),some (.tup (v.1.map .int)),some (.tup (v.2.1.map .int)),some (.tup (v.2.2.map .int)),some (.ref pt),O,z,B,G,J])/\Ge M3 M'/\M' pt=some (.lst ((mvl (lws u.2.2 v.2.2 b (2*b - 1) s) L).map .int))) aA ⟨⟨_,_,_,_,_,rfl⟩,g4,et⟩ (fun _ _ _ _=>trivial) ?_ ?_
   ·rintro s a r2 ρ M5 es ⟨⟨O,z,B,G,J,rfl⟩,g5,e5⟩;refine ⟨_,rfl,fun F3 F9 => ?_⟩;have ha:a < n+m - 1:=HB.mp (by rw [es];simp)
    walk_at "st";rw [c2];refine ⟨aO (by lia),by lia,by lia, ?_⟩
    rw [HA];refine aG (f:=fun i=>D.int (i:Nat)) (ys:=B0 (2*b - 1)) (I:=fun s' ρ M'=>(∃ z B G J, ρ = [some (.tup [x0,x1,x2, .ref po]),some (.int n),some (.int m),some (.tup [y0,y1,y2, .ref pi]),some (.int b),some (.ref pf),some (.tup (u.1.map .int)),some (.tup (u.2.1.map .int)),some (.tup (u.2.2.map .int)),some (.tup (v.1.map .int)),some (.tup (v.2.1.map .int)),some (.tup (v.2.2.map .int)),some (.ref pt),some (.int (a:Nat)),z,B,G,J])/\Ge M3 M'/\M' pt=some (.lst ((mvl (lws u.2.2 v.2.2 b (2*b - 1) s++lwl u.2.2 v.2.2 b a s') L).map .int))) aA ⟨⟨_,_,_,_,rfl⟩,g5,by simpa [lwl] using e5⟩ (fun _ _ _ _=>trivial) ?_ ?_
    ·rintro s' t r3 ρ M6 et ⟨⟨z,B,G,J,rfl⟩,g6,e6⟩;refine ⟨_,rfl,fun F4 Fa => ?_⟩;have ht:t < 2*b - 1:=HB.mp (by rw [et];simp)
     have EZ:a*b+t < L:=by
      have h1:a*b<=(n+m - 2)*b:=Kd _ (by lia)
      have h2:(n+m)*b=(n+m - 2)*b+2*b:=by rw [<- L8];congr 1;lia
      lia
     walk_at "st";rw [<- HV, <- K6];refine ⟨aO (by lia), ?_⟩
     walk_at "st";have wv:=zM du.e2 (show a < u.2.2.length by lia)
     refine bo e6 (d := .int (((lws u.2.2 v.2.2 b (2*b - 1) s++lwl u.2.2 v.2.2 b a s').map fun q=>if q.2=a*b+t then q.1 else 0).sum)) (dU (by rw [HC,i9 EZ];rfl)) ?_
     refine ⟨_,n8 (by lia),_,n8 (by lia), ?_⟩
     walk_at "wp";refine ⟨aO (by lia), ?_⟩
     refine cB e6 (j:=a*b+t) (by rw [A0,cF];exact tM EZ) ?_
     refine Fa _ _ ⟨⟨_,_,_,_,rfl⟩,g6.upd EX, ?_⟩;rw [ad, <- Ni (f:=D.int),rA EZ];simp [lwl]
    ·rintro ρ M6 ⟨⟨z,B,G,J,rfl⟩,g6,e6⟩;dsimp only;walk_at "wp";exact F9 _ _ ⟨⟨_,_,_,_,_,rfl⟩,g6,by rw [e6];simp [lws,Ko]⟩
   ·rintro ρ M5 ⟨⟨O,z,B,G,J,rfl⟩,g5,e5⟩;dsimp only;walk_at "st";rw [<- HV,HA];refine ⟨aO (by lia),by lia,by lia, ?_⟩
    refine rO hn hb a0 b0 du.e0 fun ρ p3 hp3 => ?_;refine ⟨_,_,rfl,ag ad, ?_⟩;have g6:=g5.trans (Ge.new (o := .lst ((kr u.1 v.1).map .int)) hp3);have e6:=Ge.new (o := .lst ((kr u.1 v.1).map .int)) hp3 _ _ e5;generalize ah M5 p3 (.lst ((kr u.1 v.1).map .int))=M6 at g6 e6 ⊢;walk_at "st";rw [<- HV,HA];refine ⟨aO (by lia),by lia,by lia, ?_⟩
    refine rO hm hb a1 b1 du.e1 fun ρ p4 hp4 => ?_;refine ⟨_,_,rfl,ag ad, ?_⟩;have g7:=g6.trans (Ge.new (o := .lst ((kr u.2.1 v.2.1).map .int)) hp4);have e7:=Ge.new (o := .lst ((kr u.2.1 v.2.1).map .int)) hp4 _ _ e6;generalize ah M6 p4 (.lst ((kr u.2.1 v.2.1).map .int))=M7 at g7 e7 ⊢;walk_at "st";have e9:M7 pf=_:=(g7 _ _ e3);refine ⟨⟨_,e9⟩,_,_,rfl,ag e7,by rw [B2];lia, ?_⟩
    have Ff:l.length*us.length<=300*300:=HH (by lia) F6
    refine ⟨pf,_,_,rfl,rfl,e9,by rw [A0,A0,A1,dh,A0,B2];lia, ?_⟩
    refine F7 _ _ ⟨⟨_,_,_,_,_,_,_,_,_,rfl⟩,(g3.trans g7).upd EY, ?_⟩;rw [ad];have ew:mv (kr u.2.2 v.2.2) (lwp (n+m - 1) (2*b - 1) b) L=mvl (lws u.2.2 v.2.2 b (2*b - 1) (B0 (n+m - 1))) L:=Du (by lia) a2 b2
    simp only [Iz,Hs,JP,lwO,krP,prD,ew,Hl]
  ·rintro ρ M3 ⟨⟨o9,U,Y,Z,O,z,B,G,J,rfl⟩,g3,e3⟩;dsimp only;walk_at "wp";exact hF _ _ ⟨⟨_,_,_,_,_,_,_,_,_,_,_,_,rfl⟩,g3,by rw [e3,mD]⟩
 ·rintro ρ M2 ⟨⟨o6,o7,o8,o9,U,Y,Z,O,z,B,G,J,rfl⟩,g2,e2⟩;dsimp only;walk_at "st";rw [c3, <- HV, <- HV];exact ⟨aO (by lia),aO (by lia),aO (by lia),aO (by lia),by rw [B2];lia,q pf _ g2 EY e2⟩
structure H6 (po pi pk p1 p2 pd:Addr) (ps us ds:List Pr) (M:Mem):Prop where
 o:M po=some (.lst (ps.map prD))
 i:M pi=some (.lst (us.map prD))
 k:M pk=some (.lst [.ref p1, .ref p2])
 a:M p1=some (.lst (ps.map prD))
 b:M p2=some (.lst (us.map prD))
 d:M pd=some (.lst (ds.map prD))
theorem H6.ge {po pi pk j p2 pd:Addr} {ps us ds:List Pr} {M M':Mem} (h:H6 po pi pk j p2 pd ps us ds M) (g:Ge M M'):H6 po pi pk j p2 pd ps us ds M':=⟨g _ _ h.o,g _ _ h.i,g _ _ h.k,g _ _ h.a,g _ _ h.b,g _ _ h.d⟩
theorem H6.upd {po pi pk j p2 pd pf:Addr} {ps us ds:List Pr} {M M':Mem} {o:O} (h:H6 po pi pk j p2 pd ps us ds M) (h':H6 po pi pk j p2 pd ps us ds M') (n:M pf=none):H6 po pi pk j p2 pd ps us ds (ah M' pf o):=by
 have ne:∀ {a:Addr} {u:O},M a=some u->a≠pf:=fun e z=>by rw [z,n] at e;cases e
 exact ⟨(aR (ne h.o)).trans h'.o,(aR (ne h.i)).trans h'.i,(aR (ne h.k)).trans h'.k,(aR (ne h.a)).trans h'.a,(aR (ne h.b)).trans h'.b,(aR (ne h.d)).trans h'.d⟩
theorem wu {M:Mem} {p a b:Addr} {ps us:List Pr} (h:M p=some (.lst [.ref a, .ref b])) (j:M a=some (.lst (ps.map prD))) (hb:M b=some (.lst (us.map prD))):rb 16 M (.ref p)=some (.list [.list (ps.map cQ), .list (us.map cQ)]):=by
 have e1:rb 15 M (.ref a)=some (.list (ps.map cQ)):=by rw [pA j,pv];rfl
 have e2:rb 15 M (.ref b)=some (.list (us.map cQ)):=by rw [pA hb,pv];rfl
 rw [pA h];simp [aN,e1,e2]
theorem BC {ps us:List Pr}:IP (.list [.list (ps.map cQ), .list (us.map cQ)]) (.list [.list (ps.map cQ), .list (us.map cQ)])=true:=by
 simp [IP,Kn,Dw]
theorem BD {n m:Nat}:∀ u∈be n m,u.2≠0:=fun u q=>by
 unfold be eQ at q;obtain ⟨i,_,q⟩:=Ja.mp q;obtain ⟨j,_,rfl⟩:=Hu.mp q;simp [bD]
theorem ww {B:Int} {t:Nat} (j : 0<=B):∀ {l:List (Int×Nat)},(∀ q∈l, -B<=q.1/\q.1<=B) -> -(B*l.length)<=(l.map fun q=>if q.2=t then q.1 else 0).sum/\(l.map fun q=>if q.2=t then q.1 else 0).sum<=B*l.length
 | [],_=>by simp
 | q::l,h=>by
   have ih:=ww (t:=t) j (l:=l) fun x hx=>h x (HF _ hx);have z:=h q Ie;rw [Hs,NY,HS,K6,Kf]
   by_cases c:q.2=t
   ·rw [if_pos c];lia
   ·rw [if_neg c];lia
theorem tN {A B:Int} (J : 0<=A) {x y:List Int} (hx:Within A x) (F:Within B y):Within (A*B) (kr x y):=by
 intro z q;unfold kr at q;simp only [Ja,Hu] at q;obtain ⟨a,G,b,hb,rfl⟩:=q;have h1:=hx a G;have h2:=F b hb;have j : 0<=B:=by lia
 constructor
 ·by_cases c : 0<=a
  ·have:a*(b+B)≥0:=K0 c (by lia)
   have:(A - a)*B≥0:=K0 (by lia) j
   rw [Kf] at *;rw [Int.sub_mul] at *;lia
  ·have:(-a)*(B - b)≥0:=K0 (by lia) (by lia)
   have:(A+a)*B≥0:=K0 (by lia) j
   rw [Int.mul_sub,MR,MR] at *;rw [L6] at *;lia
 ·by_cases c : 0<=a
  ·have:a*(B - b)≥0:=K0 c (by lia)
   have:(A - a)*B≥0:=K0 (by lia) j
   rw [Int.mul_sub] at *;rw [Int.sub_mul] at *;lia
  ·have:(-a)*(B+b)≥0:=K0 (by lia) (by lia)
   have:(A+a)*B≥0:=K0 (by lia) j
   rw [Kf,MR,MR] at *;rw [L6] at *;lia
noncomputable abbrev ds (n m b:Nat) (ps us:List Pr):List Pr:=(aT ps us).map (lwO (n+m - 1) (2*b - 1) b ((n+m)*b - 1))
structure Sz (n m b:Nat):Prop where
 hn : 1<=n/\n<=4
 hm : 1<=m/\m<=4
 hb : 1<=b/\b<=10
 hx:b<=5∨n<=2/\m<=2
theorem Sz.nb {n m b:Nat} (h:Sz n m b):n*b<=20/\m*b<=20:=by
 obtain ⟨hn,hm,hb,hx⟩:=h
 rcases hx with hx | hx
 ·exact ⟨HH hn.2 hx,HH hm.2 hx⟩
 ·exact ⟨HH hx.1 hb.2,HH hx.2 hb.2⟩
theorem BE {k:Nat} (hk : 2<=k) {n m b:Nat} (hS:Sz n m b) {ps us:List Pr} (F:∀ u∈ps,Dr 5 n m (n+m - 1) u) (G:∀ u∈us,Dr 5 b b (2*b - 1) u) (hl:ps.length*us.length<=640) (hT:∀ k i j,Tn ps k i j=cf (be n m) (k,i,j)) (hU:∀ k i j,Tn us k i j=cf (be b b) (k,i,j)) {x0 x1 x2:D} {pp:Addr} {M:Mem} {Q:QD} (ep:M pp=some (.lst ((ds n m b ps us).map prD))) (q:∀ M',Ge M M'->Q (.bl false) M') :
 phi tab k 11 [.tup [x0,x1,x2, .ref pp]] M fun x M1=>MulOk n b/\MulOk m b/\phi tab k 16 [.int ((n:Int)*b), .int ((m:Int)*b)] M1 fun y M2=>sW x y M2 Q:=by
 have EZ:=hS.nb;obtain ⟨hn,hm,hb,hx⟩:=hS;have w3:(n+m)*b=n*b+m*b:=L8 _ _ _;have lps:∀ u∈ps,u.1.length=n/\u.2.1.length=m/\u.2.2.length=n+m - 1:=fun u z=>⟨(F u z).l0,(F u z).l1,(F u z).l2⟩;have lus:∀ u∈us,u.1.length=b/\u.2.1.length=b/\u.2.2.length=2*b - 1:=fun u z=>⟨(G u z).l0,(G u z).l1,(G u z).l2⟩;have lds:∀ w∈ds n m b ps us,w.1.length=n*b/\w.2.1.length=m*b/\w.2.2.length=(n+m)*b - 1:=fun w0 J=>by
  obtain ⟨w,hw,rfl⟩:=Hu.mp J;obtain ⟨u,z,v,U,rfl⟩:=eI hw;obtain ⟨a0,a1,a2⟩:=lps u z;obtain ⟨b0,b1,b2⟩:=lus v U;exact ⟨by simp only [lwO,krP,bR,a0,b0],by simp only [lwO,krP,bR,a1,b1],cF⟩
 refine yO hk ep ?_ (fun w0 J => ?_) fun L d M1 Z F1 g1 F5 e1 => ?_
 ·have h1:=pX (a := 20) (b := 20) (c := 39) (ps:=ds n m b ps us) fun u z=>by
   obtain ⟨a,b,c⟩:=lds u z;lia
  rw [A0,dh] at h1;lia
 ·obtain ⟨a,b',c⟩:=lds w0 J;obtain ⟨w,hw,rfl⟩:=Hu.mp J;obtain ⟨u,z,v,U,rfl⟩:=eI hw;obtain ⟨a0,a1,a2⟩:=lps u z;obtain ⟨b0,b1,b2⟩:=lus v U;have big:∀ {l:List Int},Within (5*5) l->Big l:=fun h x hx=>by have:=h x hx;lia
  refine ⟨big (tN (by decide) (F u z).e0 (G v U).e0),big (tN (by decide) (F u z).e1 (G v U).e1),fun x hx => ?_,by lia,by lia,by lia⟩
  have EX:=tN (by decide) (F u z).e2 (G v U).e2
  simp only [lwO,krP,mv,mvl,Hu] at hx;obtain ⟨t,_,rfl⟩:=hx;have hz:=ww (t:=t) (B := 5*5) (l:=(kr u.2.2 v.2.2).zip (lwp (n+m - 1) (2*b - 1) b)) (by decide) fun q hq=>EX _ (Lp (a:=q.1) (b:=q.2) hq).1
  have hle:((kr u.2.2 v.2.2).zip (lwp (n+m - 1) (2*b - 1) b)).length<=7*19:=by
   rw [OG,bR,a2,b2];exact IH (Nat.min_le_left _ _) (HH (by lia) (by lia))
  lia
 refine ⟨aO (by lia),aO (by lia), ?_⟩
 rw [<- HV, <- HV];refine gJ (by lia) (by lia) (by lia) fun L2 d2 M2 O g2 hd2 e2 => ?_
 refine ⟨d,d2,_,_,rfl,rfl,⟨.inl (g2 _ _ e1),rK⟩,⟨.inl e2,rK⟩, ?_⟩;have Y:(L2.map (·.1)).Nodup:=(O.map _).nodup_iff.mpr dN;have EY:∀ t∈L2,t.2≠0:=fun t ht=>BD t (O.mem_iff.mp ht);rw [yG Y (Bn Z.nd Y Z.nz EY fun k=>by
  obtain ⟨k,i,j⟩:=k;rw [Z.cf,Bm,Er hn.1 hm.1 hb.1 lps lus hT hU,r6 O])]
 exact q _ (g1.trans g2)
theorem law_holds (ns:List Int) (hl:ns.length<=63):phi tab 40 20 [.con (ns.map D.int)] (fun _=>none) fun d _=>d = .bl true:=by
 refine aF (by lia) rfl rfl (ρ := [some _,none,none,none,none,none,none,none,none,none,none,none]) rfl ?_
 unfold d20 b20;walk_at "st";rw [A0];refine ⟨by split <;> lia,by split <;> lia, ?_⟩
 refine aG (I:=fun l ρ M' => ∃ o1 o2 o3 o4 o5 o6 o7 o8 o9 q z, ρ = [some (.con (ns.map D.int)),o1,o2,o3,o4,o5,o6,o7,o8,o9,q,z]) aA ⟨_,_,_,_,_,_,_,_,_,_,_,rfl⟩ (fun _ _ _ hI=>trivial) ?_ ?_
 ·rintro l k r ρ M8 e ⟨o1,o2,o3,o4,o5,o6,o7,o8,o9,q,z,rfl⟩;refine ⟨_,rfl,fun F hF => ?_⟩;walk_at "st";refine Dl (s:=ao 9) (fc := 5) (fm := 6) (sc:=ao 7) rfl rfl (rL (by lia)) (by lia) (by lia) fun bx x y hp => ?_
  have hb:Box bx (ah M8 bx (.lst [.int x, .int y, .int 0])):=⟨_,_,_,ad⟩;generalize ah M8 bx (.lst [.int x, .int y, .int 0])=M0 at hb ⊢;walk_at "st";refine bB (by lia) hb (by decide) (by decide) fun n1 M1 n0 n2 x1 => ?_
  refine bB (by lia) x1.box (by decide) (by decide) fun m1 M2 m0 m2 x2 => ?_
  refine bB (by lia) x2.box (by decide) (by decide) fun b1 M3 b0 b2 x3 => ?_
  walk_at "wp";refine de (fun ρ M' => ∃ n m b:Nat,Sz n m b /\ ρ = [some (.con (ns.map D.int)),some (.int (k:Nat)),some (.ref bx),some (.int n),some (.int m),some (.int b),o6,o7,o8,o9,q,z]/\Box bx M') (fun R hR => ?_) ?_
  ·walk_at "wp";refine bB (by lia) x3.box (by decide) (by decide) fun g M4 g0 g1 x4 => ?_
   walk_at "wp"
   by_cases hg:g=0
   ·rw [if_pos (by simpa using hg)]
    walk_at "st";refine bB (by lia) x4.box (by decide) (by decide) fun n3 M5 n4 n5 x5 => ?_
    refine bB (by lia) x5.box (by decide) (by decide) fun m3 M6 m4 m5 x6 => ?_
    refine bB (by lia) x6.box (by decide) (by decide) fun b3 M7 b4 b5 x7 => ?_
    walk_at "wp";refine hR _ _ ⟨(1+n3).toNat,(1+m3).toNat,(8+b3).toNat,⟨by lia,by lia,by lia,by lia⟩, ?_,x7.box⟩
    rw [Jg (by lia),Jg (by lia),Jg (by lia)]
   ·rw [if_neg (by simpa using hg)]
    walk_at "wp";refine hR _ _ ⟨(1+n1).toNat,(1+m1).toNat,(1+b1).toNat,⟨by lia,by lia,by lia,by lia⟩, ?_,x4.box⟩
    rw [Jg (by lia),Jg (by lia),Jg (by lia)]
  rintro ρ M4 ⟨n,m,b,hS,rfl,EZ⟩;clear x1 x2 x3 hb n0 n2 m0 m2 b0 b2 n1 m1 b1;have Fo:=hS.nb;obtain ⟨hn,hm,F1,hx⟩:=id hS;have Fp:n*m<=16:=HH hn.2 hm.2;have Fm:b<=5∨n*m<=4:=hx.imp id fun h=>HH h.1 h.2;have Fa:b*b<=100:=HH F1.2 F1.2;have Fb:b<=5->b*b<=25:=fun h=>HH h h;walk_at "st";refine pS (s:=ao 20) (cap := 1000000) (ft := 8) (fd := 15) (fq := 17) (fp := 13) (fs := 16) (most := 2) rfl (bB (by lia)) (iy (by lia)) (gK (by lia)) (iw (by lia)) (gJ (by lia)) (by lia) (by lia) (by lia) (by lia) (by lia) EZ fun ps po M5 O Fc hT x5 Fd F5 eo => ?_
  have eo:=eo;have F6:∀ u∈ps,Dr 5 n m (n+m - 1) u:=O;refine de (fun ρ M' => ∃ us pi, ρ = [some (.con (ns.map D.int)),some (.int (k:Nat)),some (.ref bx),some (.int n),some (.int m),some (.int b),some (.tup [.int n, .int m, .int (n+m - 1:Nat), .ref po]),some (.tup [.int b, .int b, .int (2*b - 1:Nat), .ref pi]),o8,o9,q,z]/\(∀ u∈us,Dr 5 b b (2*b - 1) u)/\us.length<=102/\(∀ k i j,Tn us k i j=cf (be b b) (k,i,j))/\M' po=some (.lst (ps.map prD))/\M' pi=some (.lst (us.map prD))) (fun R hR => ?_) ?_
  ·have fin:∀ (most:Nat) (Mz:Mem),most<=2->Box bx Mz->Mz po=some (.lst (ps.map prD))->phi tab (40 - 1) 18 [.ref bx, .int b, .int b, .int most] Mz fun x M1=>R [some (.con (ns.map D.int)),some (.int (k:Nat)),some (.ref bx),some (.int n),some (.int m),some (.int b),some (.tup [.int n, .int m, .int (n+m - 1:Nat), .ref po]),some x,o8,o9,q,z] M1:=fun most Mz Fq L eoz=>by
    refine pS (s:=ao 20) (cap := 1000000) (ft := 8) (fd := 15) (fq := 17) (fp := 13) (fs := 16) rfl (bB (by lia)) (iy (by lia)) (gK (by lia)) (iw (by lia)) (gJ (by lia)) (by lia) (by lia) (by lia) (by lia) (by lia) L fun us pi M6 G Fe hU x6 Fs Fn ei => ?_
    rw [show b+b - 1=2*b - 1 by lia] at *
    refine hR _ _ ⟨us,pi,rfl,fun u B => ?_,by lia,hU,x6.keep po _ F5 eoz,ei⟩
    have h:=G u B;have w:∀ {l:List Int},Within (1+2*(most:Int)) l->Within 5 l:=fun h x hx=>by have:=h x hx;lia
    exact ⟨h.l0,h.l1,h.l2,w h.e0,w h.e1,w h.e2⟩
   walk_at "wp";refine ⟨by rw [B2];lia,fun pz Ff => ?_⟩
   have gz:=Ge.new (o := .lst [.int 2, .int 0]) Ff;have ez:=ad (M:=M5) (a:=pz) (o := .lst [.int 2, .int 0]);have L:Box bx (ah M5 pz (.lst [.int 2, .int 0])):=by obtain ⟨a,b,c,h⟩:=x5.box;exact ⟨a,b,c,gz _ _ h⟩
   have eoz:=gz _ _ eo;generalize ah M5 pz (.lst [.int 2, .int 0])=Mz at ez L eoz ⊢
   by_cases hc:(5:Int) < b
   ·rw [if_pos hc];exact bo ez rfl (fin 0 Mz (by lia) L eoz)
   ·rw [if_neg hc];refine ⟨aO (by lia), ?_⟩
    by_cases hc2:(9:Int) < n*m
    ·rw [if_pos hc2];exact bo ez rfl (fin 0 Mz (by lia) L eoz)
    ·rw [if_neg hc2];exact bo ez rfl (fin 2 Mz (by lia) L eoz)
  rintro ρ M6 ⟨F7,Fg,rfl,Z,EX,F8,U,EY⟩;refine de (fun ρ M' => ∃ us pi, ρ = [some (.con (ns.map D.int)),some (.int (k:Nat)),some (.ref bx),some (.int n),some (.int m),some (.int b),some (.tup [.int n, .int m, .int (n+m - 1:Nat), .ref po]),some (.tup [.int b, .int b, .int (2*b - 1:Nat), .ref pi]),o8,o9,q,z]/\(∀ u∈us,Dr 5 b b (2*b - 1) u)/\ps.length*us.length<=640/\us.length<=102/\(∀ k i j,Tn us k i j=cf (be b b) (k,i,j))/\M' po=some (.lst (ps.map prD))/\M' pi=some (.lst (us.map prD))) (fun R hR => ?_) ?_
  ·walk_at "wp";refine ⟨_,rfl,_,_,rfl,iW (ag U),_,rfl,_,_,rfl,iW (ag EY), ?_⟩;rw [A0,A0];walk_at "wp";rw [<- HV];refine ⟨aO (by lia), ?_⟩
   by_cases hc : 400 < ps.length*F7.length
   ·rw [if_pos (by simp;lia)]
    walk_at "st";refine ⟨aO (by lia), ?_⟩
    refine gK (by lia) (by lia) (by lia) fun pq M7 g7 nq eq => ?_
    rw [show (2:Int)*b - 1=(2*b - 1:Nat) by lia]
    refine ⟨by rw [B2];lia,hR _ _ ⟨pp b,pq,rfl,fun u B => ?_, ?_, ?_,fun k i j=>zG,g7 _ _ U,eq⟩⟩
    ·have h:=fw u B;have w:∀ {l:List Int},Within 1 l->Within 5 l:=fun h x hx=>by have:=h x hx;lia
     exact ⟨h.l0,h.l1,h.l2,w h.e0,w h.e1,w h.e2⟩
    ·have F9:(pp b).length<=b*b:=by
      have:=fA (n:=b) (B0 b) fun i hi=>HB.mp hi;rw [HD] at this;exact this
     rcases hx with h5 | h5
     ·have:=HH Fc (IH F9 (Fb h5));lia
     ·have h4:n*m<=2*2:=HH h5.1 h5.2;have:=HH (show ps.length<=6 by lia) (IH F9 Fa)
      lia
    ·have:=fA (n:=b) (B0 b) fun i hi=>HB.mp hi;rw [HD] at this;show (pp b).length<=102;unfold pp;lia
   ·rw [if_neg (by simp;lia)]
    exact hR _ _ ⟨F7,Fg,rfl,Z,by lia,EX,F8,U,EY⟩
  rintro ρ M7 ⟨us,pi,rfl,G,Fh,Fe,hU,eo,ei⟩;clear U EY F8 EX Z EZ x5 Fd;have lps:∀ u∈ps,u.1.length=n/\u.2.1.length=m/\u.2.2.length=n+m - 1:=fun u B=>⟨(O u B).l0,(O u B).l1,(O u B).l2⟩;have lus:∀ u∈us,u.1.length=b/\u.2.1.length=b/\u.2.2.length=2*b - 1:=fun u B=>⟨(G u B).l0,(G u B).l1,(G u B).l2⟩;have dps:∀ u∈ps,Bd u:=fun u B=>(O u B).bd (by lia) (by lia) (by lia) (by lia)
  have dus:∀ u∈us,Bd u:=fun u B=>(G u B).bd (by lia) (by lia) (by lia) (by lia)
  have w3:(n+m)*b=n*b+m*b:=L8 _ _ _;have lens:∀ w∈ds n m b ps us,w.1.length<=100000/\w.2.1.length<=100000/\w.2.2.length<=100000:=fun w0 Fi=>by
   obtain ⟨w,hw,rfl⟩:=Hu.mp Fi;obtain ⟨u,B,v,hv,rfl⟩:=eI hw;obtain ⟨a0,a1,a2⟩:=lps u B;obtain ⟨b0,b1,b2⟩:=lus v hv;refine ⟨by simp only [lwO,krP,bR,a0,b0];lia,by simp only [lwO,krP,bR,a1,b1];lia, ?_⟩
   rw [show (lwO (n+m - 1) (2*b - 1) b ((n+m)*b - 1) (krP u v)).2.2.length=(n+m)*b - 1 from cF];lia
  walk_at "st";refine ⟨_,rfl,_,_,rfl,ag eo,fun p1 h1 => ?_⟩;have g1:=Ge.new (o := .lst (ps.map prD)) h1;have e1:=ad (M:=M7) (a:=p1) (o := .lst (ps.map prD));generalize ah M7 p1 (.lst (ps.map prD))=M8 at g1 e1 ⊢;have eo:=g1 _ _ eo;have ei:=g1 _ _ ei;refine ⟨_,rfl,_,_,rfl,ag ei,fun p2 h2 => ?_⟩;have g2:=Ge.new (o := .lst (us.map prD)) h2;have e2:=ad (M:=M8) (a:=p2) (o := .lst (us.map prD));generalize ah M8 p2 (.lst (us.map prD))=M9 at g2 e2 ⊢;have eo:=g2 _ _ eo;have ei:=g2 _ _ ei;have e1:=g2 _ _ e1;refine ⟨by rw [B2];lia,fun pk hk => ?_⟩
  have g3:=Ge.new (o := .lst [.ref p1, .ref p2]) hk;have ek:=ad (M:=M9) (a:=pk) (o := .lst [.ref p1, .ref p2]);generalize ah M9 pk (.lst [.ref p1, .ref p2])=M10 at g3 ek ⊢;have eo:=g3 _ _ eo;have ei:=g3 _ _ ei;have e1:=g3 _ _ e1;have e2:=g3 _ _ e2;clear g1 g2 g3 h1 h2 hk;walk_at "st";refine Dz (by lia) (by lia) (by lia) (by lia) lps lus dps (by lia) (by lia) eo ei fun pd Fj g7 npd ed => ?_
  have h7:H6 po pi pk p1 p2 pd ps us (ds n m b ps us) Fj:=⟨g7 _ _ eo,g7 _ _ ei,g7 _ _ ek,g7 _ _ e1,g7 _ _ e2,ed⟩;clear eo ei ek e1 e2 ed g7 npd;walk_at "st";refine ⟨by lia,by lia, ?_⟩
  refine aG (I:=fun l2 ρ M'=>(∃ q z, ρ = [some (.con (ns.map D.int)),some (.int (k:Nat)),some (.ref bx),some (.int n),some (.int m),some (.int b),some (.tup [.int n, .int m, .int (n+m - 1:Nat), .ref po]),some (.tup [.int b, .int b, .int (2*b - 1:Nat), .ref pi]),some (.ref pk),some (.tup [.int (n*b:Nat), .int (m*b:Nat), .int ((n+m)*b - 1:Nat), .ref pd]),q,z])/\H6 po pi pk p1 p2 pd ps us (ds n m b ps us) M') aA ⟨⟨_,_,rfl⟩,h7⟩ (fun _ _ _ _=>trivial) ?_ ?_
  ·rintro l2 j r2 ρ M12 e2 ⟨⟨q,z,rfl⟩,h9⟩;refine ⟨_,rfl,fun F2 Fk => ?_⟩;walk_at "st";refine yP (by lia) (by lia) (by lia) (by lia) lps lus dps dus (by lia) (by lia) h9.o h9.i fun pf Ma g nf ef => ?_
   have Y:=h9.ge g;walk_at "st";refine yN (n := 4) (by lia) (BA (by rw [A0,dh];lia) ef Y.d lens) fun Mb g2 => ?_
   have J:=Y.ge g2;have ef:=g2 _ _ ef;refine ⟨true,rfl, ?_⟩;rw [if_neg (by decide)]
   walk_at "st";refine ⟨_,rfl,⟨_,rfl,_,ef⟩,pf,_,rfl,rfl,ef, ?_⟩;exact Fk _ _ ⟨⟨_,_,rfl⟩,h9.upd J nf⟩
  ·rintro ρ M12 ⟨⟨q,z,rfl⟩,h9⟩;dsimp only;walk_at "st";refine BE (by lia) hS F6 G Fh hT hU h9.d fun Ft Fl => ?_
   have Y:=h9.ge Fl;refine ⟨false,rfl, ?_⟩;rw [if_neg (by decide)]
   refine ⟨_,rfl,_,rfl,by rw [B2];lia,fun pz hz => ?_⟩
   have gz:=Ge.new (o := .lst [.ref po, .ref pi]) hz;have J:=Y.ge gz;refine ⟨_,_,wu ad J.o J.i,wu J.k J.a J.b, ?_⟩;rw [BC];refine ⟨_,rfl, ?_⟩;rw [if_neg (by decide)]
   exact hF _ _ ⟨_,_,_,_,_,_,_,_,_,_,_,rfl⟩
 ·rintro ρ M8 ⟨o1,o2,o3,o4,o5,o6,o7,o8,o9,q,z,rfl⟩;dsimp only;walk_at "st"
end K18
end
end
end Mi
end L2
namespace PySem.W.Fast
theorem tw10482018325250120400:True:=trivial
theorem tw8298097255787048941:True:=trivial
theorem tw11160363189470381177:True:=trivial
theorem tw13294288241742735914:True:=trivial
theorem tw2841681909833916835:True:=trivial
theorem tw14682533463070390417:True:=trivial
theorem tw9256557439946159625:True:=trivial
theorem tw16024380802662582830:True:=trivial
theorem tw8276194458819704007:True:=trivial
theorem tw2387132269411946082:True:=trivial
theorem tw12982995108946928388:True:=trivial
theorem tw10089507046597900513:True:=trivial
theorem tw13598531903331691109:True:=trivial
theorem tw3393583589707638722:True:=trivial
theorem tw6487326619731049613:True:=trivial
theorem tw10610528202656472489:True:=trivial
theorem tw7846631666863145381:True:=trivial
theorem tw18357893821613388370:True:=trivial
theorem tw4807574291380606480:True:=trivial
theorem tw9670564208072401529:True:=trivial
theorem tw17693740329516414364:True:=trivial
theorem tw5260453237572969900:True:=trivial
theorem tw2835506953493119509:True:=trivial
theorem tw6639238728964632311:True:=trivial
theorem tw8418535877317799225:True:=trivial
theorem tw16880060953897012242:True:=trivial
theorem tw2053830900410181809:True:=trivial
theorem tw1551400750756977314:True:=trivial
theorem tw11494096469373898489:True:=trivial
theorem tw17610867011314530783:True:=trivial
theorem tw1034424668208336658:True:=trivial
theorem tw17298802845010360000:True:=trivial
theorem tw5720653712077898206:True:=trivial
theorem tw8650925619671402834:True:=trivial
theorem tw15445371116999722040:True:=trivial
theorem tw11712111317048224353:True:=trivial
theorem tw10246038502778172460:True:=trivial
theorem tw10966371618258174572:True:=trivial
theorem tw11493578240222537982:True:=trivial
theorem tw7692636615037472049:True:=trivial
theorem tw14194469545940400905:True:=trivial
theorem tw13506881343624692237:True:=trivial
theorem tw5209480529199976149:True:=trivial
theorem tw9281931039506073453:True:=trivial
theorem tw128830320739856297:True:=trivial
theorem tw8799178836307762218:True:=trivial
theorem tw1326964425810594493:True:=trivial
theorem tw3353894760944848988:True:=trivial
theorem tw11325734087688247554:True:=trivial
theorem tw4499666927573095589:True:=trivial
theorem tw2645438167485556728:True:=trivial
theorem tw7597332780846373556:True:=trivial
theorem tw14937248409467483045:True:=trivial
end PySem.W.Fast
open PySem.W in
set_option maxRecDepth 100000 in
set_option maxHeartbeats 0 in
theorem PySem.Challenge.cw_fewtimes_k18_lines_within_holds : PySem.Challenge.rw_fewtimes_k18_lines_within.Holds := by
 w_on;o_law;k_head;(case hw=>w_witness2)
 k_fill
 refine L2.Mi.K18.walk (l:=PySem.Challenge.rw_fewtimes_k18_lines_within) rfl rfl L2.Mi.K18.law_holds (fun w h Y=>PySem.W.kIn_of Y) ?F
 case F =>
  intro w mg fa h KX G hmg;refine' L2.Mi.K18.all_mk KX G hmg ?z ?_ ?_ ?_ ?_ ?_ ?_ ?_ ?_ ?_ ?_ ?_ ?_ ?_ ?_ ?_ ?_ ?_ ?_ ?_ ?_ ?_ ?_ ?_ ?_ ?_ ?_ ?_ ?_ ?_ ?_ ?_ ?_ ?_ ?_ ?_ ?_ ?_ ?_ ?_ ?_ ?_ ?_ ?_ ?_ ?_ ?_ ?_ ?_ ?_ ?_ ?_ ?_ ?_ ?_ ?_ ?_ ?_ ?_ ?_ ?_ ?_ ?_ ?_ ?_ ?_ ?_ ?_ ?_ ?_ ?_ ?_ ?_ ?_ ?_ ?_ ?_ ?_ ?_ ?_ ?_ ?_ ?_ ?_ ?_
  case z =>
   intro x hx;simp only [L2.Mi.bltNames,List.mem_cons,List.not_mem_nil,or_false] at hx
   rcases hx with rfl | rfl | rfl | rfl | rfl | rfl | rfl | rfl | rfl | rfl | rfl | rfl | rfl | rfl | rfl | rfl | rfl | rfl | rfl | rfl <;> k_is
  all_goals try (show _=_;k_is)
