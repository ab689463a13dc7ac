import PyProof.Rows.All
import Wide.All
import OpenK.AllK
import Wide.FinOn
import Lean
import PyProof.EqAt
import PyProof.EqKinds
import PyProof.TupleCall
import PyProof.ZipIter
import PyProof.EnumMake
import PyProof.EnumFor
import PyProof.CollectIter
import PyProof.Rows.SeqMore
import PyProof.ConsumeWalk
import PyProof.Rows.SortShellK
import PyProof.DictItems
import PyProof.DictWalks
import PyProof.AttrMissHeap
import PyProof.DictIter
import PyProof.MaxThree
import PyProof.SeqI3
import KE.KDictOf
import PySem.Challenge.RW_fewtimes_k21_schemes_cut
set_option Elab.async false
set_option linter.all false
set_option compiler.extract_closed false
set_option genSizeOf false
set_option bootstrap.genMatcherCode false
set_option maxRecDepth 100000
set_option maxHeartbeats 4000000
open PySem.W (Frag)
open PySem renaming wpAny_bind → gV, Value → h6, Shared → hI, wpAny_pure → r4, sizeLine_eq → tv, sizeLine → Hj, wpAny → Ht, model → Hy, Program → HK, starEach → HP, wpAny_holding → I8, World → Ie, Paired → Ig, wpAny_callSpecial?_slot → Ij, wpAny_setField_rec → Il, Around → Io, wpAny_call_entry → Iq, wpAny_field → Iz, Comprehension → ID, sysModules → IQ, assignEach → IS, PyData → IU, mem_of_lookup → Jb, wpAny_newObj_type → Jc, binaryOp → Jg, wpAny_pyIter_tuple → Jj, mainGlobals → Jl, compareOp → Jm, wpAny_rule → Jq, wpAny_pyIter_list → Jr, wpAny_mono → Jy, wpAny_seqItems → JE, foldedSetIterable → JH, cellsFrom → JI, bootBuiltins → JO, DictEntry → JS, wpAny_isInstance → JU, wpAny_Call_Name_kw → JW, Builtin → JZ, cLine → K1, wpAny_passesOwn → K6, wpAny_truthy_bool → K9, wpAny_typeOf → Ka, wpAny_standAt → Kg, swappedStores → Kh, IsPair → Kl, wpAny_attempt → Km, NameKind → Kr, wpAny_of_eq → Kv, call_meets → KH, tupleKind_room_in1 → KJ, wpAny_loadPart' → KR, FuncData → KZ, backTo → Lb, swapsWithSole → Lc, behindInMarks → Ld, tupleKind → Lq, swapsWith → Lr, sliceBounds → Lv, pyNext → Lx, wpAny_pyNext_list_item → Ly, codeAny_mono → LC, Reads → LH, isSubtype_type → LL, wpAny_dictEntries → LO, wpAny_pyNext_list_end → LR, codeAny → Ml, Model → Mn, wpAny_updateSeq_pair → Mq, letOwnedTupleGo → Mr, codeAny_builtin → Mx, Keyword → MA, wpAny_richCompare_same_room → MP, firstArgMember → N6, wpAny_binaryOp_repeat_ref → Ni, standAt → Np, IsZip → Nr, assignInOrder → Nu, rawInt → Nv, attributeBase → Nw, wpAny_newList → Nx, wpAny_comprehension_free → Ny, wpAny_onRaise → Nz, noFill_tuple_add → NI, IsPart → NW, getItem → NX, typeIs_int → O0, IsEnum → O6, wpAny_execs_nil → Oa, pushCells_keeps → Oe, wpAny_ite_false → Of, builtinLookup_eq_fast → Oj, keywordEach → Ou, atKey → Ow, newFunctionEnv → Ox, ZipApart → Oy, wpAny_letGo → OA, wpAny_newTuple → OB, isSubtype_stop → OC, ReadsAll → OG, wpAny_ite_true → OK, wpAny_pyIter_keyiter → OL, callerA → OT, valueAt → OU, seq_tuple_add → OZ, plainId_quiet → P0, mroOf_keyiter → P1, foldedForSure → P6, pyIter → Pc, Operator → Pw, BindsTo → PD, concat_meets → PF, wpAny_sequenceKey → PH, seqIndex_neg → PM, call_meetsIn → PQ, wpAny_pyIter_enum → PV, wpAny_Dict_empty → Qb, pushCells → Qc, wpAny_pyIter_zip → Qg, IsEnumOut → Qh, notIterableAtAll → Qm, entryFor_of_tree → Qn, unpackItems → Qw, seqIndex_of → Qx, wpAny_throw → Qz, richCompare → QB, builtinsNs → QR, wpAny_Name → QS, bindName → QT, bindL → QU, bindC → QV, backToKw → QW, call → QX
open PySem.Heap renaming get?_push_of_some → h7, get?_push_size → Hm, lt_size → Hq, SameBut → J6, size_push → Jh, get?_update_ne → Ju, IsTuple → MJ, get?_update_other → NZ, get?_update_self → Oh, IsList → OD, get?_push_cases → OE, ExtBut → Qy
open Bool renaming and_eq_true → hH, false_ne_true → Hi, false_eq_true → IT, not_eq_true' → Je, false_or → Lg, not_eq_true → LX, false_and → MX, or_eq_true → Og, and_eq_true_iff → OF
open List renaming length_map → q7, getElem?_eq_getElem → z4, length_append → D0, getElem?_append_right → D1, pairwise_append → D2, size_toArray → Hl, append_assoc → Hn, mem_cons → Ho, getElem?_append_left → Hu, mem_append → Hv, range → Hz, mem_append_right → HA, replicate → HB, getElem?_eq_some_iff → HC, length_take → HD, map_cons → HE, mem_map → HF, mem_of_getElem? → HH, length_singleton → HI, getElem?_map → HM, length_range → HQ, toList_toArray → HR, mem_map_of_mem → HS, mem_cons_of_mem → HU, not_mem_nil → HZ, length_eq_zero_iff → I9, mem_range → Ia, length_cons → Ic, getD_eq_getElem?_getD → Ih, map_map → Ip, mem_cons_self → Ir, nodup_iff_pairwise_ne → Iu, filter_cons_of_pos → IA, filter_cons_of_neg → IB, map_congr_left → IE, length_pos_iff → IF, drop_eq_getElem_cons → IG, append_nil → IH, mem_append_left → II, flatten_cons → IJ, length_filter_le → IM, map_append → IV, replicate_succ → IX, take_append_drop → J0, nodup_cons → J4, length_drop → J7, filterMap_cons → J9, pairwise_map → Jd, any_cons → Jp, find?_cons → Jv, length_nil → Jw, any_eq_true → JA, all_cons → JB, mem_iff_getElem → JF, Perm → JJ, dropLast_concat_getLast → JL, flatten_append → JN, drop_eq_nil_of_le → JQ, take_of_length_le → JR, lookup_cons → JT, mem_flatMap → JV, filter_append → JY, perm_append_comm → K0, mem_filter → K5, mem_of_mem_drop → Kb, mem_of_mem_take → Kc, flatMap_cons → Kd, eraseIdx_eq_take_drop_succ → Ko, flatMap_append → Kq, getElem?_cons_succ → Kt, length → Ku, getElem?_set_self → Kx, map_nil → KD, find?_cons_of_neg → KN, forIn_cons → KP, nodup_append → KY, map → L4, zipWith → L7, mem_reverse → L8, all_eq_true → L9, getElem?_take_of_lt → Le, foldl_cons → Li, getElem?_drop → Lo, extract → LI, ext_getElem? → LJ, reverse_perm → LK, find?_cons_of_pos → LP, foldl → LV, getElem_mem → Mg, nodup_range → Mk, getElem?_set_ne → Mo, nil_append → Ms, getElem?_range → Mz, mem_filterMap → MY, pairwise_cons → N8, drop_drop → N9, set_cons_zero → Nf, set_cons_succ → Ng, perm_ext_iff_of_nodup → Nh, idxOf_lt_length_iff → ND, getElem?_replicate → NH, zipIdx_cons → NK, drop_length → NN, cons_append → NO, getElem?_cons_zero → NQ, map_flatMap → NR, of_mem_zip → Ob, pairwise_reverse → Oi, getElem?_eq_none → Ol, pairwise_flatMap → Om, forIn_nil → Oz, getElem?_mapIdx → OH, reverse_reverse → OI, length_reverse → OY, map_take → P7, map_drop → P9, getElem_idxOf → Pq, any_eq_false → Px, take_add_one → PZ, perm_middle → Qi, map_snd_zip → Ql, range'_succ → Qp, map_zipWith → Qt, flatMap_def → Qu, length_set → QI, zipIdx_nil → QK, map_const' → QO
open PyProof.Rows renaming wpS_bind → Hh, Keyed → Hk, pendingOf → Hx, arrOf → Ib, wpS_forRange → Iy, SortSt → IC, callWith_type1 → J1, kindOf → Ja, slot_tuple_getitem → Jx, wpS_modify → Jz, failedOf → JM, SortKind → Lh, wpS_get → Lj, get?_update_seq → Ll, setPending → Ln, listUpdate_at → Mm, mem_zip_self → MQ, assignInOrder_cons → MW, AllBare → Nm, seqSlot_of → NM, subscriptTail_builtinR → NY, envOfC → Oq, entry_tuple_getitem → OV, args_tuple_getitem → Pg, assignInOrder_nil → Pu, IntsAre → PJ, listItems_at → Q1, seqObj → Qk, keyKind'_eq → QC, seqEpoch_at → QE, mergeAt' → QZ
open Nat renaming le_refl → Hr, ne_of_lt → HV, lt_of_lt_of_le → HW, le_trans → Iv, lt_irrefl → Jf, zero_le → Jn, mul_le_mul → Jt, succ_mul → JC, ne_of_gt → JP, mul_le_mul_right → L5, le_of_lt → L6, min_eq_left → Lk, succ_le_succ → LU, mul_comm → MB, sub_self → MM, zero_add → MN, add_assoc → NA, add_sub_cancel → Po, not_lt → QY, succ → R8
open Array renaming toList_append → Hs, toList_push → Hw, getElem?_toList → HJ, length_toList → HN, getElem?_eq_getElem → HY, toList_reverse → I7, toList_extract → JG, size_append → KW, getElem?_eq_none → LN, toList_inj → Mh, map → Mj, size_push → Mw, toList_setIfInBounds → Na, toList → NV, all_eq_true → Q2, filterMap → QN
open PySem.W renaming mg_of → HG, kia_one → J3, fnOf → KA, keepIn → L3, kitx_list → Lz, kitx_dict → LA, cellsFrom_some → LD, codeIn → MZ, methodObj → Nl, instObj → O9, OpenLaw → Oc, lookIn → Oo, kitAny → OM, kitx_float → Pe, kitx_tuple → Pf, kitx_none → Py, kitx_bool → Pz, nsIn → Q5, plainGet → Q6, kitx_int → Q7, kitx_str → Q8
open Int renaming toNat_natCast → HX, eq_ofNat_of_zero_le → Ik, toNat_of_nonneg → IY, ofNat_lt → J8, natCast_mul → K7, natCast_add → Lm, emod_lt_of_pos → Lp, ofNat → Lw, emod_nonneg → My, add_mul → Nt, mul_add → OQ
open PySem.NameKind renaming free → I0, cell → JD
open PySem.Value renaming ref → Ii, type → IZ, none → Ke, bool → NU, int → OR, str → OS, float → Qv
open PySem.PyData renaming eqv → Im, eqvAll → IW, canLayAll0 → J2, depthAll → JK, depth → KL, canLay0 → LM, tuple → PX, list → QA
open List.Perm renaming append_left → Iw, append_right → IK, of_eq → KS, refl → OJ
open PySem.Str renaming ofString → IP
open True renaming intro → Ji
open Option renaming some → Jk, isSome_iff_exists → Ki, map_eq_some_iff → KI, map_some → KQ, bind_some → LY, isSome_some → Pk, getD_none → Q9, join_some → Qq, bind_none → Qr, join_none → Qs
open PySem.F renaming plainAttrs_list → Jo, slot_tuple_iterator_next → JX, slot_enumerate_next → KU, args_tuple_add_2 → Lf, entry_tuple_add → Lu, slot_tuple_add → LF, slot_dict_get → LS, slot_int_rmul → Mt, args_tuple_iterator_next_1 → Mu, slot_zip_next → Mv, entry_tuple_iterator_next → MD, slot_list_insert → NB, args_dict_get_3 → NJ, args_enumerate_next_1 → NL, slot_list_index → NP, entry_dict_get → O1, entry_enumerate_next → O7, slot_dict_eq → ON, args_int_rmul_2 → PN, args_zip_next_1 → PR, entry_int_rmul → Qa, entry_zip_next → Qe, slot_dict_iter → Qo, fills_int_mul → QJ, slot_tuple_lt → QM
open PySem.SeqAt renaming readOf → Js, readOf_eq → K8, EqAt → Ph, eqAt_reads → Qj
open PySem.Builtin.Slice renaming slicePlaces → K2, sliceAdjust → La, sliceApplied → N3
open PySem.Paired renaming length → Kf
open PySem.Builtin.Tuple renaming tupleExact → Kj, tupleCompareSizes → LQ, tupleItemsOf → N4, tupleIsExact → N5, tupleTooMany → N7
open PySem.Builtin.List renaming listTooLong → Kk, listLengthHint → MR, listFitsIndex → Nc
open Function renaming comp → Kn
open LawfulBEq renaming eq_of_beq → Ks
open PySem.Shared renaming heap → Kw
open PySem.Calls renaming spliced_cons → Kz, spliced_nil → LB, callWith_builtin → LG, Name_function_global → MV, evalArgs_plain → Ov
open PySem.Obj renaming mapSeq → KG, data_mapFields → Pm
open ForInStep renaming yield → KO
open PySem.Builtin.Range renaming rangeSize → Ls, rangeFitsLong → MK
open And renaming intro → LW
open PyProof.Rows.SortSt renaming mk' → LZ
open PySem.Data renaming seq → Mp
open PyProof.Rows.IsTup renaming new → MU
open PySem.Builtin.Dict_items renaming isOneOf → Nb
open PySem.Builtin.Dict renaming dictSlotArgs → Nj, samePairs → O8
open Classical renaming byContradiction → Nk
open List.Pairwise renaming nil → Nq
open PySem.Env renaming blockKind → NF, kindOf → Pt
open Prod.mk renaming injEq → NG
open Sum renaming inl → NS, inr → NT
open Prod renaming ext → Ot
open PySem.Expr renaming Subscript → OO, Attribute → OP, Constant → P2, ListComp → P4, UnaryOp → Q3, Compare → Q4, BoolOp → QF, BinOp → R0, IfExp → R3, Tuple → R4, Slice → R5, Name → R9, List → Ra, Call → Rb, Dict → Rc
open PySem.Heap.SameBut renaming update → OW
open PySem.Builtin.Int renaming intBits → OX
open PySem.Stmt renaming Continue → P5, Assign → QG, Return → QH, While → R6, Break → R7, Expr → Rf, Pass → Rg
open PySem.SeqAt.EqAt renaming int_str → Pa, str_int → Pb, int_int → Pj
open PySem.Around renaming in1_handled → Pn, under_plain → Pp
open PySem.Heap.IsTuple renaming push → PU
open Option.some renaming injEq → PY
open Exists renaming intro → Q0
open PySem.Heap.IsList renaming push → Qf
open List.cons renaming injEq → QL
open Iff renaming rfl → QP
namespace L2
open PySem PySem.Spec PyProof.Rows
section
noncomputable abbrev Key:=Sum Int Str
noncomputable def hJ:Key->h6->Bool
 | .inl k,v=>Value.isInt k v
 | .inr x,v=>Value.isStrOf x v
noncomputable def Ex (w:Ie):Key->Int
 | .inl k=>hashInt k
 | .inr x=>hashStr w x
theorem aY:∀ {k:Key} {v:h6},hJ k v=true->(∃ i t,k=NS i/\v=OR i t)∨(∃ x t,k=NT x/\v=OS x t)
 | .inl i,v,h=>by
  obtain ⟨t,e⟩:=Value.isInt_shape (k:=i) (v:=v) h;exact .inl ⟨i,t,rfl,e⟩
 | .inr x,v,h=>by
  obtain ⟨t,e⟩:=Value.isStrOf_shape (x:=x) (v:=v) h;exact .inr ⟨x,t,rfl,e⟩
theorem ud (i:Int) (t:Tok):hJ (.inl i) (.int i t)=true:=by simp [hJ,Value.isInt]
theorem ue (x:Str) (t:Tok):hJ (.inr x) (.str x t)=true:=by simp [hJ,Value.isStrOf]
theorem BI (a b:Int):decide ((NS a:Key)=NS b)=(a==b):=by
 by_cases e:a=b
 ·subst e;simp
 ·have h : ¬ (NS a:Key)=NS b:=fun q=>e (NS.inj q);rw [decide_eq_false h];exact (beq_eq_false_iff_ne.mpr e).symm
theorem BJ (a b:Str):decide ((NT a:Key)=NT b)=decide (a=b):=by
 by_cases e:a=b
 ·subst e;simp
 ·have h : ¬ (NT a:Key)=NT b:=fun q=>e (NT.inj q);rw [decide_eq_false h,decide_eq_false e]
theorem BK (a:Int) (b:Str):decide ((NS a:Key)=NT b)=false:=decide_eq_false (fun q=>nomatch q)
theorem BL (a:Str) (b:Int):decide ((NT a:Key)=NS b)=false:=decide_eq_false (fun q=>nomatch q)
noncomputable def aN (prog:HK) (w:Ie):PySem.KeyKind prog w Key where
 is:=hJ
 hash:=Ex w
 inj:=fun v a b ha hb=>by
  rcases aY ha with ⟨i,t,rfl,rfl⟩ | ⟨x,t,rfl,rfl⟩
  ·rcases aY hb with ⟨j,u,rfl,e⟩ | ⟨y,u,rfl,e⟩
   ·injection e with e1 _;rw [e1]
   ·exact nomatch e
  ·rcases aY hb with ⟨j,u,rfl,e⟩ | ⟨y,u,rfl,e⟩
   ·exact nomatch e
   ·injection e with e1 _;rw [e1]
 byValue:=fun k v h=>by
  rcases aY h with ⟨i,t,rfl,rfl⟩ | ⟨x,t,rfl,rfl⟩ <;> rfl
 pyHash:=fun hv h=>by
  rcases aY hv with ⟨i,t,rfl,rfl⟩ | ⟨x,t,rfl,rfl⟩
  ·exact wpAny_pyHash_int h
  ·exact wpAny_pyHash_str h
 eqBool:=fun hu hv h=>by
  rcases aY hu with ⟨i,t,rfl,rfl⟩ | ⟨x,t,rfl,rfl⟩
  ·rcases aY hv with ⟨j,u,rfl,rfl⟩ | ⟨y,u,rfl,rfl⟩
   ·rw [BI] at h;exact wpAny_eqBool_int h
   ·rw [BK] at h;exact Pa i t y u _ _ _ _ h
  ·rcases aY hv with ⟨j,u,rfl,rfl⟩ | ⟨y,u,rfl,rfl⟩
   ·rw [BL] at h;exact Pb x t j u _ _ _ _ h
   ·rw [BJ] at h;exact wpAny_eqBool_str h
 «strs» := fun k x t v h=>by
  rcases aY h with ⟨i,u,rfl,e⟩ | ⟨y,u,rfl,e⟩
  ·exact nomatch e
  ·injection e with e1 _
   subst e1
   cases v <;> rfl
theorem qr (prog:HK) (w:Ie) (i:Int) (t:Tok):(aN prog w).is (.inl i) (.int i t)=true:=ud i t
theorem qt (prog:HK) (w:Ie) (x:Str) (t:Tok):(aN prog w).is (.inr x) (.str x t)=true:=ue x t
end
section
inductive V where
 | non | bl (b:Bool) | int (i:Int) | str (x:Str) | byt (b:Array UInt8) | flt (b:UInt64) | ref (a:Addr) | ty (n:String)
 deriving DecidableEq
noncomputable def RelV:V->h6->Prop
 | .non,u=>u=Ke
 | .bl b,u=>u=NU b
 | .int i,u => ∃ t,u=OR i t
 | .str x,u => ∃ t,u=OS x t
 | .byt b,u => ∃ t,u=Value.bytes b t
 | .flt b,u => ∃ t,u=Qv b t
 | .ref a,u=>u=Ii a
 | .ty n,u=>u=IZ n
noncomputable abbrev Vals:List V->List h6->Prop:=Ig RelV
theorem Vals.length {xs:List V} {us:List h6} (r:Vals xs us):xs.length=us.length:=Kf r
theorem Vals.get:∀ {xs:List V} {us:List h6} {i:Nat} {x:V},Vals xs us->xs[i]? = some x -> ∃ u,us[i]? = some u/\RelV x u
 | _,_,_,_, .nil,e=>by simp at e
 | _,_,0,_, .cons r _,e=>by simp at e;subst e;exact ⟨_,rfl,r⟩
 | _,_,i+1,x, .cons _ t,e=>by
   obtain ⟨u,h1,h2⟩:=Vals.get (i:=i) (x:=x) t (by simpa using e)
   exact ⟨u,by simpa using h1,h2⟩
theorem Vals.set {x:V} {u:h6} (r:RelV x u):∀ {xs:List V} {us:List h6} (i:Nat),Vals xs us->Vals (xs.set i x) (us.set i u)
 | _,_,_, .nil => .nil
 | _,_,0, .cons _ t => .cons r t
 | _,_,i+1, .cons q t => .cons q (Vals.set r i t)
theorem Vals.append:∀ {xs ys:List V} {us ws:List h6},Vals xs us->Vals ys ws->Vals (xs++ys) (us++ws)
 | _,_,_,_, .nil,s=>s
 | _,_,_,_, .cons r t,s => .cons r (Vals.append t s)
theorem Vals.take:∀ {xs:List V} {us:List h6} (n:Nat),Vals xs us->Vals (xs.take n) (us.take n)
 | _,_,0,_ => .nil
 | _,_,_+1, .nil => .nil
 | _,_,n+1, .cons r t => .cons r (Vals.take n t)
theorem Vals.drop:∀ {xs:List V} {us:List h6} (n:Nat),Vals xs us->Vals (xs.drop n) (us.drop n)
 | _,_,0,r=>r
 | _,_,_+1, .nil => .nil
 | _,_,n+1, .cons _ t=>Vals.drop n t
noncomputable def RelO:Option V->Option h6->Prop
 | some v,some u=>RelV v u
 | none,none=>True
 | _,_=>False
noncomputable def KV {κ:Type}:List (κ × V)->List (κ × h6)->Prop:=Ig fun (p : κ × V) (q : κ × h6)=>p.1=q.1/\RelV p.2 q.2
noncomputable def kV:Key->V
 | .inl i => .int i
 | .inr x => .str x
inductive HO where
 | lst (xs:List V)
 | tup (xs:List V)
 | dK (kvs:List (Key×V)) | dT (kvs:List (List Key×V))
 | set (S:Int->Bool) (n:Nat)
 | ins (C dx:Addr) (fs:List (Str×V))
 | own (x:Addr)
 | xd (fs:List (Str×V))
 | met (f x:Addr)
 | rng (lo hi:Int)
 | frz (o:Obj) (u:HO)
 | tbl (ps:Array h6)
 | ext (φ:Heap->Prop)
noncomputable abbrev Hp:=Addr->Option HO
noncomputable def upd (H:Hp) (a:Addr) (o:HO):Hp:=fun b=>if b=a then some o else H b
theorem az {H:Hp} {a:Addr} {o:HO}:upd H a o a=some o:=by unfold upd;rw [if_pos rfl]
theorem am {H:Hp} {a b:Addr} {o:HO} (h:b≠a):upd H a o b=H b:=by unfold upd;rw [if_neg h]
theorem A9 {H:Hp} {a:Addr} {o u:HO}:upd (upd H a o) a u=upd H a u:=by
 funext b;unfold upd;split <;> rfl
theorem zx {H:Hp} {a b:Addr} {o u:HO} (h:H a=some o) (h':H b=some u) (d:o≠u):a≠b:=by
 intro e;subst e;rw [h] at h';exact d (Jk.inj h')
theorem bm {H:Hp} {a b:Addr} {o:HO} (h:H a=some o) (h':H b=none):a≠b:=by
 intro e;subst e;rw [h] at h';cases h'
section
variable (P:HK) (w:Ie)
noncomputable def ObjOk (H:Hp) (h:Heap) (a:Addr):HO->Prop
 | .lst xs=>xs.length<=Hj /\ ∃ (its:List h6) (n:Nat),Vals xs its/\h.get? a=some { cls := .type "list",data := .seq its.toArray n }
 | .tup xs=>xs.length<=Hj /\ ∃ its:List h6,Vals xs its/\IsTup h a its.toArray
 | .dK kvs=>kvs.length<=Hj/\(a==IQ)=false /\ ∃ vs,KV kvs vs/\h.DictOf (aN P w) a vs
 | .dT kvs=>kvs.length<=Hj/\(a==IQ)=false /\ ∃ xs:List (List Key×Addr×h6),
  Ig (fun (p:List Key×V) (q:List Key×Addr×h6)=>p.1=q.1/\H q.2.1=some (.tup (p.1.map kV))/\RelV p.2 q.2.2) kvs xs /\
  ∃ o es ep,h.get? a=some o/\o.ExactDict/\o.data = .dict es ep/\es.toList=xs.map (entryOfKey (Lq (aN P w)))/\(xs.map (·.1)).Nodup
 | .set S n=>h.SetOf (intKind P w) a S n
 | .ins C dx fs=>H dx=some (.own a)/\fs.length<=1000/\dx≠a/\h.get? a=some (O9 C dx) /\
  ∃ mA,h.Ns1 dx mA/\(∀ f,RelO (fs.lookup f) (mA f))/\PySem.Within mA (fs.map (·.1))
 | .own _ => ∃ o,h.get? a=some o
 | .xd fs => ∃ mA,h.Ns1 a mA /\ ∀ f,RelO (fs.lookup f) (mA f)
 | .rng lo hi => ∃ t u v,h.get? a=some { cls := .type "range",data := .fields #[.int lo t, .int hi u, .int 1 v] }
 | .frz o u=>h.get? a=some o/\ObjOk H h a u
 | .tbl ps=>h.get? a=some { cls := .none,data := .fields ps }
 | .met f x=>h.get? a=some (Nl (.ref f) (.ref x))
 | .ext φ => φ h/\(∃ o,h.get? a=some o) /\ ∀ h1 h2:Heap, φ h1->(∀ o,h1.get? a=some o->h2.get? a=some o) -> φ h2
def HOk (H:Hp) (h:Heap):Prop := ∀ a o,H a=some o->ObjOk P w H h a o
end
section
variable {P:HK} {w:Ie} {H H':Hp} {h h':Heap} {a:Addr} {o:HO}
theorem ObjOk.lt (x:ObjOk P w H h a o):a < h.objs.size:=by
 cases o with
 | lst xs=>obtain ⟨_,_,_,_,e⟩:=x;exact Hq e
 | tup xs=>obtain ⟨_,_,_,p⟩:=x;exact p.lt
 | dK kvs=>obtain ⟨_,_,_,_,o,_,_,e,_⟩:=x;exact Hq e
 | dT kvs=>obtain ⟨_,_,_,_,o,_,_,e,_⟩:=x;exact Hq e
 | set S n=>obtain ⟨o,_,_,_,e,_⟩:=x;exact Hq e
 | ins C dx fs=>obtain ⟨_,_,_,e,_⟩:=x;exact Hq e
 | own y=>obtain ⟨_,e⟩:=x;exact Hq e
 | xd fs=>obtain ⟨_,⟨_,_,_,e,_⟩,_⟩:=x;exact Hq e
 | rng lo hi=>obtain ⟨_,_,_,e⟩:=x;exact Hq e
 | frz ob u=>obtain ⟨e,_⟩:=x;exact Hq e
 | tbl ps=>exact Hq (show h.get? a=some _ from x)
 | met f y=>exact Hq (show h.get? a=some _ from x)
 | ext φ => obtain ⟨_,⟨_,e⟩,_⟩:=x;exact Hq e
theorem Rl {α β:Type} {F G : α -> β -> Prop}:∀ {l₁:List α} {l₂:List β},Ig F l₁ l₂ -> (∀ a b,F a b->G a b)->Ig G l₁ l₂
 | _,_, .nil,_ => .nil
 | _,_, .cons r t,f => .cons (f _ _ r) (Rl t f)
theorem ObjOk.stay (x:ObjOk P w H h a o) (k:∀ b u,(b=a∨H b=some (.own a))->h.get? b=some u->h'.get? b=some u)
 (ho:∀ b,H b=some (.own a)->H' b=some (.own a)) (j:∀ b xs,H b=some (.tup xs)->H' b=some (.tup xs)):ObjOk P w H' h' a o:=by
 induction o with
 | lst xs=>obtain ⟨z,its,n,r,e⟩:=x;exact ⟨z,its,n,r,k _ _ (.inl rfl) e⟩
 | tup xs=>obtain ⟨z,its,r,ob,e,c⟩:=x;exact ⟨z,its,r,ob,k _ _ (.inl rfl) e,c⟩
 | dK kvs=>obtain ⟨z,y,vs,r,ob,es,ep,e,c⟩:=x;exact ⟨z,y,vs,r,ob,es,ep,k _ _ (.inl rfl) e,c⟩
 | dT kvs =>
   obtain ⟨z,y,xs,r,ob,es,ep,e,c⟩:=x;exact ⟨z,y,xs,Rl r fun p q z=>⟨z.1,j _ _ z.2.1,z.2.2⟩,ob,es,ep,k _ _ (.inl rfl) e,c⟩
 | set S n=>obtain ⟨ob,es,ep,t,e,c⟩:=x;exact ⟨ob,es,ep,t,k _ _ (.inl rfl) e,c⟩
 | ins C dx fs =>
   obtain ⟨d,z,ne,e,mA,⟨od,es,ep,e2,c⟩,r⟩:=x;exact ⟨ho _ d,z,ne,k _ _ (.inl rfl) e,mA,⟨od,es,ep,k _ _ (.inr d) e2,c⟩,r⟩
 | own y=>obtain ⟨ob,e⟩:=x;exact ⟨ob,k _ _ (.inl rfl) e⟩
 | xd fs=>obtain ⟨mA,⟨od,es,ep,e,c⟩,r⟩:=x;exact ⟨mA,⟨od,es,ep,k _ _ (.inl rfl) e,c⟩,r⟩
 | rng lo hi=>obtain ⟨t,u,v,e⟩:=x;exact ⟨t,u,v,k _ _ (.inl rfl) e⟩
 | frz ob u ih=>obtain ⟨e,q⟩:=x;exact ⟨k _ _ (.inl rfl) e,ih q⟩
 | tbl ps =>
   have e:h.get? a=some { cls := .none,data := .fields ps }:=x;show h'.get? a=some { cls := .none,data := .fields ps };exact k a _ (.inl rfl) e
 | met f y =>
   have e:h.get? a=some (Nl (.ref f) (.ref y)):=x;show h'.get? a=some (Nl (.ref f) (.ref y));exact k a _ (.inl rfl) e
 | ext φ => obtain ⟨p,⟨o,e⟩,st⟩:=x;exact ⟨st _ _ p fun o q=>k _ _ (.inl rfl) q,⟨o,k _ _ (.inl rfl) e⟩,st⟩
theorem HOk.lt (x:HOk P w H h) (e:H a=some o):a < h.objs.size:=(x a o e).lt
theorem HOk.fresh (x:HOk P w H h) (e:h.objs.size<=a):H a=none:=by
 cases q:H a with
 | none=>rfl
 | some u=>exact absurd (HW (x.lt q) e) (Jf _)
theorem HOk.kept (x:HOk P w H h) (k:∀ b u,h.get? b=some u->h'.get? b=some u):HOk P w H h':=fun a o e =>
 (x a o e).stay (fun b u _ q=>k b u q) (fun _ q=>q) fun _ _ q=>q
theorem HOk.laid (x:HOk P w H h) (k:∀ b u,h.get? b=some u->h'.get? b=some u) (z:h.objs.size<=a) (new:ObjOk P w (upd H a o) h' a o):HOk P w (upd H a o) h':=fun b u e=>by
 have j:=x.fresh z
 by_cases hb:b=a
 ·subst hb;rw [az] at e;cases e;exact new
 ·rw [am hb] at e;exact (x b u e).stay (fun c v _ q=>k c v q) (fun c q=>by rw [am (bm q j)];exact q) fun c xs q=>by rw [am (bm q j)];exact q
end
def Rd (H:Hp) (a:Addr) (u:HO):Prop:=H a=some u ∨ ∃ o,H a=some (.frz o u)
theorem Rd.of {H:Hp} {a:Addr} {u:HO} (h:H a=some u):Rd H a u := .inl h
theorem Rd.ok {P:HK} {w:Ie} {H:Hp} {h:Heap} {a:Addr} {u:HO} (r:Rd H a u) (x:HOk P w H h):ObjOk P w H h a u:=by
 rcases r with r | ⟨o,r⟩
 ·exact x a u r
 ·obtain ⟨_,q⟩:=x a _ r;exact q
noncomputable def Mut:Option HO->Prop
 | some (.lst _)=>True
 | some (.dK _)=>True
 | some (.dT _)=>True
 | some (.set _ _)=>True
 | some (.ins _ _ _)=>True
 | some (.ext _)=>True
 | _=>False
section
variable {P:HK} {w:Ie} {H:Hp} {h h':Heap} {x e:Addr} {o':HO}
theorem HOk.write (ok:HOk P w H h) (mu:Mut (H x)) (he:e=x∨H e=some (.own x)) (k:∀ b u,b≠e->h.get? b=some u->h'.get? b=some u) (F:∃ u,h'.get? e=some u)
 (new:ObjOk P w (upd H x o') h' x o'):HOk P w (upd H x o') h':=fun b u q=>by
 have nown:∀ c y,H c=some (.own y)->c≠x:=fun c y r z=>by subst z;rw [r] at mu;exact mu
 have ntup:∀ c xs,H c=some (.tup xs)->c≠x:=fun c xs r z=>by subst z;rw [r] at mu;exact mu
 by_cases hb:b=x
 ·subst hb;rw [az] at q;cases q;exact new
 ·rw [am hb] at q
  by_cases j:b=e
  ·have q':H b=some (.own x):=by
    rcases he with z | z
    ·exact absurd (j.trans z) hb
    ·rw [j];exact z
   rw [q] at q';cases q';obtain ⟨v,G⟩:=F;exact ⟨v,by rw [j];exact G⟩
  ·refine (ok b u q).stay (fun c v B r=>k c v ?_ r) (fun c r=>by rw [am (nown c b r)];exact r) fun c xs r=>by rw [am (ntup c xs r)];exact r
   rcases B with rfl | B
   ·exact j
   ·rintro rfl
    rcases he with z | z
    ·exact nown c b B z
    ·rw [B] at z;cases z;exact hb rfl
end
structure Un (fs ex:List Addr) (H H':Hp) (h h':Heap):Prop where
 keep:∀ b o,h.get? b=some o->H b=none->b∉fs->b∉ex->h'.get? b=some o
 slot:∀ b o,h.get? b=some o->H b=none->b∈fs->b∉ex -> ∃ sl,h'.get? b=some { o with slots:=sl }
 free:∀ b o,h.get? b=some o->H b=none->b∉ex->H' b=none
 there:∀ b o,h.get? b=some o->b∉ex -> ∃ o',h'.get? b=some o'
 tups:∀ b xs,H b=some (.tup xs)->H' b=some (.tup xs)
 frzs:∀ b o u,H b=some (.frz o u)->H' b=some (.frz o u)
 tbls:∀ b ps,H b=some (.tbl ps) -> ∃ more,H' b=some (.tbl (ps++more))
section
variable {fs fs' ex ex':List Addr} {H H1 H2:Hp} {h h1 h2 h':Heap} {a x e:Addr} {o:HO}
theorem Un.any (u:Un fs ex H H1 h h1) {b:Addr} {ob:Obj} (q:h.get? b=some ob) (n:H b=none) (hx:b∉ex):∃ sl,h1.get? b=some { ob with slots:=sl }:=by
 by_cases j:b∈fs
 ·exact u.slot b ob q n j hx
 ·exact ⟨ob.slots,u.keep b ob q n j hx⟩
theorem Un.kept (k:∀ b u,h.get? b=some u->h'.get? b=some u):Un fs ex H H h h' :=
 ⟨fun b ob q _ _ _=>k b ob q,fun b ob q _ _ _=>⟨ob.slots,k b ob q⟩,fun _ _ _ n _=>n,fun b ob q _=>⟨ob,k b ob q⟩,fun _ _ q=>q,fun _ _ _ q=>q,fun _ ps q=>⟨#[],by rw [q];simp⟩⟩
theorem Un.refl:Un fs ex H H h h:=Un.kept fun _ _ q=>q
theorem Un.laid (k:∀ b u,h.get? b=some u->h'.get? b=some u) (z:h.objs.size<=a) (j:H a=none):Un fs ex H (upd H a o) h h' where
 keep:=fun b u q _ _ _=>k b u q
 slot:=fun b u q _ _ _=>⟨u.slots,k b u q⟩
 free:=fun b u q n _=>by rw [am (HV (HW (Hq q) z))];exact n
 there:=fun b u q _=>⟨u,k b u q⟩
 tups:=fun b xs q=>by rw [am (bm q j)];exact q
 frzs:=fun b u xs q=>by rw [am (bm q j)];exact q
 tbls:=fun b ps q=>⟨#[],by rw [am (bm q j),q];simp⟩
theorem Un.write (mu:Mut (H x)) (he:e=x∨H e=some (.own x)) (k:∀ b u,b≠e->h.get? b=some u->h'.get? b=some u) (B:∃ u,h'.get? e=some u):Un fs ex H (upd H x o) h h':=by
 have hx:∀ b,H b=none->b≠x:=fun b n z=>by subst z;rw [n] at mu;exact mu
 have F:∀ b,H b=none->b≠e:=fun b n z=>by
  subst z
  rcases he with r | r
  ·exact hx b n r
  ·rw [n] at r;cases r
 have hm:∀ b u,H b=some u -> ¬ Mut (some u)->b≠x:=fun b u q nm z=>by subst z;rw [q] at mu;exact nm mu
 refine ⟨fun b u q n _ _=>k b u (F b n) q,fun b u q n _ _=>⟨u.slots,k b u (F b n) q⟩,fun b u q n _=>by rw [am (hx b n)];exact n,fun b u q _ => ?_,
  fun b xs q=>by rw [am (hm b _ q fun z=>z)];exact q,fun b u xs q=>by rw [am (hm b _ q fun z=>z)];exact q,fun b ps q=>⟨#[],by rw [am (hm b _ q fun z=>z),q];simp⟩⟩
 by_cases j:b=e
 ·subst j;exact B
 ·exact ⟨u,k b u j q⟩
end
noncomputable def trk (h:Heap) (H:Hp):List Addr:=(Hz h.objs.size).filter fun a=>(H a).isSome
noncomputable def fK (h:Heap) (H:Hp):Heap:=PySem.W.hideAll h (trk h H)
theorem uf (h:Heap) (H:Hp):(fK h H).objs.size=h.objs.size:=PySem.W.hideAll_size _ _
theorem wZ {h:Heap} {H:Hp} {b:Addr} {o:Obj} (e:h.get? b=some o) (n:H b=none):(fK h H).get? b=some o :=
 PySem.W.hideAll_get _ e fun hm=>by
  have q:(H b).isSome=true:=(K5.mp hm).2;rw [n] at q;simp at q
theorem Aa {h:Heap} {H:Hp} {b:Addr} {o:Obj} (e:(fK h H).get? b=some o):h.get? b=some o/\H b=none:=by
 have e':h.get? b=some o:=PySem.W.of_hideAll (trk h H) e;refine ⟨e', ?_⟩
 cases q:H b with
 | none=>rfl
 | some x =>
   have hm:b∈trk h H:=K5.mpr ⟨Ia.mpr (Hq e'),by simp [q]⟩
   have z:(fK h H).get? b=none:=PySem.W.hideAll_none (trk h H) hm;rw [z] at e;cases e
noncomputable def Ab (g h:Heap) (L:Addr):List (Addr×Obj):=(Hz h.objs.size).filterMap fun a=>if a=L∨(g.get? a).isSome=true then none else (h.get? a).map fun o=>(a,o)
noncomputable def rest (g h:Heap) (L d:Addr):List (Addr×Obj):=(Ab g h L).filter fun p=>decide (p.1≠d)
end
section
structure Mod (K:Frag) (mg:Str->Option h6) (base:Heap):Prop where
 kin:K.In base
 glob:base.Ns Jl mg
 blt:∃ mb,base.Ns QR mb /\ ∀ x:Str,x ≠ "__name__" -> mb x=JO x
 nolimit:base.NoLimit
structure Cx where
 prog:HK
 w:Ie
 K:Frag
 mg:Str->Option h6
 base:Heap
 A:Io
 N:List Str
 s₀:hI
 H₀:Hp
 env:Env
 outer:List Env
 stack:List Env
 ex:List Addr
 fn:Str->Bool
 calm:Bool
 pn:List (Addr×Obj)
 xe:h6->hI->Prop
noncomputable def frs (l:List Env):List Addr:=l.filterMap (·.frame)
noncomputable abbrev Cx.fs (X:Cx):List Addr:=frs X.outer
def Vis (sc:Scope) (x:Str):Prop:=sc.names.lookup x=some .local∨sc.names.lookup x=some .cell∨sc.names.lookup x=some .free
def Loc (sc:Scope) (x:Str):Prop:=sc.names.lookup x=some .local∨sc.names.lookup x=some .cell
def Ey (env:Env) (h:Heap) (m:Str->Option h6) (x:Str) (u:h6):Prop :=
 (env.kindOf x=some .local/\m x=some u)∨((env.kindOf x=some .cell∨env.kindOf x=some .free) /\ ∃ c,env.cells.lookup x=some c/\h.IsCell c (some u))
structure Cx.Ok (X:Cx):Prop where
 mod:Mod X.K X.mg X.base
 kind:X.env.scope.kind = .function
 glob:X.env.globals=Jl
 blt:X.env.builtins=QR
 above:X.s₀.heap.objs.size<=X.env.locals
 inj:∀ x y c,X.env.cells.lookup x=some c->X.env.cells.lookup y=some c->x=y
 has:∀ x,(X.env.kindOf x=some .cell∨X.env.kindOf x=some .free) -> ∃ c,X.env.cells.lookup x=some c
 cab:∀ x c,X.fn x=true->X.env.cells.lookup x=some c->X.s₀.heap.objs.size<=c
 hd:X.calm=true->X.A.handled=none
 frames:X.A.frames=some X.stack
 stk:X.stack=X.outer∨(X.stack=X.env::X.outer/\X.env.frame=some X.env.locals)
 exf:∀ b∈X.ex,b≠X.env.locals /\ ∀ x c,X.env.cells.lookup x=some c->c≠b
 bs:∀ b o,X.base.get? b=some o->X.s₀.heap.get? b=some o/\X.H₀ b=none
 bsz:X.base.objs.size<=X.s₀.heap.objs.size
 noex:∀ b o,X.base.get? b=some o->b∉X.ex
 exfs:∀ b∈X.ex,b∉X.fs
 funs:X.s₀.heap.FunFrames X.base X.outer
 frf:∀ b∈X.fs,X.H₀ b=none
structure Inv (X:Cx) (pins:List (Addr×Obj)) (σ:List (Option V)) (H:Hp) (s:hI):Prop where
 ok:X.Ok
 os:s.os=X.s₀.os
 bare:Nm s.gens
 base:Un X.fs X.ex X.H₀ H X.s₀.heap s.heap
 loc:∃ m,s.heap.Ns X.env.locals m /\ ∀ (i:Nat) (x:Str) (v:V),X.N[i]? = some x -> σ[i]? = some (some v)->Vis X.env.scope x -> ∃ u,RelV v u/\Ey X.env s.heap m x u
 cell:∀ x c,X.env.cells.lookup x=some c -> ∃ v,s.heap.IsCell c v
 free:H X.env.locals=none
 freeC:∀ x c,X.env.cells.lookup x=some c->H c=none
 pin:∀ p∈X.pn++pins,s.heap.get? p.1=some p.2/\H p.1=none/\p.1≠X.env.locals/\p.1∉X.fs /\ ∀ v,p.2.data ≠ .cell v
 hok:HOk X.prog X.w H s.heap
 len : σ.length=X.N.length
section
variable {X:Cx} {pins:List (Addr×Obj)} {σ:List (Option V)} {H H':Hp} {s:hI} {h':Heap}
theorem Cx.Ok.nofr (ok:X.Ok) {b:Addr} {o:Obj} (e:X.base.get? b=some o):b∉X.fs:=fun j=>by
 have:=(ok.funs.mem j).1;rw [e] at this;cases this
theorem Inv.bs (I:Inv X pins σ H s):∀ b o,X.base.get? b=some o->s.heap.get? b=some o/\H b=none:=fun b o e =>
 ⟨I.base.keep b o (I.ok.bs b o e).1 (I.ok.bs b o e).2 (I.ok.nofr e) (I.ok.noex b o e),I.base.free b o (I.ok.bs b o e).1 (I.ok.bs b o e).2 (I.ok.noex b o e)⟩
theorem Inv.bk (I:Inv X pins σ H s):∀ b o,X.base.get? b=some o->s.heap.get? b=some o:=fun b o e=>(I.bs b o e).1
theorem Inv.mod (I:Inv X pins σ H s):Mod X.K X.mg X.base:=I.ok.mod
theorem Inv.kIn (I:Inv X pins σ H s):X.K.In s.heap:=I.ok.mod.kin.keeps I.bk
theorem Inv.fr (I:Inv X pins σ H s):∃ m,Fr X.base X.env.locals s.heap m :=
 let ⟨m,j,_⟩:=I.loc
 ⟨m,j,I.bk,Iv I.ok.bsz I.ok.above⟩
theorem Inv.lt (I:Inv X pins σ H s):X.env.locals < s.heap.objs.size:=let ⟨_,j,_⟩:=I.loc;j.lt
theorem Inv.sz (I:Inv X pins σ H s):X.s₀.heap.objs.size<=s.heap.objs.size:=Iv I.ok.above (L6 I.lt)
theorem Inv.nofs (I:Inv X pins σ H s) {a:Addr} (h:s.heap.objs.size<=a):a∉X.fs:=fun j=>by
 obtain ⟨_,o,ho,_⟩:=I.ok.funs.mem j;exact absurd (HW (Hq ho) (Iv I.sz h)) (Jf _)
theorem Inv.cne (I:Inv X pins σ H s):∀ x c,X.env.cells.lookup x=some c->c≠X.env.locals:=fun x c e z=>by
 obtain ⟨v,o,ho,hd⟩:=I.cell x c e;obtain ⟨m,⟨o',es,ep,j,q,_⟩,_⟩:=I.loc;rw [z,j] at ho;cases ho;rw [q] at hd;cases hd
theorem Inv.funs (I:Inv X pins σ H s):s.heap.FunFrames X.base X.outer:=by
 have all:∀ (l:List Env),(∀ b∈frs l,b∈X.fs)->X.s₀.heap.FunFrames X.base l->s.heap.FunFrames X.base l:=by
  intro l
  induction l with
  | nil=>intro _ _;trivial
  | cons env r ih =>
    intro hs B;obtain ⟨F,⟨L,o,hf,G,ho,hd⟩,J⟩:=B;have j:L∈X.fs:=hs L (by unfold frs;rw [J9,hf];exact Ir)
    obtain ⟨sl,e⟩:=I.base.slot L o ho (I.ok.frf L j) j fun z=>I.ok.exfs L z j;exact ⟨F,⟨L,_,hf,G,e,hd⟩,ih (fun b q=>hs b (by unfold frs;rw [J9,hf];exact HU _ q)) J⟩
 exact all X.outer (fun _ q=>q) I.ok.funs
theorem Inv.stack (I:Inv X pins σ H s):s.heap.FunFrames X.base X.stack:=by
 rcases I.ok.stk with e | ⟨e,hf⟩
 ·rw [e];exact I.funs
 ·rw [e];obtain ⟨m,j,_⟩:=I.loc;refine .cons (by rw [I.ok.kind];decide) hf j ?_ I.funs
  exact Heap.get?_none_of_le (Iv I.ok.bsz I.ok.above)
theorem Inv.stkSub (I:Inv X pins σ H s):∀ b∈frs X.stack,b∈X.env.locals::X.fs:=fun b j=>by
 rcases I.ok.stk with e | ⟨e,hf⟩
 ·rw [e] at j;exact HU _ j
 ·rw [e] at j;unfold frs at j;rw [J9,hf] at j;exact j
theorem Inv.stkFree (I:Inv X pins σ H s):∀ b∈frs X.stack,H b=none:=fun b j=>by
 rcases Ho.mp (I.stkSub b j) with e | j
 ·rw [e];exact I.free
 ·obtain ⟨_,o,ho,_⟩:=I.ok.funs.mem j;exact I.base.free b o ho (I.ok.frf b j) fun z=>I.ok.exfs b z j
theorem Inv.step {g':Array GenState} {t':Nat} {d':Drawn} {ch:List Addr} (I:Inv X pins σ H s)
 (j:∀ b∈ch,(b∈X.ex∨X.s₀.heap.objs.size<=b)/\b≠X.env.locals/\(∀ x c,X.env.cells.lookup x=some c->c≠b) /\ ∀ p∈X.pn++pins,p.1≠b)
 (keep:∀ b o,b≠X.env.locals->b∉X.fs->b∉ch->s.heap.get? b=some o->H b=none->h'.get? b=some o)
 (slot:∀ b o,b≠X.env.locals->b∈X.fs->b∉ch->s.heap.get? b=some o->H b=none -> ∃ sl,h'.get? b=some { o with slots:=sl }) (free:∀ b o,b∉ch->s.heap.get? b=some o->H b=none->H' b=none)
 (there:∀ b o,b∉ch->s.heap.get? b=some o -> ∃ o',h'.get? b=some o')
 (tups:∀ b xs,H b=some (.tup xs)->H' b=some (.tup xs)) (frzs:∀ b o u,H b=some (.frz o u)->H' b=some (.frz o u)) (tbls:∀ b ps,H b=some (.tbl ps) -> ∃ more,H' b=some (.tbl (ps++more)))
 (ns:∀ m,s.heap.Ns X.env.locals m->h'.Ns X.env.locals m) (hok:HOk X.prog X.w H' h') (J:Nm g') :
 Inv X pins σ H' { s with heap:=h',gens:=g',drawn:=d',toks:=t' }:=by
 have neL:∀ b o,X.s₀.heap.get? b=some o->b≠X.env.locals:=fun b o e=>HV (HW (Hq e) I.ok.above);have neC:∀ b o,X.s₀.heap.get? b=some o->b∉X.ex->b∉ch:=fun b o e hx B=>by
  rcases (j b B).1 with z | z
  ·exact hx z
  ·exact absurd (HW (Hq e) z) (Jf _)
 have cellK:∀ x c,X.env.cells.lookup x=some c -> ∀ v,s.heap.IsCell c v->h'.IsCell c v:=fun x c e v ⟨o,ho,hd⟩=>by
  have nch:c∉ch:=fun z=>(j c z).2.2.1 x c e rfl
  by_cases F:c∈X.fs
  ·obtain ⟨sl,q⟩:=slot c o (I.cne x c e) F nch ho (I.freeC x c e);exact ⟨_,q,hd⟩
  ·exact ⟨o,keep c o (I.cne x c e) F nch ho (I.freeC x c e),hd⟩
 refine ⟨I.ok,I.os,J,⟨fun b o e n B hx => ?_,fun b o e n B hx => ?_,fun b o e n hx => ?_,fun b o e hx => ?_,fun b xs e=>tups b xs (I.base.tups b xs e),fun b o xs e=>frzs b o xs (I.base.frzs b o xs e),fun b ps e => ?_⟩, ?_,fun x c e => ?_, ?_,fun x c e => ?_,fun p G => ?_,hok,I.len⟩
 ·exact keep b o (neL b o e) B (neC b o e hx) (I.base.keep b o e n B hx) (I.base.free b o e n hx)
 ·obtain ⟨sl,e1⟩:=I.base.slot b o e n B hx;obtain ⟨sl',e2⟩:=slot b _ (neL b o e) B (neC b o e hx) e1 (I.base.free b o e n hx);exact ⟨sl',e2⟩
 ·obtain ⟨o',e1⟩:=I.base.there b o e hx;exact free b o' (neC b o e hx) e1 (I.base.free b o e n hx)
 ·obtain ⟨o',e1⟩:=I.base.there b o e hx;exact there b o' (neC b o e hx) e1
 ·obtain ⟨L,e1⟩:=I.base.tbls b ps e;obtain ⟨O,e2⟩:=tbls b _ e1;exact ⟨L++O,by rw [e2,Array.append_assoc]⟩
 ·obtain ⟨m,U,Y⟩:=I.loc;refine ⟨m,ns m U,fun i x v e1 e2 Z => ?_⟩;obtain ⟨u,r,l⟩:=Y i x v e1 e2 Z;refine ⟨u,r, ?_⟩
  rcases l with l | ⟨k,c,e,z⟩
  ·exact .inl l
  ·exact .inr ⟨k,c,e,cellK x c e _ z⟩
 ·obtain ⟨v,z⟩:=I.cell x c e;exact ⟨v,cellK x c e v z⟩
 ·obtain ⟨m,⟨o,_,_,ho,_⟩,_⟩:=I.loc;exact free _ o (fun z=>(j _ z).2.1 rfl) ho I.free
 ·obtain ⟨v,o,ho,hd⟩:=I.cell x c e;exact free c o (fun z=>(j c z).2.2.1 x c e rfl) ho (I.freeC x c e)
 ·obtain ⟨e,n,ne,nf,d⟩:=I.pin p G;have nch:p.1∉ch:=fun z=>(j p.1 z).2.2.2 p G rfl;exact ⟨keep p.1 p.2 ne nf nch e n,free p.1 p.2 nch e n,ne,nf,d⟩
theorem Inv.un {t':Nat} (I:Inv X pins σ H s) (u:Un X.fs [] H H' s.heap h') (hok:HOk X.prog X.w H' h'):Inv X pins σ H' { s with heap:=h',toks:=t' }:=by
 obtain ⟨m,⟨o,es,ep,ho,r⟩,_⟩:=id I.loc;obtain ⟨sl,B⟩:=u.any ho I.free (by simp)
 exact I.step (g':=s.gens) (d':=s.drawn) (ch := []) (fun _ z=>nomatch z) (fun b o _ q _ e n=>u.keep b o e n q (by simp)) (fun b o _ q _ e n=>u.slot b o e n q (by simp)) (fun b o _ e n=>u.free b o e n (by simp)) (fun b o _ e=>u.there b o e (by simp)) u.tups u.frzs u.tbls (fun m' hm=>by
  obtain ⟨o',es',ep',j,r'⟩:=hm;rw [ho] at j;cases j;exact ⟨_,es',ep',B,r'⟩) hok I.bare
theorem Inv.call {g':Array GenState} {t':Nat} {d':Drawn} {ch:List Addr} (I:Inv X pins σ H s) (u:Un (frs X.stack) ch H H' s.heap h') (hok:HOk X.prog X.w H' h') (G:Nm g')
 (q:∀ b∈ch,(b∈X.ex∨X.s₀.heap.objs.size<=b)/\b≠X.env.locals/\(∀ x c,X.env.cells.lookup x=some c->c≠b) /\ ∀ p∈X.pn++pins,p.1≠b) :
 Inv X pins σ H' { s with heap:=h',gens:=g',drawn:=d',toks:=t' }:=by
 obtain ⟨m,⟨o,es,ep,ho,r⟩,_⟩:=id I.loc;obtain ⟨sl,F⟩:=u.any ho I.free fun z=>(q _ z).2.1 rfl;exact I.step (ch:=ch) q (fun b o F J j e n=>u.keep b o e n (fun z=>(Ho.mp (I.stkSub b z)).elim F J) j) (fun b o _ _ j e n=>u.any e n j) (fun b o j e n=>u.free b o e n j) (fun b o j e=>u.there b o e j) u.tups u.frzs u.tbls (fun m' hm=>by
  obtain ⟨o',es',ep',B,r'⟩:=hm;rw [ho] at B;cases B;exact ⟨_,es',ep',F,r'⟩) hok G
theorem Inv.turned {t':Nat} {it:Addr} (I:Inv X pins σ H s) (k:∀ b o,b≠it->s.heap.get? b=some o->h'.get? b=some o) (F:H it=none) (B:it≠X.env.locals)
 (h1:it∈X.ex∨X.s₀.heap.objs.size<=it) (h2:∀ x c,X.env.cells.lookup x=some c->c≠it) (G:∀ p∈X.pn++pins,p.1≠it):Inv X pins σ H { s with heap:=h',toks:=t' }:=by
 have nit:∀ b u,H b=some u->b≠it:=fun b u e z=>by rw [z,F] at e;cases e
 refine I.step (g':=s.gens) (d':=s.drawn) (ch := [it]) (fun b J => ?_) (fun b o _ _ j e _=>k b o (fun z=>j (by simp [z])) e) (fun b o _ _ j e _=>⟨o.slots,k b o (fun z=>j (by simp [z])) e⟩) (fun _ _ _ _ n=>n)
  (fun b o j e=>⟨o,k b o (fun z=>j (by simp [z])) e⟩) (fun _ _ e=>e) (fun _ _ _ e=>e) (fun b ps e=>⟨#[],by rw [e];simp⟩) (fun m hm => ?_) (fun b u e => ?_) I.bare
 ·have e:b=it:=by simpa using J
  subst e;exact ⟨h1,B,h2,G⟩
 ·obtain ⟨o,es,ep,ho,r⟩:=hm;exact ⟨o,es,ep,k _ o (Ne.symm B) ho,r⟩
 ·refine (I.hok b u e).stay (fun c v j q=>k c v ?_ q) (fun _ q=>q) fun _ _ q=>q
  rcases j with z | z
  ·rw [z];exact nit b u e
  ·exact nit c _ z
theorem Inv.tok (I:Inv X pins σ H s) (t:Nat):Inv X pins σ H { s with toks:=t }:=I.un (h':=s.heap) (t':=t) Un.refl I.hok
theorem Inv.kept {t':Nat} (I:Inv X pins σ H s) (k:∀ b u,s.heap.get? b=some u->h'.get? b=some u):Inv X pins σ H { s with heap:=h',toks:=t' }:=I.un (Un.kept k) (I.hok.kept k)
theorem Inv.laid {a:Addr} {o:HO} {t':Nat} (I:Inv X pins σ H s) (k:∀ b u,s.heap.get? b=some u->h'.get? b=some u) (j:s.heap.objs.size<=a) (new:ObjOk X.prog X.w (upd H a o) h' a o) :
 Inv X pins σ (upd H a o) { s with heap:=h',toks:=t' }:=I.un (Un.laid k j (I.hok.fresh j)) (I.hok.laid k j new)
theorem Inv.write {x e:Addr} {o:HO} {t':Nat} (I:Inv X pins σ H s) (mu:Mut (H x)) (he:e=x∨H e=some (.own x)) (k:∀ b u,b≠e->s.heap.get? b=some u->h'.get? b=some u) (j:∃ u,h'.get? e=some u)
 (new:ObjOk X.prog X.w (upd H x o) h' x o):Inv X pins σ (upd H x o) { s with heap:=h',toks:=t' }:=I.un (Un.write mu he k j) (I.hok.write mu he k j new)
theorem Inv.pins_of {pins':List (Addr×Obj)} (I:Inv X pins σ H s) (h:∀ p∈pins',s.heap.get? p.1=some p.2/\H p.1=none/\p.1≠X.env.locals/\p.1∉X.fs /\ ∀ v,p.2.data ≠ .cell v):Inv X pins' σ H s :=
 ⟨I.ok,I.os,I.bare,I.base,I.loc,I.cell,I.free,I.freeC,fun p j=>(Hv.mp j).elim (fun z=>I.pin p (II _ z)) (h p),I.hok,I.len⟩
theorem nC {N:List Str} (q:N.Nodup) {i j:Nat} {x:Str} (a:N[i]? = some x) (b:N[j]? = some x):i=j:=by
 obtain ⟨h1,e1⟩:=HC.mp a;obtain ⟨h2,e2⟩:=HC.mp b;exact (List.getElem_inj q).mp (e1.trans e2.symm)
theorem ug {M:Mn} {A:Io} {E:h6->hI->Prop} {i:Nat} {x:Str} {v:V} {u:h6} {Q:Unit->hI->Prop} (I:Inv X pins σ H s) (hN:X.N.Nodup) (hi:X.N[i]? = some x) (hx:Loc X.env.scope x) (r:RelV v u)
 (h:∀ s',Inv X pins (σ.set i (some v)) H s'->(∃ a,J6 a s.heap s'.heap/\(a=X.env.locals∨X.env.cells.lookup x=some a))->Q () s') (hf:X.fn x=true∨X.env.scope.names.lookup x=some .local:=by first | exact .inl rfl | exact .inr rfl | assumption):Ht M A (storeName X.env x u) Q E s:=by
 obtain ⟨m,hn,hl⟩:=id I.loc;have U:(X.env.scope.kind == .class || (X.env.scope.kind == .module&&X.env.locals != X.env.globals))=false:=by rw [I.ok.kind];rfl
 have Y:i < σ.length:=by rw [I.len];exact (HC.mp hi).1
 have cne:=I.cne;have tracked:∀ {a:Addr} {h':Heap},(∃ o,s.heap.get? a=some o/\H a=none)->J6 a s.heap h'->HOk X.prog X.w H h':=fun {a h'} ha hs b ob e=>by
  obtain ⟨_,_,F⟩:=ha;refine (I.hok b ob e).stay (fun c w' B q=>(hs.2 c ?_).trans q) (fun _ q=>q) fun _ _ q=>q;rintro rfl
  rcases B with rfl | B
  ·rw [F] at e;cases e
  ·rw [F] at B;cases B
 rcases hx with G | G
 ·refine wpAny_storeName_local G hn (fun h' F8 hs => ?_) U;obtain ⟨oL,_,_,F9,_⟩:=id hn;refine h _ ⟨I.ok,I.os,I.bare,⟨fun b o e n J hx => ?_,fun b o e n J hx => ?_,I.base.free,fun b o e hx => ?_,I.base.tups,I.base.frzs,I.base.tbls⟩,⟨_,F8,fun j y v' e1 e2 e3 => ?_⟩,fun y c e => ?_,I.free,I.freeC,fun p hp => ?_,tracked ⟨oL,F9,I.free⟩ hs,by simpa using I.len⟩ ⟨_,hs, .inl rfl⟩
  ·exact (hs.2 b (HV (HW (Hq e) I.ok.above))).trans (I.base.keep b o e n J hx)
  ·obtain ⟨sl,e1⟩:=I.base.slot b o e n J hx;exact ⟨sl,(hs.2 b (HV (HW (Hq e) I.ok.above))).trans e1⟩
  ·obtain ⟨o',e1⟩:=I.base.there b o e hx;exact ⟨o',(hs.2 b (HV (HW (Hq e) I.ok.above))).trans e1⟩
  ·by_cases L:j=i
   ·subst L;rw [hi] at e1;cases e1;rw [Kx Y] at e2
    cases e2
    exact ⟨u,r, .inl ⟨G,by simp⟩⟩
   ·rw [Mo (Ne.symm L)] at e2;obtain ⟨u',r',q⟩:=hl j y v' e1 e2 e3;refine ⟨u',r', ?_⟩
    rcases q with ⟨k,e⟩ | ⟨k,c,e,z⟩
    ·refine .inl ⟨k, ?_⟩;have:y≠x:=fun e=>L (nC hN e1 (e ▸ hi));simp [this,e]
    ·exact .inr ⟨k,c,e,z.sameBut hs (cne y c e)⟩
  ·obtain ⟨w',z⟩:=I.cell y c e;exact ⟨w',z.sameBut hs (cne y c e)⟩
  ·obtain ⟨e,n,ne,nf,d⟩:=I.pin p hp;exact ⟨(hs.2 p.1 ne).trans e,n,ne,nf,d⟩
 ·have O:X.fn x=true:=by
   rcases hf with z | z
   ·exact z
   ·rw [z] at G;cases G
  obtain ⟨c,B⟩:=I.ok.has x (.inl G);obtain ⟨w',z⟩:=I.cell x c B;refine wpAny_storeName_cell I.ok.kind G B z (fun h' Z hs => ?_);obtain ⟨oc,F5,F6⟩:=id z;refine h { s with heap:=h' } ⟨I.ok,I.os,I.bare,⟨fun b o e n J hx => ?_,fun b o e n J hx => ?_,I.base.free,fun b o e hx => ?_,I.base.tups,I.base.frzs,I.base.tbls⟩,⟨m,hn.sameBut hs (Ne.symm (cne x c B)),fun j y v' e1 e2 e3 => ?_⟩,fun y c' e => ?_,I.free,I.freeC,fun p hp => ?_,tracked ⟨oc,F5,I.freeC x c B⟩ hs,by simpa using I.len⟩ ⟨c,hs, .inr B⟩
  ·exact (hs.2 b (HV (HW (Hq e) (I.ok.cab x c O B)))).trans (I.base.keep b o e n J hx)
  ·obtain ⟨sl,e1⟩:=I.base.slot b o e n J hx;exact ⟨sl,(hs.2 b (HV (HW (Hq e) (I.ok.cab x c O B)))).trans e1⟩
  ·obtain ⟨o',e1⟩:=I.base.there b o e hx;exact ⟨o',(hs.2 b (HV (HW (Hq e) (I.ok.cab x c O B)))).trans e1⟩
  ·by_cases L:j=i
   ·subst L;rw [hi] at e1;cases e1;rw [Kx Y] at e2
    cases e2
    exact ⟨u,r, .inr ⟨.inl G,c,B,Z⟩⟩
   ·rw [Mo (Ne.symm L)] at e2;obtain ⟨u',r',q⟩:=hl j y v' e1 e2 e3;refine ⟨u',r', ?_⟩
    rcases q with q | ⟨k,c',e,z'⟩
    ·exact .inl q
    ·refine .inr ⟨k,c',e,z'.sameBut hs ?_⟩;rintro rfl;exact L (nC hN e1 (I.ok.inj _ _ _ e B ▸ hi))
  ·by_cases F7:c'=c
   ·subst F7;exact ⟨_,Z⟩
   ·obtain ⟨w2,z2⟩:=I.cell y c' e;exact ⟨w2,z2.sameBut hs F7⟩
  ·obtain ⟨e,n,ne,nf,d⟩:=I.pin p hp;refine ⟨(hs.2 p.1 ?_).trans e,n,ne,nf,d⟩;intro q;rw [q,F5] at e;have q':oc=p.2:=Jk.inj e;exact d w' (by rw [<- q'];exact F6)
theorem iS {M:Mn} {A:Io} {E:h6->hI->Prop} {i:Nat} {x:Str} {v:V} {u:h6} {Q:Unit->hI->Prop} (I:Inv X pins σ H s) (j:X.N.Nodup) (hi:X.N[i]? = some x) (hx:Loc X.env.scope x) (r:RelV v u)
 (h:∀ s',Inv X pins (σ.set i (some v)) H s'->Q () s') (hf:X.fn x=true∨X.env.scope.names.lookup x=some .local:=by first | exact .inl rfl | exact .inr rfl | assumption):Ht M A (storeName X.env x u) Q E s :=
 ug I j hi hx r (fun s' I' _=>h s' I') hf
theorem Inv.call' {s':hI} {ch:List Addr} (I:Inv X pins σ H s) (ho:s'.os=s.os) (u:Un (frs X.stack) ch H H' s.heap s'.heap) (hok:HOk X.prog X.w H' s'.heap) (q:Nm s'.gens)
 (j:∀ b∈ch,(b∈X.ex∨X.s₀.heap.objs.size<=b)/\b≠X.env.locals/\(∀ x c,X.env.cells.lookup x=some c->c≠b) /\ ∀ p∈X.pn++pins,p.1≠b):Inv X pins σ H' s':=by
 obtain ⟨h',g',d',t',o'⟩:=s';have e:o'=s.os:=ho;subst e;exact I.call (g':=g') (t':=t') (d':=d') u hok q j
end
noncomputable abbrev XK:=h6->Option Addr->Hp->Prop
noncomputable abbrev St:=List (Option V)
noncomputable abbrev VK:=V->Hp->Prop
noncomputable abbrev TE:=St->Hp->VK->Prop
noncomputable abbrev TT:=St->Hp->(Bool->Hp->Prop)->Prop
noncomputable abbrev TA:=St->Hp->(List V->Hp->Prop)->Prop
structure bS where
 nx:St->Hp->Prop
 rt:VK
 bk:St->Hp->Prop:=fun _ _=>False
 ct:St->Hp->Prop:=fun _ _=>False
noncomputable abbrev TS:=bS->St->Hp->Prop
def EP (X:Cx) (pins:List (Addr×Obj)) (σ:St) (Q:VK) (u:h6) (s':hI):Prop := ∃ v H',Inv X pins σ H' s'/\RelV v u/\Q v H'
def TP (X:Cx) (pins:List (Addr×Obj)) (σ:St) (Q:Bool->Hp->Prop) (b:Bool) (s':hI):Prop := ∃ H',Inv X pins σ H' s'/\Q b H'
def AP (X:Cx) (pins:List (Addr×Obj)) (σ:St) (Q:List V->Hp->Prop) (us:List h6) (s':hI):Prop := ∃ vs H',Inv X pins σ H' s'/\Vals vs us/\Q vs H'
def SP (X:Cx) (pins:List (Addr×Obj)) (D:bS) (f:Flow) (s':hI):Prop :=
 match f with
 | .next => ∃ σ' H',Inv X pins σ' H' s'/\D.nx σ' H'
 | .brk => ∃ σ' H',Inv X pins σ' H' s'/\D.bk σ' H'
 | .cont => ∃ σ' H',Inv X pins σ' H' s'/\D.ct σ' H'
 | .ret u => ∃ v σ' H',Inv X pins σ' H' s'/\RelV v u/\D.rt v H'
def PE (X:Cx) (e:Expr) (t:TE):Prop :=
 ∀ (pins:List (Addr×Obj)) (s:hI) (σ:St) (H:Hp) (Q:VK),Inv X pins σ H s->t σ H Q->Ht (model X.prog X.w) X.A (eval e X.env) (EP X pins σ Q) X.xe s
def PT (X:Cx) (e:Expr) (t:TT):Prop :=
 ∀ (pins:List (Addr×Obj)) (s:hI) (σ:St) (H:Hp) (Q:Bool->Hp->Prop),Inv X pins σ H s->t σ H Q->Ht (model X.prog X.w) X.A (isTrue e X.env (eval e X.env)) (TP X pins σ Q) X.xe s
def PW (X:Cx) (e:Expr) (t:TT):Prop :=
 ∀ (whole:Sem h6) (pins:List (Addr×Obj)) (s:hI) (σ:St) (H:Hp) (Q:Bool->Hp->Prop),Inv X pins σ H s->t σ H Q->Ht (model X.prog X.w) X.A (isTrue e X.env whole) (TP X pins σ Q) X.xe s
theorem PW.pt {X:Cx} {e:Expr} {t:TT} (h:PW X e t):PT X e t:=h _
def PA (X:Cx) (es:List Expr) (t:TA):Prop :=
 ∀ (pos:Pos) (pins:List (Addr×Obj)) (s:hI) (σ:St) (H:Hp) (Q:List V->Hp->Prop),Inv X pins σ H s->t σ H Q->Ht (model X.prog X.w) X.A (spliced (Lb pos (HP es X.env))) (AP X pins σ Q) X.xe s
def PS (X:Cx) (st:Stmt) (t:TS):Prop :=
 ∀ (pins:List (Addr×Obj)) (s:hI) (σ:St) (H:Hp) (D:bS),Inv X pins σ H s->t D σ H->Ht (model X.prog X.w) X.A (exec st X.env) (SP X pins D) X.xe s
def PSs (X:Cx) (st:List Stmt) (t:TS):Prop :=
 ∀ (pins:List (Addr×Obj)) (s:hI) (σ:St) (H:Hp) (D:bS),Inv X pins σ H s->t D σ H->Ht (model X.prog X.w) X.A (execs st X.env) (SP X pins D) X.xe s
theorem thn {α:Type} {t:Sem α} {Q Q' : α -> hI->Prop} {M:Mn} {A:Io} {E:h6->hI->Prop} {s:hI} (h:Ht M A t Q E s) (j:∀ a s,Q a s->Q' a s):Ht M A t Q' E s:=Jy h j fun _ _ x=>x
end
section
section
variable {X:Cx}
noncomputable def Ez (i:Nat):TE:=fun σ H Q => ∃ v, σ[i]? = some (some v)/\Q v H
noncomputable def tC (v:V):TE:=fun _ H Q=>Q v H
theorem BM {i:Nat} {x:Str} {pos:Pos} (F:X.N[i]? = some x) (G:Vis X.env.scope x) (hd:(x==("__debug__":Str))=false:=by decide) (z:(x==("__classdict__":Str))=false:=by decide):PE X (.Name x pos) (Ez i):=by
 intro pins s σ H Q I h;obtain ⟨v,e,h⟩:=h;obtain ⟨m,J,L⟩:=I.loc;obtain ⟨u,r,l⟩:=L i x v F e G;have fin:EP X pins σ Q u s:=⟨v,H,I,r,h⟩
 rcases l with ⟨q,hm⟩ | ⟨q,c,B,j⟩
 ·exact QS (wpAny_loadName_local I.ok.kind q J hm fin) hd
 ·rcases q with q | q
  ·exact QS (wpAny_loadName_cell I.ok.kind q B j fin) hd
  ·exact QS (wpAny_loadName_free I.ok.kind q B j fin z) hd
theorem BN {i j pos}:PE X (.Constant (.int i) j pos) (tC (.int i)):=fun _ _ _ H _ I h=>wpAny_Constant_int ⟨.int i,H,I.tok _,⟨_,rfl⟩,h⟩
theorem DG {b j pos}:PE X (.Constant (.bool b) j pos) (tC (.bl b)):=fun _ _ _ H _ I h=>Constant_bool ⟨.bl b,H,I,rfl,h⟩
theorem BO {j pos}:PE X (.Constant .none j pos) (tC .non):=fun _ _ _ H _ I h=>Constant_none ⟨.non,H,I,rfl,h⟩
def Gl (X:Cx) (x:Str):Prop:=X.env.kindOf x=some .globalImplicit
theorem kF {E:h6->hI->Prop} {pins:List (Addr×Obj)} {s:hI} {σ:St} {H:Hp} {x:Str} {u:h6} {pos:Pos} {Q:h6->hI->Prop} (I:Inv X pins σ H s) (j:Gl X x) (hm:X.mg x=some u) (h:Q u s)
 (hd:(x==("__debug__":Str))=false:=by decide):Ht (model X.prog X.w) X.A (eval (.Name x pos) X.env) Q E s :=
 MV I.ok.kind j (Calls.loadGlobal_global (by rw [I.ok.glob];exact I.mod.glob.keeps I.bk) hm h) hd
theorem dz {E:h6->hI->Prop} {pins:List (Addr×Obj)} {s:hI} {σ:St} {H:Hp} {x:Str} {u:h6} {pos:Pos} {Q:h6->hI->Prop} (I:Inv X pins σ H s) (j:Gl X x) (hm:X.mg x=none) (q:JO x=some u) (h:Q u s)
 (z:x ≠ "__name__" := by decide) (hd:(x==("__debug__":Str))=false:=by decide):Ht (model X.prog X.w) X.A (eval (.Name x pos) X.env) Q E s:=by
 obtain ⟨mb,h1,h2⟩:=I.mod.blt;exact MV I.ok.kind j (Calls.loadGlobal_builtin (by rw [I.ok.glob];exact I.mod.glob.keeps I.bk) hm (by rw [I.ok.blt];exact h1.keeps I.bk) ((h2 x z).trans q) h) hd
theorem Ac {x:Str} {v:V} {u:h6} {pos:Pos} (j:Gl X x) (hm:X.mg x=some u) (r:RelV v u) (hd:(x==("__debug__":Str))=false:=by decide):PE X (.Name x pos) (tC v) :=
 fun _ _ _ H _ I h=>kF I j hm ⟨v,H,I,r,h⟩ hd
theorem kG {x:Str} {v:V} {u:h6} {pos:Pos} (j:Gl X x) (hm:X.mg x=none) (q:JO x=some u) (r:RelV v u) (z:x ≠ "__name__" := by decide) (hd:(x==("__debug__":Str))=false:=by decide):PE X (.Name x pos) (tC v) :=
 fun _ _ _ H _ I h=>dz I j hm q ⟨v,H,I,r,h⟩ z hd
variable {a b:Expr} {ta tb:TE} {pos:Pos}
variable {tA tB':TT} {rest:List Expr}
noncomputable def EA (t u:TT):TT:=fun σ H Q=>t σ H fun c H1=>if c=true then u σ H1 Q else Q false H1
noncomputable def tOr (t u:TT):TT:=fun σ H Q=>t σ H fun c H1=>if c=true then Q true H1 else u σ H1 Q
noncomputable def EB (t:TT):TT:=fun σ H Q=>t σ H fun c H1=>Q (!c) H1
theorem Ad (j:PT X a tA):PW X (.BoolOp .And [a] pos) tA:=by
 intro wh pins s σ H Q I h;refine isTrue_and (thn (j pins s σ H Q I h) fun c s1 e => ?_)
 cases c with
 | true=>exact isTrue_and_nil e
 | false=>exact e
theorem BP (j:PT X a tA):PW X (.BoolOp .Or [a] pos) tA:=by
 intro wh pins s σ H Q I h;refine isTrue_or (thn (j pins s σ H Q I h) fun c s1 e => ?_)
 cases c with
 | false=>exact isTrue_or_nil e
 | true=>exact e
theorem BQ (z:PT X a tA) (B:PW X (.BoolOp .And (b::rest) pos) tB'):PW X (.BoolOp .And (a::b::rest) pos) (EA tA tB'):=by
 intro wh pins s σ H Q I h;refine isTrue_and (thn (z pins s σ H _ I h) fun c s1 ⟨H1,j,q⟩ => ?_)
 cases c with
 | true=>exact B wh pins s1 σ H1 Q j q
 | false=>exact ⟨H1,j,q⟩
theorem DH (z:PT X a tA) (B:PW X (.BoolOp .Or (b::rest) pos) tB'):PW X (.BoolOp .Or (a::b::rest) pos) (tOr tA tB'):=by
 intro wh pins s σ H Q I h;refine isTrue_or (thn (z pins s σ H _ I h) fun c s1 ⟨H1,j,q⟩ => ?_)
 cases c with
 | true=>exact ⟨H1,j,q⟩
 | false=>exact B wh pins s1 σ H1 Q j q
theorem BR (j:PT X a tA):PT X (.UnaryOp .Not a pos) (EB tA):=by
 intro pins s σ H Q I h;exact isTrue_not (j pins s σ H (fun c H1=>Q (!c) H1) I h)
noncomputable def DI (ta tb:TE):TE:=fun σ H Q=>ta σ H fun x H1 => ∃ c,x = .bl c/\if c=true then tb σ H1 Q else Q (.bl false) H1
noncomputable def EC (ta tb:TE):TE:=fun σ H Q=>ta σ H fun x H1 => ∃ c,x = .bl c/\if c=true then Q (.bl true) H1 else tb σ H1 Q
noncomputable def DJ (ta:TE):TE:=fun σ H Q=>ta σ H fun x H1 => ∃ c,x = .bl c/\Q (.bl (!c)) H1
theorem BS {op} {t:TE} (h:PE X a t):PE X (.BoolOp op [a] pos) t:=fun pins s σ H Q I hw=>BoolOp_one (h pins s σ H Q I hw)
theorem BU (z:PE X a ta) (B:PE X (.BoolOp .And (b::rest) pos) tb):PE X (.BoolOp .And (a::b::rest) pos) (DI ta tb):=by
 intro pins s σ H Q I h;refine BoolOp_and (thn (z pins s σ H _ I h) fun v s1 ⟨x,H1,q,F,j⟩ => ?_);obtain ⟨c,rfl,j⟩:=j
 cases F
 refine K9 ?_
 cases c with
 | true=>exact B pins s1 σ H1 Q q j
 | false=>exact ⟨.bl false,H1,q,rfl,j⟩
theorem DK (z:PE X a ta) (B:PE X (.BoolOp .Or (b::rest) pos) tb):PE X (.BoolOp .Or (a::b::rest) pos) (EC ta tb):=by
 intro pins s σ H Q I h;refine BoolOp_or (thn (z pins s σ H _ I h) fun v s1 ⟨x,H1,q,F,j⟩ => ?_);obtain ⟨c,rfl,j⟩:=j
 cases F
 refine K9 ?_
 cases c with
 | false=>exact B pins s1 σ H1 Q q j
 | true=>exact ⟨.bl true,H1,q,rfl,j⟩
theorem BV (q:PE X a ta):PE X (.UnaryOp .Not a pos) (DJ ta):=by
 intro pins s σ H Q I h;refine UnaryOp_ (thn (q pins s σ H _ I h) fun v s1 ⟨x,H1,z,B,j⟩ => ?_);obtain ⟨c,rfl,j⟩:=j
 cases B
 exact not_of (K9 ⟨.bl (!c),H1,z,rfl,j⟩)
noncomputable def tIf (t:TT) (ta tb:TE):TE:=fun σ H Q=>t σ H fun c H1=>if c=true then ta σ H1 Q else tb σ H1 Q
theorem xc {c:Expr} (z:PT X c tA) (B:PE X a ta) (F:PE X b tb):PE X (.IfExp c a b pos) (tIf tA ta tb):=by
 intro pins s σ H Q I h;refine wpAny_IfExp (thn (z pins s σ H _ I h) fun d s1 ⟨H1,j,q⟩ => ?_)
 cases d with
 | true=>exact B pins s1 σ H1 Q j q
 | false=>exact F pins s1 σ H1 Q j q
end
end
section
def SqL (K:Frag) (H:Hp) (a:Addr) (xs:List V):Prop :=
 Rd H a (.lst xs) ∨
  ∃ (o:Obj) (its:Array h6) (n:Nat),K.lookup a=some o/\o.cls = .type "list" /\ o.dict=none/\o.data = .seq its n/\its.size<=Hj/\Vals xs its.toList
def SqT (K:Frag) (H:Hp) (a:Addr) (xs:List V):Prop :=
 Rd H a (.tup xs) ∨
  ∃ (o:Obj) (its:Array h6) (n:Nat),K.lookup a=some o/\o.cls = .type "tuple" /\ o.data = .seq its n/\its.size<=Hj/\Vals xs its.toList
noncomputable def ED:h6->Option V
 | .none=>some .non
 | .bool b=>some (.bl b)
 | .int i _=>some (.int i)
 | .str x _=>some (.str x)
 | .bytes b _=>some (.byt b)
 | .float b _=>some (.flt b)
 | .ref a=>some (.ref a)
 | .type n=>some (.ty n)
 | _=>none
theorem RelV.abs {x:V} {u:h6} (r:RelV x u):ED u=some x:=by
 cases x with
 | non=>cases r;rfl
 | bl _=>cases r;rfl
 | int _=>obtain ⟨t,rfl⟩:=r;rfl
 | str _=>obtain ⟨t,rfl⟩:=r;rfl
 | byt _=>obtain ⟨t,rfl⟩:=r;rfl
 | flt _=>obtain ⟨t,rfl⟩:=r;rfl
 | ref _=>cases r;rfl
 | ty _=>cases r;rfl
theorem RelV.inj {x y:V} {u:h6} (r:RelV x u) (q:RelV y u):x=y:=Jk.inj (r.abs.symm.trans q.abs)
theorem Vals.inj:∀ {xs ys:List V} {us:List h6},Vals xs us->Vals ys us->xs=ys
 | _,_,_, .nil, .nil=>rfl
 | _,_,_, .cons r t, .cons r' t'=>by rw [r.inj r',Vals.inj t t']
section
variable {X:Cx} {pins:List (Addr×Obj)} {σ:St} {H:Hp} {s:hI} {a:Addr} {xs ys:List V}
theorem SqL.of {K:Frag} (h:H a=some (.lst xs)):SqL K H a xs := .inl (.inl h)
theorem SqT.of {K:Frag} (h:H a=some (.tup xs)):SqT K H a xs := .inl (.inl h)
theorem Inv.list (I:Inv X pins σ H s) (h:SqL X.K H a xs):∃ its:List h6,Vals xs its/\PlainL s.heap a its.toArray/\xs.length<=Hj:=by
 rcases h with h | ⟨o,its,n,j,q,hd,hs,B,r⟩
 ·obtain ⟨z,its,n,r,e⟩:=h.ok I.hok;exact ⟨its,r,⟨_,n,e,rfl,rfl,rfl⟩,z⟩
 ·refine ⟨its.toList,r,⟨o,n,I.kIn a o j,q,hd,by simpa using hs⟩, ?_⟩
  have e:=r.length;simp only [HN] at e;omega
theorem Inv.tuple (I:Inv X pins σ H s) (h:SqT X.K H a xs):∃ its:List h6,Vals xs its/\IsTup s.heap a its.toArray/\xs.length<=Hj:=by
 rcases h with h | ⟨o,its,n,j,q,hs,B,r⟩
 ·obtain ⟨z,its,r,p⟩:=h.ok I.hok;exact ⟨its,r,p,z⟩
 ·refine ⟨its.toList,r,⟨o,I.kIn a o j,q,n,by simpa using hs⟩, ?_⟩
  have e:=r.length;simp only [HN] at e;omega
theorem Inv.list_inj (I:Inv X pins σ H s) (h:SqL X.K H a xs) (h':SqL X.K H a ys):xs=ys:=by
 obtain ⟨its,r,⟨o,n,e,_,_,d⟩,_⟩:=I.list h;obtain ⟨its',r',⟨o',n',e',_,_,d'⟩,_⟩:=I.list h';rw [e] at e';cases e';rw [d] at d'
 injection d' with d1 _
 have:its=its':=by simpa using congrArg NV d1
 subst this;exact r.inj r'
theorem Inv.tuple_inj (I:Inv X pins σ H s) (h:SqT X.K H a xs) (h':SqT X.K H a ys):xs=ys:=by
 obtain ⟨its,r,⟨o,e,_,n,d⟩,_⟩:=I.tuple h;obtain ⟨its',r',⟨o',e',_,n',d'⟩,_⟩:=I.tuple h';rw [e] at e';cases e';rw [d] at d'
 injection d' with d1 _
 have:its=its':=by simpa using congrArg NV d1
 subst this;exact r.inj r'
end
noncomputable abbrev Cx.wish (X:Cx) (E:h6->hI->Prop):Cx := { X with xe:=E }
noncomputable abbrev Cx.nox (X:Cx):Cx:=X.wish fun _ _=>False
theorem Cx.Ok.wish {X:Cx} (ok:X.Ok) (E:h6->hI->Prop):(X.wish E).Ok :=
 ⟨ok.mod,ok.kind,ok.glob,ok.blt,ok.above,ok.inj,ok.has,ok.cab,ok.hd,ok.frames,ok.stk,ok.exf,ok.bs,ok.bsz,ok.noex,ok.exfs,ok.funs,ok.frf⟩
theorem Cx.Ok.unwish {X:Cx} {E:h6->hI->Prop} (ok:(X.wish E).Ok):X.Ok :=
 ⟨ok.mod,ok.kind,ok.glob,ok.blt,ok.above,ok.inj,ok.has,ok.cab,ok.hd,ok.frames,ok.stk,ok.exf,ok.bs,ok.bsz,ok.noex,ok.exfs,ok.funs,ok.frf⟩
section
variable {X:Cx} {pins:List (Addr×Obj)} {σ:St} {H:Hp} {s:hI} {E:h6->hI->Prop}
theorem Inv.wish (I:Inv X pins σ H s) (E:h6->hI->Prop):Inv (X.wish E) pins σ H s:=⟨I.ok.wish E,I.os,I.bare,I.base,I.loc,I.cell,I.free,I.freeC,I.pin,I.hok,I.len⟩
theorem Inv.unwish (I:Inv (X.wish E) pins σ H s):Inv X pins σ H s:=⟨I.ok.unwish,I.os,I.bare,I.base,I.loc,I.cell,I.free,I.freeC,I.pin,I.hok,I.len⟩
theorem SP.unwish {D:bS} {f:Flow} {s':hI} (h:SP (X.wish E) pins D f s'):SP X pins D f s':=by
 cases f with
 | next=>obtain ⟨σ',H',I,q⟩:=h;exact ⟨σ',H',I.unwish,q⟩
 | brk=>obtain ⟨σ',H',I,q⟩:=h;exact ⟨σ',H',I.unwish,q⟩
 | cont=>obtain ⟨σ',H',I,q⟩:=h;exact ⟨σ',H',I.unwish,q⟩
 | ret u=>obtain ⟨v, σ',H',I,r,q⟩:=h;exact ⟨v, σ',H',I.unwish,r,q⟩
theorem PSs.nox {st:List Stmt} {t:TS} (h:PSs X.nox st t):PSs X st t:=fun pins s σ H D I hw =>
 Jy (h pins s σ H D (I.wish _) hw) (fun _ _ q=>q.unwish) fun _ _ z=>False.elim z
end
section
variable {X:Cx} {st:Stmt} {rest:List Stmt} {t u:TS} {e:Expr} {te:TE} {pos:Pos}
noncomputable def sg:TS:=fun D σ H=>D.nx σ H
noncomputable def BW (t u:TS):TS:=fun D σ H=>t { D with nx:=u D } σ H
theorem Ae:PSs X [] sg:=fun _ _ σ H _ I h=>Oa ⟨σ,H,I,h⟩
theorem xf (h1:PS X st t) (h2:PSs X rest u):PSs X (st::rest) (BW t u):=by
 intro pins s σ H D I h;refine wpAny_execs_cons (thn (h1 pins s σ H { D with nx:=u D } I h) fun f s1 q => ?_)
 cases f with
 | next =>
   obtain ⟨σ',H',I',q⟩:=q;exact h2 pins s1 σ' H' D I' q
 | ret v=>exact q
 | brk=>exact q
 | cont=>exact q
noncomputable def uh:TS:=fun D σ H=>D.bk σ H
noncomputable def zy:TS:=fun D σ H=>D.ct σ H
theorem Af:PS X (.Pass pos) sg:=fun _ _ σ H _ I h=>wpAny_Pass ⟨σ,H,I,h⟩
theorem xg:PS X (.Break pos) uh:=fun _ _ σ H _ I h=>wpAny_Break ⟨σ,H,I,h⟩
theorem qu:PS X (.Continue pos) zy:=fun _ _ σ H _ I h=>wpAny_Continue ⟨σ,H,I,h⟩
theorem Inv.quiet {pins:List (Addr×Obj)} {σ:St} {H:Hp} {s:hI} (I:Inv X pins σ H s):interactive X.env=false:=by simp [interactive,I.ok.kind]
noncomputable def zz (te:TE):TS:=fun D σ H=>te σ H fun _ H1=>D.nx σ H1
theorem Ag (he:PE X e te) (hs:Lr e none pos.line X.env=pure false:=by rfl):PS X (.Expr e pos) (zz te):=by
 intro pins s σ H D I h;exact wpAny_Expr_any (thn (he pins s σ H _ I h) fun v s1 ⟨x,H1,j,z,q⟩=>⟨σ,H1,j,q⟩) I.quiet hs
noncomputable def BX (te:TE):TS:=fun D σ H=>te σ H D.rt
theorem BY (he:PE X e te):PS X (.Return (some e) pos) (BX te):=by
 intro pins s σ H D I h;exact wpAny_Return_some (thn (he pins s σ H _ I h) fun v s1 ⟨x,H1,j,q,z⟩=>⟨x, σ,H1,j,q,z⟩)
noncomputable def BZ (c:TT) (t u:TS):TS:=fun D σ H=>c σ H fun b H1=>if b=true then t D σ H1 else u D σ H1
theorem DL {c:Expr} {a b:List Stmt} {tc:TT} (z:PT X c tc) (B:PSs X a t) (F:PSs X b u):PS X (.If c a b pos) (BZ tc t u):=by
 intro pins s σ H D I h;refine wpAny_If (thn (z pins s σ H _ I h) fun d s1 ⟨H1,j,q⟩ => ?_)
 cases d with
 | true=>exact B pins s1 σ H1 D j q
 | false=>exact F pins s1 σ H1 D j q
end
noncomputable abbrev TG:=V->St->Hp->(St->Hp->Prop)->Prop
noncomputable abbrev TGs:=List V->St->Hp->(St->Hp->Prop)->Prop
def PG (X:Cx) (target:Expr) (t:TG):Prop :=
 ∀ (pins:List (Addr×Obj)) (s:hI) (σ:St) (H:Hp) (v:V) (u:h6) (Q:St->Hp->Prop),Inv X pins σ H s->RelV v u->t v σ H Q ->
  Ht (model X.prog X.w) X.A (assign target X.env u) (fun _ s' => ∃ σ' H',Inv X pins σ' H' s'/\Q σ' H') X.xe s
def PGs (X:Cx) (ts:List Expr) (t:TGs):Prop :=
 ∀ (pins:List (Addr×Obj)) (s:hI) (σ:St) (H:Hp) (vs:List V) (us:List h6) (Q:St->Hp->Prop),Inv X pins σ H s->Vals vs us->t vs σ H Q ->
  Ht (model X.prog X.w) X.A (Nu ((IS ts X.env).map (·.2)) us) (fun _ s' => ∃ σ' H',Inv X pins σ' H' s'/\Q σ' H') X.xe s
noncomputable abbrev si:=V->V->V->Hp->(Hp->Prop)->Prop
def PSet (X:Cx) (t:si):Prop :=
 ∀ (pins:List (Addr×Obj)) (s:hI) (σ:St) (H:Hp) (o i v:V) (ov iv u:h6) (Q:Hp->Prop),Inv X pins σ H s->RelV o ov->RelV i iv->RelV v u->t o i v H Q ->
  Ht (model X.prog X.w) X.A (setItem ov iv u) (fun _ s' => ∃ H',Inv X pins σ H' s'/\Q H') X.xe s
section
variable {X:Cx} {pos:Pos}
noncomputable def jv (i:Nat):TG:=fun v σ H Q=>Q (σ.set i (some v)) H
theorem qL {i:Nat} {x:Str} (j:X.N.Nodup) (hi:X.N[i]? = some x) (hx:Loc X.env.scope x) (hf:X.fn x=true∨X.env.scope.names.lookup x=some .local:=by first | exact .inl rfl | exact .inr rfl | assumption):PG X (.Name x pos) (jv i):=by
 intro pins s σ H v u Q I r h;exact wpAny_assign_Name (iS I j hi hx r (fun s' I'=>⟨_,H,I',h⟩) hf)
noncomputable def EE:TGs:=fun vs σ H Q=>vs=[]/\Q σ H
noncomputable def DM (t:TG) (u:TGs):TGs:=fun vs σ H Q => ∃ v r,vs=v::r/\t v σ H fun σ' H'=>u r σ' H' Q
theorem Ah:PGs X [] EE:=by
 intro pins s σ H vs us Q I r h;obtain ⟨e,h⟩:=h;subst e
 cases r
 exact Pu ⟨σ,H,I,h⟩
theorem xh {e:Expr} {es:List Expr} {t:TG} {u:TGs} (h1:PG X e t) (h2:PGs X es u)
 (hs:(IS (e::es) X.env).map (·.2)=assign e X.env::(IS es X.env).map (·.2):=by rfl):PGs X (e::es) (DM t u):=by
 intro pins s σ H vs us Q I r h;obtain ⟨v,vr,e1,h⟩:=h;subst e1
 cases r with
 | cons r rr =>
   rw [hs];refine MW (thn (h1 pins s σ H _ _ _ I r h) fun _ s1 ⟨σ1,H1,j,q⟩ => ?_);exact h2 pins s1 σ1 H1 _ _ Q j rr q
noncomputable def EF (K:Frag) (n:Nat) (t:TGs):TG:=fun v σ H Q => ∃ a xs,v = .ref a/\SqT K H a xs/\xs.length=n/\t xs σ H Q
theorem C1 {es:List Expr} {k:Nat} {t:TGs} {n:Nat} (q:X.calm=true) (h:PGs X es t)
 (z:(IS es X.env).length=n:=by rfl) (j:(IS es X.env).findIdx? (·.1)=none:=by rfl):PG X (.Tuple es k pos) (EF X.K n t):=by
 intro pins s σ H v u Q I r hw;obtain ⟨a,xs,e1,B,F,hw⟩:=hw;subst e1
 cases r
 obtain ⟨its,rv,G,L⟩:=I.tuple B;refine assign_Tuple_tuple (I.ok.hd q) G (by simp [z, <- F,rv.length]) j fun h' hx => ?_
 have J:Inv X pins σ H { s with heap:=h' }:=I.kept (t':=s.toks) fun b o e=>hx b o (HV (Hq e)) e
 exact h pins _ σ H xs _ Q J (by simpa using rv) hw
noncomputable def EG (to ti:TE) (t:si):TG:=fun v σ H Q=>to σ H fun o H1=>ti σ H1 fun i H2=>t o i v H2 fun H3=>Q σ H3
theorem C2 {o i:Expr} {to ti:TE} {t:si} (ho:PE X o to) (hi:PE X i ti) (hs:PSet X t)
 (j:∀ v,assign (.Subscript o i pos) X.env v=(do
   let ov <- holding [v] (eval o X.env)
   let iv <- holding [v,ov] (eval i X.env)
   Np pos
   holding [v,ov,iv] (setItem ov iv v)
   release [v,ov,iv] []):=by intro _;rfl):PG X (.Subscript o i pos) (EG to ti t):=by
 intro pins s σ H v u Q I r h;rw [j];refine gV (I8 (thn (ho pins s σ H _ I h) fun ov s1 ⟨x,H1,q,z,B⟩ => ?_));refine gV (I8 (thn (hi pins s1 σ H1 _ q B) fun iv s2 ⟨y,H2,F,G,J⟩ => ?_));refine gV (Kg (gV (I8 (thn (hs pins s2 σ H2 x y v ov iv u _ F z G r J) fun _ s3 ⟨L,O,U⟩ => ?_))));exact wpAny_release ⟨σ,L,O,U⟩
noncomputable def nD (te:TE) (g:TG):TS:=fun D σ H=>te σ H fun x H1=>g x σ H1 D.nx
theorem nE {tg e:Expr} {te:TE} {g:TG} (he:PE X e te) (j:PG X tg g) (hs:Lc [tg] e pos.line X.env=pure false:=by rfl) (hw:Kh [tg] e X.env=pure none:=by rfl)
 (h1:(IS [tg] X.env).map (·.2)=[assign tg X.env]:=by rfl):PS X (.Assign [tg] e pos) (nD te g):=by
 intro pins s σ H D I h;refine wpAny_Assign_stores (thn (he pins s σ H _ I h) fun v s1 ⟨x,H1,z,B,F⟩ => ?_) hs hw;rw [h1];exact thn (j pins s1 σ H1 x v _ z B F) fun _ s2 q=>q
noncomputable def C3 (i j:Nat) (ta:TA):TS:=fun D σ H=>ta σ H fun vs H1 => ∃ v w,vs=[v,w]/\D.nx ((σ.set i (some v)).set j (some w)) H1
theorem C4 {i j:Nat} {x y:Str} {a b:Expr} {ta:TA} {px py pt:Pos} {kt G z} (hc:X.calm=true) (U:X.N.Nodup) (hi:X.N[i]? = some x) (hj:X.N[j]? = some y) (J:i≠j)
 (hx:X.env.scope.names.lookup x=some .local) (Y:X.env.scope.names.lookup y=some .local) (ha:PA X [a,b] ta)
 (hw:Kh [.Tuple [.Name x px, .Name y py] kt pt] (.Tuple [a,b] G z) X.env=pure (some [x,y]))
 (hs:Lc [.Tuple [.Name x px, .Name y py] kt pt] (.Tuple [a,b] G z) pos.line X.env=pure false:=by rfl) :
 PS X (.Assign [.Tuple [.Name x px, .Name y py] kt pt] (.Tuple [a,b] G z) pos) (C3 i j ta):=by
 intro pins s σ H D I h;rw [exec_Assign_arm];refine gV (Kg ?_);rw [hs];refine gV (r4 ?_);rw [if_neg (by decide)]
 refine gV (Tuple_ (thn (ha _ pins s σ H _ I h) fun us s1 ⟨vs,H1,I1,r1,L⟩ => ?_));obtain ⟨v,w,e1,L⟩:=L;subst e1;obtain ⟨B,F,rfl,rv,rw'⟩:∃ B F,us=[B,F]/\RelV v B/\RelV w F:=by
  cases r1 with
  | cons p q =>
    cases q with
    | cons p' q' =>
      cases q'
      exact ⟨_,_,rfl,p,p'⟩
 refine Jc ?_ (by show 2<=Hj;decide)
 have I2:Inv X pins σ H1 { s1 with heap:=s1.heap.push { cls := .type "tuple",data := .seq [B,F].toArray } }:=I1.kept (t':=s1.toks) fun b o e=>h7 _ e
 rw [hw];refine gV (r4 ?_);show Ht (model X.prog X.w) X.A (do rule "assign.swapped-stores";let items <- Qw (.ref s1.heap.objs.size) 2 none;Nu [fun v=>QT X.env y v,fun v=>QT X.env x v] items.reverse;pure Flow.next) _ _ _
 refine gV (Jq (gV (unpackItems_tuple (items := #[B,F]) (I.ok.hd hc) (MU s1.heap _) fun h' O => ?_)));have I3:=I2.kept (h':=h') (t':=s1.toks) fun b o e=>O b o (HV (Hq e)) e;show Ht _ _ (Nu [fun v=>QT X.env y v,fun v=>QT X.env x v] [F,B] >>= fun _=>pure Flow.next) _ _ _;refine gV (MW (wpAny_bindName (iS I3 U hj (.inl Y) rw' (fun s2 I4 => ?_) (.inr Y))));refine MW (wpAny_bindName (iS I4 U hi (.inl hx) rv (fun s3 Z=>Pu (r4 ?_)) (.inr hx)));rw [List.set_comm _ _ (Ne.symm J)] at Z;exact ⟨_,H1,Z,L⟩
end
section
variable {X:Cx} {pos:Pos}
noncomputable def ui (c:TT) (tb:TS):TS:=fun D σ H => ∃ W:Nat->St->Hp->Prop,(∃ m,W m σ H) /\ ∀ m σ H,W m σ H ->
 c σ H fun b H1=>if b=true then ∃ N:St->Hp->Prop,(∀ σ' H',N σ' H' -> ∃ m',m' < m/\W m' σ' H')/\tb { D with nx:=N,ct:=N,bk:=D.nx } σ H1 else D.nx σ H1
theorem xi {c:Expr} {body:List Stmt} {tc:TT} {tb:TS} (J:PassesOwn (model X.prog X.w) X.A X.env X.xe) (U:PT X c tc) (Y:PSs X body tb):PS X (.While c body [] pos) (ui tc tb):=by
 intro pins s σ H D I h;obtain ⟨W,⟨m0,Z⟩,turn⟩:=h;refine wpAny_While (codeAny_whileLoop (fun n s' => ∃ σ' H',Inv X pins σ' H' s'/\W n σ' H') ?_ m0 ⟨σ,H,I,Z⟩);rintro n s1 ⟨σ1,H1,I1,w1⟩;refine K6 J (thn (U pins s1 σ1 H1 _ I1 (turn n σ1 H1 w1)) fun b s2 ⟨H2,L,q⟩ => ?_)
 cases b with
 | true =>
   obtain ⟨N,O,q⟩:=q;rw [if_pos rfl];refine K6 J (thn (Y pins s2 σ1 H2 _ L q) fun f s3 z => ?_)
   cases f with
   | next =>
     obtain ⟨σ3,j,B,F⟩:=z;obtain ⟨m',hm,G⟩:=O σ3 j F;exact ⟨m',hm, σ3,j,B,G⟩
   | cont =>
     obtain ⟨σ3,j,B,F⟩:=z;obtain ⟨m',hm,G⟩:=O σ3 j F;exact ⟨m',hm, σ3,j,B,G⟩
   | brk=>exact z
   | ret v=>exact z
 | false =>
   rw [if_neg Hi];exact Oa ⟨σ1,H2,L,q⟩
end
structure It where
 go:Nat->Hp->Prop
 yld:Nat->Hp->V->Hp->Prop
 stop:Nat->Hp->Prop
def cB (X:Cx) (pins:List (Addr×Obj)) (H:Hp) (b:Addr):Prop :=
 H b=none/\b≠X.env.locals/\b∉X.fs/\(b∈X.ex∨X.s₀.heap.objs.size<=b)/\(∀ x c,X.env.cells.lookup x=some c->c≠b) /\ ∀ p∈X.pn++pins,p.1≠b
theorem Inv.fpOk {X:Cx} {pins:List (Addr×Obj)} {σ:St} {H H':Hp} {s:hI} {b:Addr} (I:Inv X pins σ H s) (j:s.heap.objs.size<=b) (B:H' b=none):cB X pins H' b:=by
 refine ⟨B,JP (HW I.lt j),I.nofs j, .inr (Iv I.sz j),fun x c e z => ?_,fun p F z => ?_⟩
 ·obtain ⟨v,q⟩:=I.cell x c e;exact absurd (HW q.lt (by rw [z];exact j)) (Jf _)
 ·exact absurd (HW (Hq (I.pin p F).1) (by rw [z];exact j)) (Jf _)
structure gn (P:HK) (w:Ie) (K:Frag) (tg:Expr) (J:It) (fp:List Addr) (it:Addr) (tn:Nat->Heap->Prop):Prop where
 mem:it∈fp
 obj:∀ i h,tn i h -> ∀ b∈fp, ∃ o,h.get? b=some o /\ ∀ v,o.data ≠ .cell v
 keep:∀ i h h',tn i h->(∀ b∈fp, ∀ o,h.get? b=some o->h'.get? b=some o)->tn i h'
 item:∀ (X:Cx),X.prog=P->X.w=w->X.K=K->X.calm=true -> ∀ (i:Nat) (pins:List (Addr×Obj)) (s:hI) (σ:St) (H:Hp) (E:h6->hI->Prop),Inv X pins σ H s->(∀ b∈fp,cB X pins H b)->tn i s.heap->J.go i H ->
  Ht (model P w) X.A (Lx (.ref it)) (fun r s1 => ∃ u,r=some u /\
   Ht (model P w) X.A (Mr tg (.ref it) u) (fun _ s2 => ∃ x H',Inv X pins σ H' s2/\RelV x u/\J.yld i H x H'/\tn (i+1) s2.heap /\ ∀ b∈fp,H' b=none) E s1) E s
 done:∀ (X:Cx),X.prog=P->X.w=w->X.K=K->X.calm=true -> ∀ (i:Nat) (pins:List (Addr×Obj)) (s:hI) (σ:St) (H:Hp) (E:h6->hI->Prop),Inv X pins σ H s->(∀ b∈fp,cB X pins H b)->tn i s.heap->J.stop i H ->
  Ht (model P w) X.A (Lx (.ref it)) (fun r s1=>r=none/\Inv X pins σ H s1) E s
 self:∀ (A:Io) (i:Nat) (s:hI) (Q:h6->hI->Prop) (E:h6->hI->Prop),tn i s.heap->Q (.ref it) s->Ht (model P w) A (Pc (.ref it)) Q E s
noncomputable abbrev TI:=St->Hp->(It->Hp->Prop)->Prop
def PIE (X:Cx) (pins:List (Addr×Obj)) (σ:St) (tg:Expr) (R:It->Hp->Prop) (itv:h6) (s2:hI):Prop :=
 ∃ (it:Addr) (fp:List Addr) (tn:Nat->Heap->Prop) (J:It) (H':Hp),itv = .ref it/\Inv X pins σ H' s2/\gn X.prog X.w X.K tg J fp it tn/\tn 0 s2.heap/\(∀ b∈fp,cB X pins H' b)/\R J H'
def PI (X:Cx) (tg iter:Expr) (wi:TI):Prop :=
 ∀ (pins:List (Addr×Obj)) (s:hI) (σ:St) (H:Hp) (R:It->Hp->Prop),Inv X pins σ H s->wi σ H R ->
  Ht (model X.prog X.w) X.A (eval iter X.env) (fun v s1=>Ht (model X.prog X.w) X.A (Pc v) (PIE X pins σ tg R) X.xe s1) X.xe s
theorem ng {M:Mn} {A:Io} {E:h6->hI->Prop} {s:hI} {tg:Expr} {it:Addr} {u:h6} {o:Obj} {n:String} {vs:Array h6} {Q:Unit->hI->Prop} (ho:s.heap.get? it=some o) (q:o.cls = .type n) (hd:o.data = .fields vs)
 (z : ["enumerate", "zip", "dict_itemiterator", "dict_reverseitemiterator", "odict_iterator", "itertools.zip_longest", "itertools.pairwise"].contains n=false) (j:Q () s):Ht M A (Mr tg (.ref it) u) Q E s:=by
 unfold Mr
 cases tg <;> first
  | exact r4 j
  | (cases u <;> first
      | exact r4 j
      | (refine gV (wpAny_load ho ?_)
         rw [q,hd];show Ht M A (if (["enumerate", "zip", "dict_itemiterator", "dict_reverseitemiterator", "odict_iterator", "itertools.zip_longest", "itertools.pairwise"].contains n&&vs[0]? == some (Nv _))=true then _ else _) Q E s
         rw [if_neg (by intro h;rw [z,MX] at h;cases h)]
         exact r4 j))
noncomputable def Itl (K:Frag) (a:Addr):It :=
 ⟨fun i H => ∃ xs x,SqL K H a xs/\xs[i]? = some x,fun i H x H'=>H'=H /\ ∀ xs,SqL K H a xs->xs[i]? = some x,fun i H => ∃ xs,SqL K H a xs/\xs.length<=i⟩
noncomputable def Itt (K:Frag) (a:Addr):It :=
 ⟨fun i H => ∃ xs x,SqT K H a xs/\xs[i]? = some x,fun i H x H'=>H'=H /\ ∀ xs,SqT K H a xs->xs[i]? = some x,fun i H => ∃ xs,SqT K H a xs/\xs.length<=i⟩
noncomputable def Itr (lo:Int) (n:Nat):It:=⟨fun i _=>i < n,fun i H x H'=>H'=H/\x = .int (lo+i),fun i _=>n<=i⟩
theorem uj {P:HK} {w:Ie} {K:Frag} {tg:Expr} (a it:Addr):gn P w K tg (Itl K a) [it] it (fun i h=>h.IsListIter it a i) where
 mem:=by simp
 obj:=fun i h st b j=>by
  have e:b=it:=by simpa using j
  subst e;obtain ⟨o,e,c,d⟩:=st;exact ⟨o,e,fun v z=>by rw [d] at z;cases z⟩
 keep:=fun i h h' st k=>st.at fun o e=>k it (by simp) o e
 item:=by
  intro X B hw F L i pins s σ H E I hf st hg;subst B hw F;obtain ⟨xs,x,q,hx⟩:=hg;obtain ⟨its,rv,p,O⟩:=I.list q;obtain ⟨u,U,ru⟩:=rv.get hx;obtain ⟨f0,f1,f2,G,f4,J⟩:=hf it (by simp)
  refine Ly st p.isList (x:=u) (by simpa using U) fun h' st' sb => ?_
  have Y:Inv X pins σ H { s with heap:=h' }:=I.turned (t':=s.toks) (fun b o j e=>(sb.2 b j).trans e) f0 f1 G f4 J
  obtain ⟨o,e,c,d⟩:=id st';exact ⟨u,rfl,ng (s := { s with heap:=h' }) e c d (by decide) ⟨x,H,Y,ru,⟨rfl,fun ys Z=>by rw [I.list_inj Z q];exact hx⟩,st',fun b j=>(hf b j).1⟩⟩
 done:=by
  intro X B hw F L i pins s σ H E I hf st hg;subst B hw F;obtain ⟨xs,q,hx⟩:=hg;obtain ⟨its,rv,p,O⟩:=I.list q;obtain ⟨f0,f1,f2,G,f4,J⟩:=hf it (by simp)
  have hl:=rv.length;exact LR (I.ok.hd L) st p.isList (by simp;omega) fun h' eb=>⟨rfl,I.turned (t':=s.toks) (fun b o j e=>eb b o j e) f0 f1 G f4 J⟩
 self:=fun _ _ _ _ _ st h=>wpAny_pyIter_listiter st h
theorem sj {P:HK} {w:Ie} {K:Frag} {tg:Expr} (a it:Addr):gn P w K tg (Itt K a) [it] it (fun i h=>h.IsTupleIter it a i) where
 mem:=by simp
 obj:=fun i h st b j=>by
  have e:b=it:=by simpa using j
  subst e;obtain ⟨o,e,c,d⟩:=st;exact ⟨o,e,fun v z=>by rw [d] at z;cases z⟩
 keep:=fun i h h' st k=>st.at fun o e=>k it (by simp) o e
 item:=by
  intro X B hw F L i pins s σ H E I hf st hg;subst B hw F;obtain ⟨xs,x,q,hx⟩:=hg;obtain ⟨its,rv,p,O⟩:=I.tuple q;obtain ⟨u,U,ru⟩:=rv.get hx;obtain ⟨f0,f1,f2,G,f4,J⟩:=hf it (by simp)
  refine wpAny_pyNext_tuple_item st (show s.heap.IsTuple a its.toArray from p) (x:=u) (by simpa using U) fun h' st' sb => ?_
  have Y:Inv X pins σ H { s with heap:=h' }:=I.turned (t':=s.toks) (fun b o j e=>(sb.2 b j).trans e) f0 f1 G f4 J
  obtain ⟨o,e,c,d⟩:=id st';exact ⟨u,rfl,ng (s := { s with heap:=h' }) e c d (by decide) ⟨x,H,Y,ru,⟨rfl,fun ys Z=>by rw [I.tuple_inj Z q];exact hx⟩,st',fun b j=>(hf b j).1⟩⟩
 done:=by
  intro X B hw F L i pins s σ H E I hf st hg;subst B hw F;obtain ⟨xs,q,hx⟩:=hg;obtain ⟨its,rv,p,O⟩:=I.tuple q;obtain ⟨f0,f1,f2,G,f4,J⟩:=hf it (by simp)
  have hl:=rv.length;exact wpAny_pyNext_tuple_end (I.ok.hd L) st (show s.heap.IsTuple a its.toArray from p) (by simp;omega) fun h' eb=>⟨rfl,I.turned (t':=s.toks) (fun b o j e=>eb b o j e) f0 f1 G f4 J⟩
 self:=fun _ _ _ _ _ st h=>wpAny_pyIter_tupleiter st h
theorem sk {P:HK} {w:Ie} {K:Frag} {tg:Expr} (it:Addr) (lo:Int) (n:Nat):gn P w K tg (Itr lo n) [it] it (fun i h=>IsRangeIter h it (lo+(i:Nat)*1) ((n:Int) - (i:Nat)) 1) where
 mem:=by simp
 obj:=fun i h st b j=>by
  have e:b=it:=by simpa using j
  subst e;exact ⟨_,st,fun v z=>by
   have z':Data.fields _=Data.cell v:=z
   cases z'⟩
 keep:=fun i h h' st k=>k it (by simp) _ st
 item:=by
  intro X q hw B F i pins s σ H E I hf st hg;subst q hw B;obtain ⟨f0,f1,f2,G,f4,J⟩:=hf it (by simp)
  have W:=Walks.range (prog:=X.prog) (w:=X.w) (I.ok.hd F) it lo 1 n;refine W.item i s _ _ hg st fun v h' tk L st' kk => ?_;obtain ⟨t,rfl⟩:=L;have O:Inv X pins σ H { s with heap:=h',toks:=tk }:=I.turned (fun b o j e=>kk b o (by simpa using j) e) f0 f1 G f4 J
  refine ⟨_,rfl,ng (s := { s with heap:=h',toks:=tk }) (n := "range_iterator") st' rfl rfl (by decide) ⟨.int (lo+i),H,O,⟨t, ?_⟩,⟨rfl,rfl⟩,st',fun b j=>(hf b j).1⟩⟩
  rw [Int.mul_one]
 done:=by
  intro X q hw B F i pins s σ H E I hf st hg;subst q hw B;obtain ⟨f0,f1,f2,G,f4,J⟩:=hf it (by simp)
  exact wpAny_pyNext_range_end (I.ok.hd F) st (by have:n<=i:=hg;omega) fun h' eb=>⟨rfl,I.turned (t':=s.toks) (fun b o j e=>eb b o j e) f0 f1 G f4 J⟩
 self:=fun _ _ _ _ _ st h=>wpAny_pyIter_rangeiter st h
end
section
section
variable {X:Cx} {tg:Expr}
theorem xj {pins:List (Addr×Obj)} {σ:St} {H:Hp} {s:hI} {R:It->Hp->Prop} {E:h6->hI->Prop} {lo hi:Int} {t u v:Tok} {tk:Nat} (I:Inv X pins σ H s) (h1 : -(2 ^ 62)<=lo) (h2:lo < 2 ^ 62) (z : -(2 ^ 62)<=hi) (B:hi < 2 ^ 62)
 (q:R (Itr lo (hi - lo).toNat) H):Ht (model X.prog X.w) X.A (Pc (.ref s.heap.objs.size)) (PIE X pins σ tg R) E { s with heap:=s.heap.push { cls := .type "range",data := .fields #[.int lo t, .int hi u, .int 1 v] },toks:=tk }:=by
 refine wpAny_pyIter_range (IsRange.new ..) (small_one h1 h2 z B) ?_;have j:Inv X pins σ H { s with heap:=s.heap.push { cls := .type "range",data := .fields #[.int lo t, .int hi u, .int 1 v] },toks:=tk }:=I.kept fun b o e=>h7 _ e
 refine ⟨(s.heap.push { cls := .type "range",data := .fields #[.int lo t, .int hi u, .int 1 v] }).objs.size,[(s.heap.push { cls := .type "range",data := .fields #[.int lo t, .int hi u, .int 1 v] }).objs.size],_,_,H,rfl,
  j.kept (t':=tk) fun b o e=>h7 _ e,sk _ lo (hi - lo).toNat, ?_,fun b F => ?_,q⟩
 ·have e1:lo+((0:Nat):Int)*1=lo:=by simp
  have e2:(((hi - lo).toNat:Nat):Int) - ((0:Nat):Int)=Ls lo hi 1:=by rw [rangeSize_one];split <;> omega
  show IsRangeIter _ _ (lo+((0:Nat):Int)*1) ((((hi - lo).toNat:Nat):Int) - ((0:Nat):Int)) 1;rw [e1,e2];exact Hm _ rfl
 ·have e:b=(s.heap.push { cls := .type "range",data := .fields #[.int lo t, .int hi u, .int 1 v] }).objs.size:=by simpa using F
  subst e;exact j.fpOk (Hr _) (j.hok.fresh (Hr _))
noncomputable def DN (ta:TA):TI:=fun σ H R=>ta σ H fun vs H1 => ∃ j:Int,vs=[.int j] /\ -(2 ^ 62)<=j/\j < 2 ^ 62/\R (Itr 0 j.toNat) H1
theorem uk {a:Expr} {ta:TA} {p pos:Pos} (B:Gl X "range") (hm:X.mg "range" = none) (F:PA X [a] ta) (hs:HP [a] X.env=[(false,eval a X.env)]:=by rfl):PI X tg (.Call (.Name "range" p) [a] [] pos) (DN ta):=by
 intro pins s σ H R I h;refine Call_ (dz I B hm boot_range (J1 (thn (F pos pins s σ H _ I h) fun us s1 ⟨vs,H1,G,J,z⟩ => ?_) hs rfl));obtain ⟨j,e,z,L,q⟩:=z;subst e
 cases J with
 | cons r rr =>
   cases rr
   obtain ⟨t,rfl⟩:=r;exact call_range_1 (xj G (by omega) (by omega) z L (by simpa using q))
noncomputable def C5 (wi:TI) (g:TG) (tb:TS):TS:=fun D σ H=>wi σ H fun J H1 => ∃ W:Nat->Nat->St->Hp->Prop,(∃ m,W 0 m σ H1) /\ ∀ i m σ H,W i m σ H ->
 (J.stop i H/\D.nx σ H)∨(J.go i H /\ ∃ N:St->Hp->Prop,(∀ σ' H',N σ' H' -> ∃ m',m' < m/\W (i+1) m' σ' H') /\ ∀ x H',J.yld i H x H'->g x σ H' fun σ2 H2=>tb { D with nx:=N,ct:=N,bk:=D.nx } σ2 H2)
noncomputable def jw (fp:List Addr) (h:Heap):List (Addr×Obj):=fp.filterMap fun b=>(h.get? b).map fun o=>(b,o)
theorem dJ {fp:List Addr} {h:Heap} {b:Addr} {o:Obj} (j:b∈fp) (e:h.get? b=some o):(b,o)∈jw fp h:=MY.mpr ⟨b,j,by rw [e];rfl⟩
theorem um {fp:List Addr} {h:Heap} {p:Addr×Obj} (j:p∈jw fp h):p.1∈fp/\h.get? p.1=some p.2:=by
 obtain ⟨b,z,e⟩:=MY.mp j
 cases q:h.get? b with
 | none=>rw [q] at e;cases e
 | some o =>
   rw [q] at e;have e':(b,o)=p:=Jk.inj e;subst e';exact ⟨z,q⟩
theorem Inv.pinned {pins:List (Addr×Obj)} {σ:St} {H:Hp} {s:hI} {fp:List Addr} (I:Inv X pins σ H s) (hf:∀ b∈fp,cB X pins H b) (ho:∀ b∈fp, ∃ o,s.heap.get? b=some o /\ ∀ v,o.data ≠ .cell v):Inv X (pins++jw fp s.heap) σ H s :=
 I.pins_of fun p q=>(Hv.mp q).elim (fun z=>I.pin p (HA _ z)) fun z=>by
  obtain ⟨j,e⟩:=um z;obtain ⟨f0,f1,f2,_⟩:=hf p.1 j;obtain ⟨o,e',d⟩:=ho p.1 j;rw [e] at e';cases e';exact ⟨e,f0,f1,f2,d⟩
theorem Inv.unpinned {pins pl:List (Addr×Obj)} {σ:St} {H:Hp} {s:hI} (I:Inv X (pins++pl) σ H s):Inv X pins σ H s:=I.pins_of fun p j=>I.pin p (HA _ (II _ j))
theorem C6 {iter:Expr} {body:List Stmt} {wi:TI} {g:TG} {tb:TS} {pos:Pos} (G:PassesOwn (model X.prog X.w) X.A X.env X.xe) (hc:X.calm=true) (hi:PI X tg iter wi) (hg:PG X tg g) (j:PSs X body tb)
 (hs:∀ x,JH iter X.env x=pure x:=by intro _;rfl):PS X (.For tg iter body [] pos) (C5 wi g tb):=by
 intro pins s σ H D I h;refine wpAny_For (thn (hi pins s σ H _ I h) fun v s1 h1=>thn h1 fun itv s2 h2 => ?_) hs;obtain ⟨it,fp,tn,J,H2,e,I2,T,Z,f2,W,⟨m0,w0⟩,turn⟩:=h2;subst e;have stat:∀ {H':Hp},(∀ b∈fp,H' b=none) -> ∀ b∈fp,cB X pins H' b:=fun hn b j=>⟨hn b j,(f2 b j).2⟩;refine codeAny_forLoop_any (fun n s' => ∃ i σ' H',Inv X pins σ' H' s'/\tn i s'.heap/\(∀ b∈fp,H' b=none)/\W i n σ' H') ?_ m0 ⟨0, σ,H2,I2,Z,fun b j=>(f2 b j).1,w0⟩;rintro n s3 ⟨i, σ3,Y,I3,L,O,w3⟩
 rcases turn i n σ3 Y w3 with ⟨stop,qn⟩ | ⟨go,N,hN,step⟩
 ·refine K6 G (thn (T.done X rfl rfl rfl hc i pins s3 σ3 Y X.xe I3 (stat O) L stop) fun r s4 ⟨hr,I4⟩ => ?_);subst hr;exact Oa ⟨σ3,Y,I4,qn⟩
 ·refine K6 G (thn (T.item X rfl rfl rfl hc i pins s3 σ3 Y X.xe I3 (stat O) L go) fun r s4 ⟨u,hr,h4⟩ => ?_);subst hr;refine K6 G (thn h4 fun _ s5 ⟨x,H5,I5,r5,y5,F,F5⟩ => ?_);have F6:=I5.pinned (stat F5) (T.obj _ _ F);refine K6 G (thn (hg _ s5 σ3 H5 x u _ F6 r5 (step x H5 y5)) fun _ s6 ⟨σ6,H6,I6,q6⟩ => ?_);refine K6 G (thn (j _ s6 σ6 H6 _ I6 q6) fun f s7 B => ?_);have again:∀ {σ7:St} {q:Hp},Inv X (pins++jw fp s5.heap) σ7 q s7->N σ7 q -> ∃ m,m < n /\ ∃ i σ' H',Inv X pins σ' H' s7/\tn i s7.heap/\(∀ b∈fp,H' b=none)/\W i m σ' H':=fun {σ7 q} z U=>by
   obtain ⟨m',hm,w7⟩:=hN σ7 q U;refine ⟨m',hm,i+1, σ7,q,z.unpinned,T.keep _ _ _ F fun b j o e=>(z.pin (b,o) (HA _ (HA _ (dJ j e)))).1,fun b j => ?_,w7⟩;obtain ⟨o,e,d⟩:=T.obj _ _ F b j;exact (z.pin (b,o) (HA _ (HA _ (dJ j e)))).2.1
  cases f with
  | next=>obtain ⟨σ7,q,z,U⟩:=B;exact again z U
  | cont=>obtain ⟨σ7,q,z,U⟩:=B;exact again z U
  | brk=>obtain ⟨σ7,q,z,B⟩:=B;exact ⟨σ7,q,z.unpinned,B⟩
  | ret v=>obtain ⟨x7, σ7,q,z,r7,B⟩:=B;exact ⟨x7, σ7,q,z.unpinned,r7,B⟩
end
end
section
noncomputable abbrev R2:=V->V->Hp->VK->Prop
def OpR (X:Cx) (f:h6->h6->Sem h6) (r:R2):Prop :=
 ∀ (pins:List (Addr×Obj)) (s:hI) (σ:St) (H:Hp) (x y:V) (v u:h6) (Q:VK),Inv X pins σ H s->RelV x v->RelV y u->r x y H Q ->
  Ht (model X.prog X.w) X.A (f v u) (EP X pins σ Q) X.xe s
def UnR (X:Cx) (f:h6->Sem h6) (r:V->Hp->VK->Prop):Prop :=
 ∀ (pins:List (Addr×Obj)) (s:hI) (σ:St) (H:Hp) (x:V) (v:h6) (Q:VK),Inv X pins σ H s->RelV x v->r x H Q ->
  Ht (model X.prog X.w) X.A (f v) (EP X pins σ Q) X.xe s
def CallR (X:Cx) (f:h6) (r:List V->Hp->VK->Prop):Prop :=
 ∀ (pins:List (Addr×Obj)) (s:hI) (σ:St) (H:Hp) (xs:List V) (us:List h6) (Q:VK),Inv X pins σ H s->Vals xs us->r xs H Q ->
  Ht (model X.prog X.w) X.A (call f us) (EP X pins σ Q) X.xe s
def EH (X:Cx) (r:V->Hp->(Bool->Hp->Prop)->Prop):Prop :=
 ∀ (pins:List (Addr×Obj)) (s:hI) (σ:St) (H:Hp) (x:V) (v:h6) (Q:Bool->Hp->Prop),Inv X pins σ H s->RelV x v->r x H Q ->
  Ht (model X.prog X.w) X.A (truthy v) (TP X pins σ Q) X.xe s
noncomputable def tOp (r:R2) (ta tb:TE):TE:=fun σ H Q=>ta σ H fun x H1=>tb σ H1 fun y H2=>r x y H2 Q
noncomputable def tUn (r:V->Hp->VK->Prop) (ta:TE):TE:=fun σ H Q=>ta σ H fun x H1=>r x H1 Q
noncomputable def rI (C:Int->Int->Prop) (g:Int->Int->V):R2:=fun x y H Q => ∃ i j,x = .int i/\y = .int j/\C i j/\Q (g i j) H
noncomputable def rI0 (g:Int->Int->V):R2:=fun x y H Q => ∃ i j,x = .int i/\y = .int j/\Q (g i j) H
noncomputable def rU (g:Int->V):V->Hp->VK->Prop:=fun x H Q => ∃ i,x = .int i/\Q (g i) H
section
variable {X:Cx} {a b c:Expr} {ta tb tc:TE} {pos:Pos}
theorem xk (j:PE X a ta) (q:PE X b tb) {pins:List (Addr×Obj)} {s:hI} {σ:St} {H:Hp} {R:V->V->Hp->Prop} (I:Inv X pins σ H s)
 (h:ta σ H fun x H1=>tb σ H1 fun y H2=>R x y H2) {Q:h6->hI->Prop} {f:h6->h6->Sem h6}
 (hf:∀ v u s2 x y H2,Inv X pins σ H2 s2->RelV x v->RelV y u->R x y H2->Ht (model X.prog X.w) X.A (f v u) Q X.xe s2) :
 Ht (model X.prog X.w) X.A (eval a X.env) (fun v s₁ => Ht (model X.prog X.w) X.A (eval b X.env) (fun u s₂ => Ht (model X.prog X.w) X.A (f v u) Q X.xe s₂) X.xe s₁) X.xe s:=by
 refine thn (j pins s σ H _ I h) fun v s1 ⟨x,H1,z,B,F⟩ => ?_;refine thn (q pins s1 σ H1 _ z F) fun u s2 ⟨y,H2,G,J,L⟩ => ?_;exact hf v u s2 x y H2 G B J L
theorem DO {op:Pw} {r:R2} (ho:OpR X (Jg op) r) (j:PE X a ta) (z:PE X b tb):PE X (.BinOp a op b pos) (tOp r ta tb):=by
 intro pins s σ H Q I h;exact wpAny_BinOp (xk j z I h fun v u s2 x y H2 B rx ry q=>ho pins s2 σ H2 x y v u Q B rx ry q)
theorem DP {op:UnaryOp} {r:V->Hp->VK->Prop} (ho:UnR X (unaryOp op) r) (j:PE X a ta):PE X (.UnaryOp op a pos) (tUn r ta):=by
 intro pins s σ H Q I h;exact UnaryOp_ (thn (j pins s σ H _ I h) fun v s1 ⟨x,H1,q,z,B⟩=>ho pins s1 σ H1 x v Q q z B)
theorem opI {f:h6->h6->Sem h6} {C:Int->Int->Prop} {g:Int->Int->Int}
 (rule:∀ (i j:Int) (t u:Tok) (s:hI) (Q:h6->hI->Prop) (E:h6->hI->Prop),C i j->Q (.int (g i j) s.toks) { s with toks:=s.toks+1 }->Ht (model X.prog X.w) X.A (f (.int i t) (.int j u)) Q E s) :
 OpR X f (rI C fun i j => .int (g i j)):=by
 intro pins s σ H x y v u Q I rx ry h;obtain ⟨i,j,rfl,rfl,z,q⟩:=h;obtain ⟨t,rfl⟩:=rx;obtain ⟨t',rfl⟩:=ry;exact rule i j t t' s _ _ z ⟨.int (g i j),H,I.tok _,⟨_,rfl⟩,q⟩
theorem C7 {f:h6->h6->Sem h6} {g:Int->Int->Int}
 (rule:∀ (i j:Int) (t u:Tok) (s:hI) (Q:h6->hI->Prop) (E:h6->hI->Prop),Q (.int (g i j) s.toks) { s with toks:=s.toks+1 }->Ht (model X.prog X.w) X.A (f (.int i t) (.int j u)) Q E s) :
 OpR X f (rI0 fun i j => .int (g i j)):=by
 intro pins s σ H x y v u Q I rx ry h;obtain ⟨i,j,rfl,rfl,q⟩:=h;obtain ⟨t,rfl⟩:=rx;obtain ⟨t',rfl⟩:=ry;exact rule i j t t' s _ _ ⟨.int (g i j),H,I.tok _,⟨_,rfl⟩,q⟩
theorem xm {f:h6->h6->Sem h6} {g:Int->Int->Bool}
 (rule:∀ (i j:Int) (t u:Tok) (s:hI) (Q:h6->hI->Prop) (E:h6->hI->Prop),Q (.bool (g i j)) s->Ht (model X.prog X.w) X.A (f (.int i t) (.int j u)) Q E s) :
 OpR X f (rI0 fun i j => .bl (g i j)):=by
 intro pins s σ H x y v u Q I rx ry h;obtain ⟨i,j,rfl,rfl,q⟩:=h;obtain ⟨t,rfl⟩:=rx;obtain ⟨t',rfl⟩:=ry;exact rule i j t t' s _ _ ⟨.bl (g i j),H,I,rfl,q⟩
def EI (i j:Int):Prop := 0<=j/\j<=1000000/\i.natAbs < 2 ^ 64
theorem op_add:OpR X (Jg .Add) (rI0 fun i j => .int (i+j)):=C7 fun _ _ _ _ _ _ _ q=>add_int q
theorem C8:OpR X (Jg .Sub) (rI0 fun i j => .int (i - j)):=C7 fun _ _ _ _ _ _ _ q=>sub_int q
theorem C9:OpR X (Jg .Mod) (rI (fun _ j => 0 < j) fun i j => .int (i % j)):=opI fun i j _ _ _ _ _ z q=>by
 have h1:(0:Int) < j:=z;exact mod_int' (by omega) (by rw [Int.fmod_eq_emod_of_nonneg i (by omega)];exact q)
theorem Ca:OpR X (Jg .Pow) (rI EI fun i j => .int (i ^ j.toNat)):=opI fun _ _ _ _ _ _ _ z q=>pow_int_small z.1 z.2.1 z.2.2 q
theorem unI {f:h6->Sem h6} {g:Int->Int}
 (rule:∀ (i:Int) (t:Tok) (s:hI) (Q:h6->hI->Prop) (E:h6->hI->Prop),Q (.int (g i) s.toks) { s with toks:=s.toks+1 }->Ht (model X.prog X.w) X.A (f (.int i t)) Q E s) :
 UnR X f (rU fun i => .int (g i)):=by
 intro pins s σ H x v Q I rx h;obtain ⟨i,rfl,q⟩:=h;obtain ⟨t,rfl⟩:=rx;exact rule i t s _ _ ⟨.int (g i),H,I.tok _,⟨_,rfl⟩,q⟩
theorem Cb:UnR X (unaryOp .USub) (rU fun i => .int (-i)):=unI fun _ _ _ _ _ q=>neg_int q
end
section
variable {X:Cx} {a b c:Expr} {ta tb tc:TE} {pos:Pos}
theorem DQ:OpR X (Jm .Lt) (rI0 fun i j => .bl (decide (i < j))):=xm fun _ _ _ _ _ _ _ q=>lt_int q
theorem DR:OpR X (Jm .Gt) (rI0 fun i j => .bl (decide (j < i))):=xm fun _ _ _ _ _ _ _ q=>gt_int q
theorem DS:OpR X (Jm .GtE) (rI0 fun i j => .bl (decide (j<=i))):=xm fun _ _ _ _ _ _ _ q=>ge_int q
theorem OpR.or {f:h6->h6->Sem h6} {r r':R2} (h:OpR X f r) (h':OpR X f r'):OpR X f (fun x y H Q=>r x y H Q∨r' x y H Q):=by
 intro pins s σ H x y v u Q I rx ry q
 rcases q with q | q
 ·exact h pins s σ H x y v u Q I rx ry q
 ·exact h' pins s σ H x y v u Q I rx ry q
theorem Ai {op:CmpOp} {r:R2} (ho:OpR X (Jm op) r) (j:PE X a ta) (z:PE X b tb) (hm:Ld op b=false):PE X (.Compare a [op] [b] pos) (tOp r ta tb):=by
 intro pins s σ H Q I h;exact wpAny_Compare1 (xk j z I h fun v u s2 x y H2 B rx ry q=>ho pins s2 σ H2 x y v u Q B rx ry q) hm
noncomputable def zA (t:TE):TT:=fun σ H Q=>t σ H fun x H' => ∃ k,x = .bl k/\Q k H'
theorem Aj {op:CmpOp} {r:R2} (ho:OpR X (Jm op) r) (j:PE X a ta) (q:PE X b tb) (hm:Ld op b=false):PT X (.Compare a [op] [b] pos) (zA (tOp r ta tb)):=by
 intro pins s σ H Q I h;refine wpAny_isTrue_Compare1 (thn (j pins s σ H _ I h) fun v s1 ⟨x,H1,B,F,G⟩=>thn (q pins s1 σ H1 _ B G) fun u s2 ⟨y,H2,J,L,O⟩ =>
  thn (ho pins s2 σ H2 x y v u _ J F L O) fun c s3 ⟨z,U,Y,Z,k,e,q3⟩ => ?_) hm
 subst e
 cases Z
 exact K9 ⟨U,Y,q3⟩
def xo (K:Frag) (x:V) (H:Hp) (k:Bool):Prop :=
 match x with
 | .non=>k=false
 | .bl b=>k=b
 | .int i=>k=(i != 0)
 | .str y=>y.length<=Hj/\k=((y.length:Int) != 0)
 | .byt y=>y.size<=Hj/\k=((y.size:Int) != 0)
 | .ref p=>(∃ xs,SqL K H p xs/\k = !xs.isEmpty)∨(∃ xs,SqT K H p xs/\k = !xs.isEmpty) ∨ ∃ kvs,H p=some (.dK kvs)/\k = !kvs.isEmpty
 | _=>False
theorem sn {κ:Type} {kvs:List (κ × V)} {vs:List (κ × h6)} (r:KV kvs vs):(!vs.isEmpty) = !kvs.isEmpty:=by
 cases r <;> rfl
theorem jx {xs:List V} {its:List h6} (r:Vals xs its):(!its.toArray.isEmpty) = !xs.isEmpty:=by
 cases r <;> simp
theorem gu:(Hj:Nat) < 2 ^ 63:=by rw [tv];decide
theorem Cc:EH X (fun x H Q => ∃ k,xo X.K x H k/\Q k H):=by
 intro pins s σ H x v Q I rx h;obtain ⟨k,e,q⟩:=h;have F:=gu;have hs:Hj=16777216:=tv
 cases x with
 | non =>
   cases rx
   have e':k=false:=e;subst e';exact truthy_none ⟨H,I,q⟩
 | bl b =>
   cases rx
   have e':k=b:=e;subst e';exact K9 ⟨H,I,q⟩
 | int i =>
   obtain ⟨t,rfl⟩:=rx;have e':k=(i != 0):=e;subst e';exact PySem.P.truthy_int ⟨H,I,q⟩
 | str y =>
   obtain ⟨t,rfl⟩:=rx;obtain ⟨z,e'⟩:y.length<=Hj/\k=((y.length:Int) != 0):=e;subst e';exact PySem.P.truthy_str (by omega) ⟨H,I.tok _,q⟩
 | byt y =>
   obtain ⟨t,rfl⟩:=rx;obtain ⟨z,e'⟩:y.size<=Hj/\k=((y.size:Int) != 0):=e;subst e';exact PySem.W.truthy_bytes (by omega) ⟨H,I.tok _,q⟩
 | ref p =>
   cases rx
   have e':(∃ xs,SqL X.K H p xs/\k = !xs.isEmpty)∨(∃ xs,SqT X.K H p xs/\k = !xs.isEmpty) ∨ ∃ kvs,H p=some (.dK kvs)/\k = !kvs.isEmpty:=e
   rcases e' with ⟨xs,hx,e'⟩ | ⟨xs,hx,e'⟩ | ⟨kvs,hx,e'⟩
   ·subst e';obtain ⟨its,r,pl,j⟩:=I.list hx;have hlen:=r.length;exact wpAny_truthy_list pl.isList (by simp only [Hl];omega) ⟨H,I.tok _,by rw [jx r];exact q⟩
   ·subst e';obtain ⟨its,r,pl,j⟩:=I.tuple hx;have hlen:=r.length;exact truthy_tuple pl (by simp only [Hl];omega) ⟨H,I.tok _,by rw [jx r];exact q⟩
   ·subst e';obtain ⟨j,B,vs,r,m⟩:kvs.length<=Hj/\(p==IQ)=false /\ ∃ vs,KV kvs vs/\s.heap.DictOf (aN X.prog X.w) p vs:=I.hok p _ hx;have hlen:kvs.length=vs.length:=Kf r;exact wpAny_truthy_dict B m (by omega) ⟨H,I.tok _,by rw [sn r];exact q⟩
 | _=>exact (show False from e).elim
theorem xq (j:PE X a ta) (he:∀ whole,isTrue a X.env whole=(do let v <- whole;Np a.pos;holding [v] (truthy v))) :
 PT X a (fun σ H Q=>ta σ H fun x H' => ∃ k,xo X.K x H' k/\Q k H'):=by
 intro pins s σ H Q I h;exact isTrue_plain (thn (j pins s σ H _ I h) fun v s1 ⟨x,H1,q,z,B⟩=>Cc pins s1 σ H1 x v Q q z B) (he _)
theorem so:OpR X (Jg .Add) (fun x y H Q => ∃ i j,x = .str i/\y = .str j/\i.length+j.length<=Hj/\Q (.str (i++j)) H):=by
 intro pins s σ H x y v u Q I rx ry h;obtain ⟨i,j,rfl,rfl,z,q⟩:=h;obtain ⟨t,rfl⟩:=rx;obtain ⟨t',rfl⟩:=ry;exact add_str (fun t' tk=>⟨.str (i++j),H,I.tok _,⟨_,rfl⟩,q⟩) z
theorem dL {x:V} {us:List h6} (r:Vals [x] us):∃ u,us=[u]/\RelV x u:=by
 cases r with
 | cons j q=>cases q;exact ⟨_,rfl,j⟩
theorem nh {x y:V} {us:List h6} (r:Vals [x,y] us):∃ u w',us=[u,w']/\RelV x u/\RelV y w':=by
 cases r with
 | cons j q =>
   cases q with
   | cons z B=>cases B;exact ⟨_,_,rfl,j,z⟩
theorem xr:CallR X (.builtin "abs") (fun xs H Q => ∃ i,xs=[.int i]/\Q (.int (if i < 0 then -i else i)) H):=by
 intro pins s σ H xs us Q I r h;obtain ⟨i,rfl,q⟩:=h;obtain ⟨u,rfl,t,rfl⟩:=dL r;exact call_abs_int fun u tk=>⟨.int (if i < 0 then -i else i),H,I.tok _,⟨_,rfl⟩,q⟩
theorem uo (B:X.calm=true):CallR X (.builtin "min") (fun xs H Q => ∃ i j,xs=[.int i, .int j]/\Q (.int (if j < i then j else i)) H):=by
 intro pins s σ H xs us Q I r h;obtain ⟨i,j,rfl,q⟩:=h;obtain ⟨u,w',rfl,⟨t,rfl⟩,⟨t',rfl⟩⟩:=nh r;refine min_two_ints (I.ok.hd B) fun h' tk k=>⟨_,H,I.kept k, ?_,q⟩
 by_cases z:j < i
 ·rw [if_pos z,if_pos z];exact ⟨_,rfl⟩
 ·rw [if_neg z,if_neg z];exact ⟨_,rfl⟩
theorem uq:CallR X (.type "int") (fun xs H Q=>(∃ i,xs=[.int i]/\Q (.int i) H) ∨ ∃ k,xs=[.bl k]/\Q (.int (if k then 1 else 0)) H):=by
 intro pins s σ H xs us Q I r h
 rcases h with ⟨i,rfl,q⟩ | ⟨k,rfl,q⟩
 ·obtain ⟨u,rfl,t,rfl⟩:=dL r;exact call_int_int ⟨.int i,H,I,⟨_,rfl⟩,q⟩
 ·obtain ⟨u,rfl,j⟩:=dL r
  cases j
  exact call_int_bool ⟨.int (if k then 1 else 0),H,I.tok _,⟨_,rfl⟩,q⟩
def EJ (K:Frag) (x:V) (H:Hp) (n:Nat):Prop :=
 match x with
 | .str y=>y.length<=Hj/\n=y.length
 | .byt y=>y.size<=Hj/\n=y.size
 | .ref p=>(∃ xs,SqL K H p xs/\n=xs.length) ∨ ∃ xs,SqT K H p xs/\n=xs.length
 | _=>False
theorem xt:CallR X (.builtin "len") (fun xs H Q => ∃ x n,xs=[x]/\EJ X.K x H n/\Q (.int n) H):=by
 intro pins s σ H xs us Q I r h;obtain ⟨x,n,rfl,e,q⟩:=h;obtain ⟨u,rfl,rx⟩:=dL r;have B:=gu;have hs:Hj=16777216:=tv
 cases x with
 | str y =>
   obtain ⟨t,rfl⟩:=rx;obtain ⟨j,e'⟩:y.length<=Hj/\n=y.length:=e;subst e';exact len_str (by omega) ⟨.int _,H,I.tok _,⟨_,rfl⟩,q⟩
 | byt y =>
   obtain ⟨t,rfl⟩:=rx;obtain ⟨j,e'⟩:y.size<=Hj/\n=y.size:=e;subst e';exact PySem.W.len_bytes (by omega) ⟨.int _,H,I.tok _,⟨_,rfl⟩,q⟩
 | ref p =>
   cases rx
   have e':(∃ xs,SqL X.K H p xs/\n=xs.length) ∨ ∃ xs,SqT X.K H p xs/\n=xs.length:=e
   rcases e' with ⟨xs,hx,e'⟩ | ⟨xs,hx,e'⟩
   ·subst e';obtain ⟨its,r',pl,z⟩:=I.list hx;have hlen:=r'.length;exact Calls.call_len_list pl.isList (by simp only [Hl];omega) ⟨.int xs.length,H,I.tok _,⟨_,by simp only [Hl];rw [hlen]⟩,q⟩
   ·subst e';obtain ⟨its,r',pl,z⟩:=I.tuple hx;have hlen:=r'.length;exact len_tuple pl (by simp only [Hl];omega) ⟨.int xs.length,H,I.tok _,⟨_,by simp only [Hl];rw [hlen]⟩,q⟩
 | _=>exact (show False from e).elim
end
end
section
structure ObjM (h:Heap) (x dx C:Addr) (mA:Str->Option h6):Prop where
 obj:h.get? x=some (O9 C dx)
 ns:h.Ns1 dx mA
 ne:dx≠x
theorem ut {h:Heap} {dx:Addr} {mA:Str->Option h6} (n:h.Ns1 dx mA):∃ od,h.get? dx=some od /\ ∀ name,Oo name od=some (mA name):=by
 obtain ⟨o,es,ep,ho,hd,B,_,hm⟩:=n;refine ⟨o,ho,fun name => ?_⟩;have e:=hm name;unfold nsFind findBy at e;rw [<- Array.find?_toList] at e;unfold Oo;rw [hd];dsimp only
 split
 ·rename_i y q;rw [q] at e;exact congrArg some e
 ·rename_i q;rw [q] at e;have a:es.toList.any (·.refKey)=false:=by
   rw [Px];intro y F;obtain ⟨z,t,j⟩:=B y (Array.mem_toList_iff.mp F);simp [DictEntry.refKey,j]
  have a' : ¬ es.toList.any (·.refKey)=true:=by rw [a];exact Hi
  rw [if_neg a'];exact congrArg some e
theorem ObjM.look {h:Heap} {x dx C:Addr} {mA:Str->Option h6} (I:ObjM h x dx C mA):∃ od,PySem.W.InstAt h x (O9 C dx) C (some od) /\ ∀ name,Oo name od=some (mA name) :=
 let ⟨od,ho,j⟩:=ut I.ns
 ⟨od,⟨I.obj,rfl,rfl,ho⟩,j⟩
theorem Ry {v:V} {o:Option h6} (r:RelO (some v) o):∃ u,o=some u/\RelV v u:=by
 cases o with
 | none=>exact (show False from r).elim
 | some u=>exact ⟨u,rfl,r⟩
section
variable {P:HK} {w:Ie} {H H':Hp} {h h':Heap} {a C dx:Addr} {fs fs':List (Str×V)}
theorem Ak (hok:HOk P w H h) (e:H a=some (.ins C dx fs)):∃ mA,ObjM h a dx C mA/\(∀ f,RelO (fs.lookup f) (mA f))/\PySem.Within mA (fs.map (·.1))/\fs.length<=1000/\H dx=some (.own a):=by
 obtain ⟨d,z,ne,ob,mA,n,r,q⟩:=(show ObjOk P w H h a (.ins C dx fs) from hok a _ e);exact ⟨mA,⟨ob,n,ne⟩,r,q,z,d⟩
end
structure Cls (K:Frag) (C:Addr):Prop where
 pg:Q6 K C Str.empty=true
 hd:PySem.W.hasDictIn K C=true
 po:PySem.W.plainOver K C=true
 sa:PySem.W.findIn K (.ref C) "__setattr__" = some (some (.builtin "object.__setattr__"))
theorem Cls.get {K:Frag} {C:Addr} (c:Cls K C) (f:Str):Q6 K C f=true:=c.pg
section
variable {X:Cx} {pins:List (Addr×Obj)} {σ:St} {H:Hp} {s:hI} {A:Io} {E:h6->hI->Prop} {Q:h6->hI->Prop} {c:h6} {b:Bool}
inductive cC (K:Frag) (H:Hp):V->h6->Prop where
 | non:cC K H .non (.type "NoneType")
 | bl (x:Bool):cC K H (.bl x) (.type "bool")
 | int (i:Int):cC K H (.int i) (.type "int")
 | str (x:Str):cC K H (.str x) (.type "str")
 | flt (x:UInt64):cC K H (.flt x) (.type "float")
 | lst {a:Addr} {xs:List V} (e:H a=some (.lst xs)):cC K H (.ref a) (.type "list")
 | frz {a:Addr} {o:Obj} {xs:List V} (e:H a=some (.frz o (.lst xs))):cC K H (.ref a) (.type "list")
 | tup {a:Addr} {xs:List V} (e:SqT K H a xs):cC K H (.ref a) (.type "tuple")
 | dK {a:Addr} {kvs:List (Key×V)} (e:H a=some (.dK kvs)):cC K H (.ref a) (.type "dict")
 | dT {a:Addr} {kvs:List (List Key×V)} (e:H a=some (.dT kvs)):cC K H (.ref a) (.type "dict")
 | ins {a C dx:Addr} {fs:List (Str×V)} (e:H a=some (.ins C dx fs)) (cl:Cls K C) (ha:PySem.W.findIn K (.ref C) "__class__" = some (some (.builtin "object.__class__")))
    (hn:PySem.W.specialIn K (.builtin "object.__class__") "__get__" = some (some (.builtin "getset_descriptor.__get__"))) (htk:PySem.W.takesIn K (.builtin "object.__class__")=some true)
    (hm:PySem.W.mroIn K C (.type "object")=some true):cC K H (.ref a) (.ref C)
theorem uu {x:V} {u t:h6} (I:Inv X pins σ H s) (rx:RelV x u) (ty:cC X.K H x t) (e:PySem.W.kitOne X.K t c=some b) (h:∀ tk,Q (.bool b) { s with toks:=tk }) :
 Ht (model X.prog X.w) A (call (.builtin "isinstance") [u,c]) Q E s:=by
 cases ty with
 | non=>cases (show u=Ke from rx);exact J3 Py I.kIn Ji e (fun z=>nomatch z) h
 | bl y=>cases (show u=NU y from rx);exact J3 Pz I.kIn Ji e (fun z=>nomatch z) h
 | int i=>obtain ⟨t,q⟩:=(show ∃ t,u=OR i t from rx);cases q;exact J3 Q7 I.kIn Ji e (fun z=>nomatch z) h
 | str y=>obtain ⟨t,q⟩:=(show ∃ t,u=OS y t from rx);cases q;exact J3 Q8 I.kIn Ji e (fun z=>nomatch z) h
 | flt y=>obtain ⟨t,q⟩:=(show ∃ t,u=Qv y t from rx);cases q;exact J3 Pe I.kIn Ji e (fun z=>nomatch z) h
 | @lst a xs ea =>
  cases (show u=Ii a from rx)
  obtain ⟨_,_,n,_,h1⟩:=(show ObjOk X.prog X.w H s.heap a (.lst xs) from I.hok a _ ea);exact J3 Lz I.kIn ⟨_,h1,rfl⟩ e (fun z=>nomatch z) h
 | @frz a ob xs ea =>
  cases (show u=Ii a from rx)
  obtain ⟨_,_,_,n,_,h1⟩:=(show ObjOk X.prog X.w H s.heap a (.frz ob (.lst xs)) from I.hok a _ ea);exact J3 Lz I.kIn ⟨_,h1,rfl⟩ e (fun z=>nomatch z) h
 | @tup a xs ea =>
  cases (show u=Ii a from rx)
  obtain ⟨_,_,p,_⟩:=I.tuple ea;obtain ⟨o,h1,h2,_⟩:=p;exact J3 Pf I.kIn ⟨o,h1,h2⟩ e (fun z=>nomatch z) h
 | @dK a kvs ea =>
  cases (show u=Ii a from rx)
  obtain ⟨_,_,vs,_,p⟩:=(show ObjOk X.prog X.w H s.heap a (.dK kvs) from I.hok a _ ea);obtain ⟨o,es,ep,h1,h2,_⟩:=p;exact J3 LA I.kIn ⟨o,h1,h2.1⟩ e (fun z=>nomatch z) h
 | @dT a kvs ea =>
  cases (show u=Ii a from rx)
  obtain ⟨_,_,xs,_,o,es,ep,h1,h2,_⟩:=(show ObjOk X.prog X.w H s.heap a (.dT kvs) from I.hok a _ ea);exact J3 LA I.kIn ⟨o,h1,h2.1⟩ e (fun z=>nomatch z) h
 | @ins a C dx fs ea cl ha hn htk hm =>
  cases (show u=Ii a from rx)
  obtain ⟨mA,O,_⟩:=Ak I.hok ea;obtain ⟨od,J,_⟩:=O.look;exact J3 (PySem.W.kitx_own (cl.get _) cl.hd ha hn htk hm) I.kIn J e (fun z=>nomatch z) h
end
end
section
structure Room (k:Nat) (A:Io):Prop where
 hd:A.handled=none
 dp:A.depth+3*k+5 < recursionLimit
 un:A.units+16*k+200 < K1
theorem Room.deeper {k:Nat} {A:Io} (r:Room (k+1) A) (env:Env):Room k (A.deeper env) :=
 ⟨r.hd,by have:=r.dp;show A.depth+1+3*k+5 < _;omega,by have:=r.un;show A.units+3+16*k+200 < _;omega⟩
theorem Room.depth {k:Nat} {A:Io} (r:Room k A):A.depth < recursionLimit:=by have:=r.dp;omega
theorem Room.units {k:Nat} {A:Io} (r:Room k A):A.units+64 < K1:=by have:=r.un;omega
noncomputable def Cd:TA:=fun _ H Q=>Q [] H
noncomputable def zB (ta:TE) (tr:TA):TA:=fun σ H Q=>ta σ H fun x H1=>tr σ H1 fun xs H2=>Q (x::xs) H2
section
variable {X:Cx} {e:Expr} {es:List Expr} {te:TE} {t:TA} {pos:Pos}
theorem jy:PA X [] Cd:=fun _ _ _ _ H Q I h=>LB ⟨[],H,I, .nil,h⟩
theorem df (j:PE X e te) (q:PA X es t) (hs:HP (e::es) X.env=(false,eval e X.env)::HP es X.env:=by rfl):PA X (e::es) (zB te t):=by
 intro pos pins s σ H Q I h;rw [hs];show Ht _ _ (spliced ((false,eval e X.env)::Lb pos (HP es X.env))) _ _ s;refine Kz (thn (j pins s σ H _ I h) fun u s1 ⟨x,H1,z,B,F⟩ => ?_);exact thn (q pos pins s1 σ H1 _ z F) fun us s2 ⟨xs,H2,G,J,L⟩=>⟨x::xs,H2,G, .cons B J,L⟩
noncomputable def EK (t:TA):TE:=fun σ H Q=>t σ H fun xs H1=>xs.length<=Hj /\ ∀ p,H1 p=none->Q (.ref p) (upd H1 p (.tup xs))
noncomputable def EL (t:TA):TE:=fun σ H Q=>t σ H fun xs H1=>xs.length<=Hj /\ ∀ p,H1 p=none->Q (.ref p) (upd H1 p (.lst xs))
theorem uw {B} (h:PA X es t):PE X (.Tuple es B pos) (EK t):=by
 intro pins s σ H Q I hq;refine wpAny_Tuple_spliced (thn (h pos pins s σ H _ I hq) fun us s1 ⟨xs,H1,j,r,z,q⟩=>⟨by rw [<- r.length];exact z, ?_⟩)
 have hf:H1 s1.heap.objs.size=none:=j.hok.fresh (Hr _);refine ⟨.ref s1.heap.objs.size,upd H1 s1.heap.objs.size (.tup xs),j.laid (t':=s1.toks) (fun b u e=>h7 _ e) (Hr _) ?_,rfl,q _ hf⟩;exact ⟨z,us,r,⟨_,Hm _ rfl,rfl,_,rfl⟩⟩
theorem Ce (h:PA X es t):PE X (.List es pos) (EL t):=by
 intro pins s σ H Q I hq;refine wpAny_List_spliced (thn (h pos pins s σ H _ I hq) fun us s1 ⟨xs,H1,j,r,z,q⟩=>⟨by rw [<- r.length];exact z, ?_⟩)
 have hf:H1 s1.heap.objs.size=none:=j.hok.fresh (Hr _);refine ⟨.ref s1.heap.objs.size,upd H1 s1.heap.objs.size (.lst xs),j.laid (t':=s1.toks) (fun b u e=>h7 _ e) (Hr _) ?_,rfl,q _ hf⟩;exact ⟨z,us,0,r,Hm _ rfl⟩
end
noncomputable abbrev Sp:=List V->Hp->VK->XK->Prop
noncomputable abbrev CXT:=List Env->Hp->hI->XK->h6->hI->Prop
structure sr (P:HK) (w:Ie) (K:Frag) (mg:Str->Option h6) (base:Heap) (A:Io) (outer:List Env) (s:hI) (H:Hp):Prop where
 frames:A.frames=some outer
 mod:Mod K mg base
 bs:∀ b o,base.get? b=some o->s.heap.get? b=some o/\H b=none
 bsz:base.objs.size<=s.heap.objs.size
 funs:s.heap.FunFrames base outer
 frf:∀ b∈frs outer,H b=none
 hok:HOk P w H s.heap
 bare:Nm s.gens
def CE (outer:List Env) (P:HK) (w:Ie) (H:Hp) (s:hI) (Q:VK) (u:h6) (s':hI):Prop :=
 ∃ v H',s'.os=s.os/\Nm s'.gens/\Un (frs outer) [] H H' s.heap s'.heap/\HOk P w H' s'.heap/\RelV v u/\Q v H'
def CR (CX:CXT) (outer:List Env) (P:HK) (w:Ie) (H:Hp) (s:hI) (Q:VK) (E:XK) (r:Result) (s':hI):Prop :=
 match r with
 | .ok (.ret u)=>CE outer P w H s Q u s'
 | .ok _=>False
 | .error e=>CX outer H s E e s'
structure eE (P:HK) (w:Ie) (K:Frag) (mg:Str->Option h6) (base:Heap) (CX:CXT) (k:Nat) (f:Addr) (fd:KZ) (ps:List Str) (sp:Sp):Prop where
 len:∀ vs H Q E,sp vs H Q E->vs.length=ps.length
 run:∀ (A:Io) (outer:List Env) (s:hI) (H:Hp) (args:Args) (us:List h6) (vs:List V) (Q:VK) (E:XK),Room k A->sr P w K mg base A outer s H->PD s fd args (ps.zip us)->Vals vs us->sp vs H Q E ->
  Ml (model P w) A (.call (.ref f) args) (CR CX outer P w H s Q E) s
section
variable {X:Cx} {pins:List (Addr×Obj)} {σ:St} {H:Hp} {s s':hI}
theorem Inv.env0 (I:Inv X pins σ H s):sr X.prog X.w X.K X.mg X.base X.A X.stack s H :=
 ⟨I.ok.frames,I.ok.mod,I.bs,Iv I.ok.bsz I.sz,I.stack,I.stkFree,I.hok,I.bare⟩
theorem Inv.after {Q:VK} {u:h6} (I:Inv X pins σ H s) (h:CE X.stack X.prog X.w H s Q u s'):EP X pins σ Q u s':=by
 obtain ⟨v,H',os,bare,un,hok,r,q⟩:=h;obtain ⟨j,g,d,t,os'⟩:=s';obtain rfl:os'=s.os:=os;exact ⟨v,H',I.call (h':=j) (g':=g) (d':=d) (t':=t) (ch := []) un hok bare (fun b z=>absurd z (by simp)),r,q⟩
end
noncomputable def zC (sp:Sp) (dvs:List V) (E:XK) (t:TA):TE:=fun σ H Q=>t σ H fun vs H1=>sp (vs++dvs) H1 Q E
def Binds (K:Frag) (fd:KZ) (ps:List Str) (ds:List h6):Prop :=
 ∀ (s:hI) (us:List h6),K.In s.heap->(us++ds).length=ps.length->PD s fd ⟨us,[]⟩ (ps.zip (us++ds))
theorem Binds.all {K:Frag} {fd:KZ} {ps:List Str} (h:∀ us:List h6,us.length=ps.length->bindArgs fd ⟨us,[]⟩=pure (ps.zip us)):Binds K fd ps []:=fun s us _ j=>by
 rw [IH] at j ⊢;exact .of_eq (h us j)
def jz (CX:CXT) (X:Cx) (E:XK):Prop := ∀ (pins:List (Addr×Obj)) (σ:St) (H:Hp) (s:hI) (e:h6) (s':hI),Inv X pins σ H s->CX X.stack H s E e s'->X.xe e s'
section
variable {X:Cx} {CX:CXT} {k:Nat} {f C:Addr} {fd:KZ} {ps:List Str} {sp:Sp} {dvs:List V} {ds:List h6} {E:XK} {x m:Str} {p pos apos:Pos} {e o:Expr} {es:List Expr} {ta:TE} {t:TA}
theorem uz {pins:List (Addr×Obj)} {σ:St} {H:Hp} {s:hI} {Q:VK} {us:List h6} {vs:List V} (F:eE X.prog X.w X.K X.mg X.base CX k f fd ps sp) (z:Room k X.A) (B:Binds X.K fd ps ds) (hd:Vals dvs ds) (hx:jz CX X E)
 (I:Inv X pins σ H s) (r:Vals vs us) (h:sp (vs++dvs) H Q E):Ht (model X.prog X.w) X.A (call (.ref f) us) (EP X pins σ Q) X.xe s:=by
 have q:Vals (vs++dvs) (us++ds):=r.append hd;have G:(us++ds).length=ps.length:=by rw [<- q.length];exact F.len _ _ _ _ h
 refine wpAny_call (LC (F.run X.A X.stack s H ⟨us,[]⟩ (us++ds) (vs++dvs) Q E z I.env0 (B s us I.kIn G) q h) fun r s' j => ?_)
 cases r with
 | error e=>exact hx pins σ H s e s' I j
 | ok fl =>
   cases fl with
   | ret u=>exact I.after j
   | next=>exact False.elim j
   | brk=>exact False.elim j
   | cont=>exact False.elim j
theorem Al (F:eE X.prog X.w X.K X.mg X.base CX k f fd ps sp) (G:Room k X.A) (J:Gl X x) (hm:X.mg x=some (.ref f)) (L:L3 X.K (.ref f)=true) (O:Binds X.K fd ps ds) (hd:Vals dvs ds) (hx:jz CX X E)
 (U:PA X (e::es) t) (j:(x==("__debug__":Str))=false:=by decide) (he:HP (e::es) X.env=(false,eval e X.env)::HP es X.env:=by rfl) (z:(Lb pos (HP es X.env)).any (·.1)=false:=by rfl) :
 PE X (.Call (.Name x p) (e::es) [] pos) (zC sp dvs E t):=by
 intro pins s σ H Q I h;refine JW (kF I J hm ?_ j);refine PySem.W.callWith_K (h₀ := X.base) I.ok.mod.kin L (thn (U pos pins s σ H _ I h) fun us s1 ⟨vs,H1,B,r,q⟩=>⟨B.kIn, ?_⟩) he z;exact uz F G O hd hx B r q
theorem xu (F:eE X.prog X.w X.K X.mg X.base CX k f fd ps sp) (q:Room k X.A) (z:Gl X x) (hm:X.mg x=some (.ref f)) (B:L3 X.K (.ref f)=true) (G:Binds X.K fd ps ds) (hd:Vals dvs ds) (hx:jz CX X E)
 (j:(x==("__debug__":Str))=false:=by decide):PE X (.Call (.Name x p) [] [] pos) (zC sp dvs E Cd):=by
 intro pins s σ H Q I h;refine JW (kF I z hm ?_ j);exact PySem.W.callWith_K0 I.kIn B (uz (us := []) F q G hd hx I .nil h)
end
structure hZ (N P:List Str) (sc:Scope):Prop where
 kind:sc.kind = .function
 co:sc.isCoroutine=false
 gen:sc.isGenerator=false
 nd:N.Nodup
 pre:N.take P.length=P
 par:∀ x∈P,sc.names.lookup x=some .local∨sc.names.lookup x=some .cell
 nofree:∀ y∈sc.names,y.2 ≠ .free
theorem lM {Ja:Str->Option Kr} {x:Str}:∀ {binds:List (Str×h6)} {m:Str->Option h6},(∀ v,(x,v)∉binds)->QU Ja binds m x=m x
 | [],_,_=>rfl
 | (n,v)::r,m,h=>by
  unfold QU;rw [lM fun w hw=>h w (HU _ hw)]
  split
  ·have:x≠n:=by rintro rfl;exact h v Ir
   simp [this]
  ·rfl
theorem lN {Ja:Str->Option Kr} {x:Str}:∀ {binds:List (Str×h6)} {m:Str->Option h6},(∀ v,(x,v)∉binds)->QV Ja binds m x=m x
 | [],_,_=>rfl
 | (n,v)::r,m,h=>by
  unfold QV;rw [lN fun w hw=>h w (HU _ hw)]
  split
  ·rfl
  ·have:x≠n:=by rintro rfl;exact h v Ir
   simp [this]
theorem lP {Ja:Str->Option Kr} {x:Str} {v:h6}:∀ {P:List Str} {vs:List h6} {i:Nat} {m:Str->Option h6},P.Nodup->P[i]? = some x->vs[i]? = some v->Ja x=some .local ->
 QU Ja (P.zip vs) m x=some v
 | [],_,_,_,_,h,_,_=>by simp at h
 | _::_,[],_,_,_,_,h,_=>by simp at h
 | p::P,w::vs,0,m,nd,h1,h2,j=>by
   simp at h1 h2;subst h1;subst h2;show QU Ja ((p,w)::P.zip vs) m p=_;unfold QU;rw [lM fun v q=>(J4.mp nd).1 (Ob q).1,if_pos j];simp
 | p::P,w::vs,i+1,m,nd,h1,h2,j=>by
   show QU Ja ((p,w)::P.zip vs) m x=_;unfold QU;exact lP (i:=i) (J4.mp nd).2 (by simpa using h1) (by simpa using h2) j
theorem lQ {Ja:Str->Option Kr} {x:Str} {v:h6}:∀ {P:List Str} {vs:List h6} {i:Nat} {m:Str->Option h6},P.Nodup->P[i]? = some x->vs[i]? = some v->Ja x≠some .local ->
 QV Ja (P.zip vs) m x=some v
 | [],_,_,_,_,h,_,_=>by simp at h
 | _::_,[],_,_,_,_,h,_=>by simp at h
 | p::P,w::vs,0,m,nd,h1,h2,j=>by
   simp at h1 h2;subst h1;subst h2;show QV Ja ((p,w)::P.zip vs) m p=_;unfold QV;rw [lN fun v q=>(J4.mp nd).1 (Ob q).1,if_neg j];simp
 | p::P,w::vs,i+1,m,nd,h1,h2,j=>by
   show QV Ja ((p,w)::P.zip vs) m x=_;unfold QV;exact lQ (i:=i) (J4.mp nd).2 (by simpa using h1) (by simpa using h2) j
noncomputable def du (N:List Str) (vs:List V):St:=vs.map some++HB (N.length - vs.length) none
noncomputable def iT (CX:CXT) (P:HK) (w:Ie) (K:Frag) (mg:Str->Option h6) (base:Heap) (N:List Str) (qual:Str) (scope:Scope) (f:Addr) (cd:h6) (A:Io) (outer:List Env) (s:hI) (H:Hp) (E:XK):Cx where
 prog:=P
 w:=w
 K:=K
 mg:=mg
 base:=base
 A:=A.deeper (Oq qual scope s.heap.objs.size f cd)
 N:=N
 s₀ := s
 H₀ := H
 env:=Oq qual scope s.heap.objs.size f cd
 outer:=outer
 stack:=Oq qual scope s.heap.objs.size f cd::outer
 ex := []
 calm:=true
 fn:=fun _=>true
 pn := []
 xe:=fun e s'=>Ht (model P w) (A.deeper (Oq qual scope s.heap.objs.size f cd)) (leaving (Oq qual scope s.heap.objs.size f cd) e) (fun _ s''=>CX outer H s E e s'') (fun e' s''=>CX outer H s E e' s'') s'
theorem nF {sc:Scope} {n:Nat} {x:Str} (h:sc.names.lookup x=some .cell):∃ c,(JI n sc.names []).lookup x=some c:=by
 have q:=LD sc.names n [] (.inl h);exact Ki.mp q
theorem uA {CX:CXT} {P:HK} {w:Ie} {K:Frag} {mg:Str->Option h6} {base:Heap} {N ps:List Str} {qual:Str} {scope:Scope} {f:Addr} {cd:h6} {A:Io} {outer:List Env} {s s1:hI} {H:Hp} {E:XK} {us:List h6} {vs:List V}
 (S:hZ N ps scope) (hd:A.handled=none) (e0:sr P w K mg base A outer s H) (O:vs.length=ps.length) (r:Vals vs us)
 (x:InCallC s s.heap.objs.size (QU (Oq qual scope s.heap.objs.size f cd).kindOf (ps.zip us) fun _=>none) (JI (s.heap.objs.size+1) scope.names []) (QV (Oq qual scope s.heap.objs.size f cd).kindOf (ps.zip us) fun _=>none) s1) :
 Inv (iT CX P w K mg base N qual scope f cd A outer s H E) [] (du N vs) H s1:=by
 have J:ps.length<=N.length:=by have:=congrArg Ku S.pre;rw [HD] at this;omega
 obtain ⟨h1,tk,rfl,F⟩:=x.done;have noA:∀ b:Addr,b∉(iT CX P w K mg base N qual scope f cd A outer s H E).ex:=fun b z=>absurd (show b∈([]:List Addr) from z) (by simp)
 refine ⟨⟨e0.mod,S.kind,rfl,rfl,Hr _,fun y z c h1 h2 => ?_,fun y j => ?_,fun y c _ h => ?_,fun _=>hd,Around.frames_deeper e0.frames, .inr ⟨rfl,rfl⟩,fun b z=>absurd z (noA b),e0.bs,e0.bsz,fun b _ _=>noA b,fun b z=>absurd z (noA b),e0.funs,e0.frf⟩,
  rfl,e0.bare,Un.kept F,⟨_,x.toInCall.ns,fun i y v h1 h2 U => ?_⟩,fun y c h=>⟨_,x.cell y c h⟩,e0.hok.fresh (Hr _),fun y c h => ?_,fun p B=>absurd (show p∈([]:List (Addr×Obj)) from B) (by simp),e0.hok.kept F, ?_⟩
 ·exact name_of_addr x.apart (Jb h1) (Jb h2)
 ·have j:scope.names.lookup y=some .cell∨scope.names.lookup y=some .free:=j
  rcases j with j | j
  ·exact nF j
  ·exact absurd rfl (S.nofree _ (Jb j))
 ·exact L6 (x.above y c (Jb h))
 ·have hi:i < vs.length:=by
   unfold du at h2
   by_cases hi:i < vs.length
   ·exact hi
   ·rw [D1 (by simpa using hi)] at h2
    rw [NH] at h2
    split at h2 <;> cases h2
  have L:vs[i]? = some v:=by
   unfold du at h2;rw [Hu (by simpa using hi),HM] at h2
   cases e:vs[i]? with
   | none=>rw [e] at h2;cases h2
   | some a=>rw [e] at h2;cases h2;rfl
  obtain ⟨u,G,rv⟩:=r.get L;have B:ps[i]? = some y:=by
   rw [<- S.pre,Le (by omega)];exact h1
  have ndP:ps.Nodup:=by rw [<- S.pre];exact S.nd.sublist (List.take_sublist _ _)
  refine ⟨u,rv, ?_⟩
  rcases S.par y (HH B) with k | k
  ·exact .inl ⟨k,lP ndP B G k⟩
  ·obtain ⟨c,e⟩:=nF (n:=s.heap.objs.size+1) k;refine .inr ⟨.inl k,c,e, ?_⟩;have q:=x.cell y c e;rw [lQ ndP B G (by show scope.names.lookup y≠_;rw [k];decide)] at q
   exact q
 ·exact e0.hok.fresh (L6 (x.above y c (Jb h)))
 ·unfold du;show _=N.length;rw [D0,q7,List.length_replicate];omega
theorem DT {CX:CXT} {P:HK} {w:Ie} {K:Frag} {mg:Str->Option h6} {base:Heap} {k:Nat} {f:Addr} {name qual:Str} {params:Arguments} {body:List Stmt} {scope:Scope} {dV kV doc pm cdv ct oc:h6} {an od:Option Addr}
 {osl:Array (Option h6)} {N ps:List Str} {sp:Sp} (lk:K.lookup f=some ⟨oc,od, .func (KA name qual params body scope dV kV doc pm an cdv ct),osl⟩) (F:MZ K cdv qual=true) (S:hZ N ps scope)
 (len:∀ vs H Q E,sp vs H Q E->vs.length=ps.length)
 (j:∀ (A:Io) (outer:List Env) (s:hI) (H:Hp) (vs:List V) (Q:VK) (E:XK),Room k (A.deeper (Oq qual scope s.heap.objs.size f cdv))->sp vs H Q E ->
   ∃ t,PSs (iT CX P w K mg base N qual scope f cdv A outer s H E) body t/\t { nx:=fun _ H'=>Q .non H',rt:=Q } (du N vs) H) :
 eE P w K mg base CX (k+1) f (KA name qual params body scope dV kV doc pm an cdv ct) ps sp:=by
 refine ⟨len,fun A outer s H args us vs Q E G e0 L r B => ?_⟩;have O:=len _ _ _ _ B;have KX:K.In s.heap:=e0.mod.kin.keeps fun b o e=>(e0.bs b o e).1;have lim:s.heap.NoLimit:=e0.mod.nolimit.keeps fun b o e=>(e0.bs b o e).1;have z:∀ y∈ps.zip us,scope.names.lookup y.1=some .local∨(scope.names.lookup y.1=some .cell/\((JI (s.heap.objs.size+1) scope.names []).lookup y.1).isSome=true):=fun ⟨n,v⟩ hy=>by
  rcases S.par n (Ob hy).1 with q | q
  ·exact .inl q
  ·exact .inr ⟨q,LD _ _ _ (.inl q)⟩
 refine codeAny_call_function G.depth (KX _ _ lk) rfl S.co S.gen rfl (PySem.W.codeRec_of KX F) (L _ _ _ _ ?_);refine wpAny_newFunctionEnv_cells S.kind z fun env he s1 x => ?_;subst he;refine ⟨lim.keeps x.toInCall.keep,codeAny_func ?_⟩;obtain ⟨t,U,Y⟩:=j A outer s H vs Q E (G.deeper _) B;have I:Inv (iT CX P w K mg base N qual scope f cdv A outer s H E) [] (du N vs) H s1:=uA S G.hd e0 O r x;refine Jy (U [] s1 (du N vs) H _ I Y) (fun fl s' hs => ?_) fun e s' hs=>hs;have fin:∀ {σ':St} {H':Hp} {v:V} {u:h6},Inv (iT CX P w K mg base N qual scope f cdv A outer s H E) [] σ' H' s'->RelV v u->Q v H'->CE outer P w H s Q u s' :=
  fun {σ' H' v u} J rv q=>⟨v,H',J.os,J.bare,J.base,J.hok,rv,q⟩
 cases fl with
 | ret u =>
   obtain ⟨v, σ',H',J,rv,q⟩:=hs;exact fin J rv q
 | next =>
   obtain ⟨σ',H',J,q⟩:=hs;exact fin (v:=V.non) (u:=Ke) J rfl q
 | brk =>
   obtain ⟨_,_,_,q⟩:=hs;exact False.elim q
 | cont =>
   obtain ⟨_,_,_,q⟩:=hs;exact False.elim q
end
section
section
variable {X:Cx} {x:Str} {p pos:Pos} {e:Expr} {es:List Expr} {t:TA} {id T:String} {r:List V->Hp->VK->Prop}
noncomputable def tCB (r:List V->Hp->VK->Prop) (t:TA):TE:=fun σ H Q=>t σ H fun vs H1=>r vs H1 Q
theorem cn (z:CallR X (.builtin id) r) (B:Gl X x) (hm:X.mg x=none) (F:JO x=some (.builtin id)) (G:PA X (e::es) t) (J:x ≠ "__name__" := by decide) (j:(x==("__debug__":Str))=false:=by decide)
 (he:HP (e::es) X.env=(false,eval e X.env)::HP es X.env:=by rfl) (q:(Lb pos (HP es X.env)).any (·.1)=false:=by rfl):PE X (.Call (.Name x p) (e::es) [] pos) (tCB r t):=by
 intro pins s σ H Q I h;refine JW (dz I B hm F ?_ J j);exact PyProof.Rows.callWith_builtin1 (thn (G pos pins s σ H _ I h) fun us s1 ⟨vs,H1,L,O,U⟩=>z pins s1 σ H1 vs us Q L O U) he q
theorem eQ (z:CallR X (.type T) r) (B:Gl X x) (hm:X.mg x=none) (F:JO x=some (.type T)) (G:PA X (e::es) t) (J:x ≠ "__name__" := by decide) (j:(x==("__debug__":Str))=false:=by decide)
 (he:HP (e::es) X.env=(false,eval e X.env)::HP es X.env:=by rfl) (q:(Lb pos (HP es X.env)).any (·.1)=false:=by rfl):PE X (.Call (.Name x p) (e::es) [] pos) (tCB r t):=by
 intro pins s σ H Q I h;refine JW (dz I B hm F ?_ J j);exact J1 (thn (G pos pins s σ H _ I h) fun us s1 ⟨vs,H1,L,O,U⟩=>z pins s1 σ H1 vs us Q L O U) he q
end
end
end L2
namespace HT
open PySem PyProof.Rows
section
variable {prog:HK} {w:Ie} {A:Io} {E:h6->hI->Prop} {s:hI}
theorem cat_tup {t b:Addr} {vs ws:List h6} {Q:h6->hI->Prop} (U:IsTup s.heap t vs.toArray) (Y:IsTup s.heap b ws.toArray) (G:vs≠[])
 (h1:ws=[]->Q (.ref t) s) (h2:ws≠[]->Q (.ref s.heap.objs.size) { s with heap:=s.heap.push { cls := .type "tuple",data := .seq (vs++ws).toArray } })
 (hsz:vs.length+ws.length<=Hj):Ht (model prog w) A (Jg .Add (.ref t) (.ref b)) Q E s:=by
 obtain ⟨⟨cls,dd,data,sl⟩,ho,J,n,hd⟩:=id U;obtain ⟨⟨L,q,data2,z⟩,j,B,O,hd2⟩:=id Y;simp only at J hd B hd2;subst J hd B hd2;have e:vs.toArray++ws.toArray=(vs++ws).toArray:=by simp
 by_cases hw:ws=[]
 ·exact PF ⟨_,ho,rfl⟩ ⟨_,j,rfl⟩ NI OZ LF Lu (Lf _ _)
   (tuple_addW1 t b vs.toArray ws.toArray n O dd q sl z (by simpa using G) (by simp [hw])) ⟨ho,j,h1 hw⟩
 ·refine PF ⟨_,ho,rfl⟩ ⟨_,j,rfl⟩ NI OZ LF Lu (Lf _ _)
   (tuple_addW2 t b vs.toArray ws.toArray n O dd q sl z (by simpa using G) (by simpa using hw) (by rw [Hl,Hl];exact hsz)) ⟨ho,j, ?_⟩
  rw [e];exact h2 hw
noncomputable def sIx (n d:Nat):Option Int->Nat
 | none=>d
 | some v=>if v < 0 then (v+(n:Int)).toNat else min v.toNat n
theorem Cf (n d:Nat) (hd:d<=n) (o:Option Int):sIx n d o<=n:=by
 cases o with
 | none=>exact hd
 | some v =>
   show (if v < 0 then (v+(n:Int)).toNat else min v.toNat n)<=n
   by_cases hv:v < 0
   ·rw [if_pos hv];omega
   ·rw [if_neg hv];exact Nat.min_le_right _ _
theorem qM (v:Int) (n d:Nat):(if v < 0 then max (v+(n:Int)) 0 else min v (n:Int))=((sIx n d (some v):Nat):Int):=by
 show (if v < 0 then max (v+(n:Int)) 0 else min v (n:Int))=(((if v < 0 then (v+(n:Int)).toNat else min v.toNat n):Nat):Int)
 by_cases hv:v < 0
 ·simp only [if_pos hv];omega
 ·simp only [if_neg hv];omega
theorem su (lo hi:Option Int) (n:Nat):La lo hi 1 (n:Int)=(((sIx n 0 lo:Nat):Int),((sIx n n hi:Nat):Int)):=by
 have h1 : ¬ ((1:Int) < 0):=by omega
 unfold La;simp only [h1,if_false];refine Ot ?_ ?_
 ·cases lo with
  | none=>rfl
  | some v=>exact qM v n 0
 ·cases hi with
  | none=>rfl
  | some v=>exact qM v n n
theorem sx (i j:Nat):K2 (i:Int) (j:Int) 1=j - i:=by
 unfold K2;have h1:(1:Int) > 0:=by omega
 simp only [h1,if_true,Int.ediv_one]
 split <;> omega
theorem jA {v:h6} {o:Option Int} {Q:Option Int->hI->Prop} (p:NW v o) (h:Q o s):Ht (model prog w) A (Builtin.Slice.slicePartIndex v) Q E s:=by
 cases p with
 | none=>exact slicePart_none h
 | int i t=>exact slicePart_int h
theorem eF {sl:Addr} {vl vu:h6} {lo hi:Option Int} {n:Nat} {Q:Int×Int×Nat->hI->Prop} (hs:s.heap.IsSliceOf sl vl vu .none) (pl:NW vl lo) (pu:NW vu hi)
 (h:Q (((sIx n 0 lo:Nat):Int),1,sIx n n hi - sIx n 0 lo) s):Ht (model prog w) A (N3 (.ref sl) (pure (n:Int))) Q E s:=by
 obtain ⟨os,j,z,q⟩:=id hs;unfold N3 Builtin.Slice.sliceFields;refine gV (gV (Iz j q (x:=vl) rfl (gV (Iz j q (x:=vu) rfl (gV (Iz j q (x := .none) rfl (r4 ?_)))))));refine gV (slicePart_none ?_);show Ht _ _ (if ((1:Int)==0)=true then _ else _) _ _ s
 rw [if_neg (by decide)]
 refine gV (jA pl (gV (jA pu (gV (r4 ?_)))));show Ht _ _ (match La lo hi 1 (n:Int) with | (lo,hi)=>pure (lo,(1:Int),K2 lo hi 1)) _ _ s
 rw [su lo hi n];show Ht _ _ (pure (((sIx n 0 lo:Nat):Int),(1:Int),K2 ((sIx n 0 lo:Nat):Int) ((sIx n n hi:Nat):Int) 1)) _ _ s;rw [sx];exact r4 h
theorem xw (xs:Array h6) (i k:Nat):((Hz k).filterMap fun (m:Nat)=>xs[((i:Int)+(m:Int)*1).toNat]?).toArray=((xs.toList.drop i).take k).toArray:=by
 have e:(fun (m:Nat)=>xs[((i:Int)+(m:Int)*1).toNat]?)=fun m=>xs[i+m]? := by
  funext m
  have:((i:Int)+(m:Int)*1).toNat=i+m:=by omega
  rw [this]
 rw [e];have:=pick_run xs i k;rw [List.filterMap_map] at this;have e2:((fun x=>xs[x]?) ∘ fun x=>i+x)=fun m=>xs[i+m]? := rfl;rw [e2] at this;rw [this]
theorem getItem_tuple_cut {t sl:Addr} {items:Array h6} {vl vu:h6} {lo hi:Option Int} {Q:h6->hI->Prop} (z:IsTup s.heap t items) (hs:s.heap.IsSliceOf sl vl vu .none) (pl:NW vl lo) (pu:NW vu hi)
 (hw : ¬ (sIx items.size 0 lo=0/\sIx items.size items.size hi=items.size))
 (h:Q (.ref s.heap.objs.size) { s with heap:=s.heap.push { cls := .type "tuple",data := .seq ((items.toList.drop (sIx items.size 0 lo)).take (sIx items.size items.size hi - sIx items.size 0 lo)).toArray } })
 (hsz:items.size<=Hj):Ht (model prog w) A (NX (.ref t) (.ref sl)) Q E s:=by
 have j:sizeOk (.seq ((items.toList.drop (sIx items.size 0 lo)).take (sIx items.size items.size hi - sIx items.size 0 lo)).toArray):=by
  show ((items.toList.drop (sIx items.size 0 lo)).take (sIx items.size items.size hi - sIx items.size 0 lo)).toArray.size<=Hj;rw [Hl,HD,J7,HN];omega
 have O:sIx items.size items.size hi<=items.size:=Cf _ _ (Hr _) hi;obtain ⟨os,B,F,L⟩:=id hs;have G:s.TypeIs (.ref sl) "slice" := ⟨os,B,F⟩;unfold NX
 try with_reducible refine I8 ?_
 first | refine gV (r4 ?_) | skip
 refine gV (PH z.typeIs (by decide) ?_)
 refine gV (Ij (name:=IP "__getitem__") z.typeIs Jx
  (Iq Jx z.typeIs OV ?_ (Pg _ _)))
 show Ht _ _ (N4 (.ref t) >>= _) _ _ s;refine gV (tupleItemsOf_ z ?_);refine gV (Ka G ?_);rw [if_pos (by decide)]
 refine gV (eF hs pl pu ?_);have J : ¬ ((((sIx items.size 0 lo:Nat):Int)==0&&(1:Int)==1&&(sIx items.size items.size hi - sIx items.size 0 lo)==items.size)=true):=by
  intro q;rw [hH,hH] at q;have U:((sIx items.size 0 lo:Nat):Int)=0:=Ks q.1.1;have Y:sIx items.size items.size hi - sIx items.size 0 lo=items.size:=Ks q.2;exact hw ⟨by omega,by omega⟩
 show Ht _ _ (if (((sIx items.size 0 lo:Nat):Int)==0&&(1:Int)==1&&(sIx items.size items.size hi - sIx items.size 0 lo)==items.size)=true then _ else _) _ _ s
 rw [if_neg J,xw]
 first
  | exact gV (m:=Kj _) (Jc (r4 ⟨_,rfl,r4 h⟩) j)
  | exact gV (m:=Kj _) (Jc (gV (r4 (r4 ⟨_,rfl,r4 h⟩))) j)
  | exact gV (gV (m:=Kj _) (Jc (r4 (r4 ⟨_,rfl,r4 h⟩)) j))
  | exact gV (gV (m:=Kj _) (Jc (r4 ⟨_,rfl,r4 h⟩) j))
end
end HT
namespace L2
open PySem PySem.Spec PyProof.Rows
section
noncomputable abbrev TO:=St->Hp->(Option Int->Hp->Prop)->Prop
def PO (X:Cx) (e:Option Expr) (t:TO):Prop :=
 ∀ (pins:List (Addr×Obj)) (s:hI) (σ:St) (H:Hp) (Q:Option Int->Hp->Prop),Inv X pins σ H s->t σ H Q ->
  Ht (model X.prog X.w) X.A (evalPart e X.env) (fun u s' => ∃ o H',Inv X pins σ H' s'/\NW u o/\Q o H') X.xe s
noncomputable def Am:TO:=fun _ H Q=>Q none H
noncomputable def DU (t:TE):TO:=fun σ H Q=>t σ H fun x H1 => ∃ i,x = .int i/\Q (some i) H1
theorem sy {ns:List Int}:∀ {us:List h6},Vals (ns.map V.int) us->PJ us ns:=by
 induction ns with
 | nil=>intro us r;rw [KD] at r;cases r;exact .nil
 | cons n ns ih =>
   intro us r;rw [HE] at r
   cases r with
   | cons j q =>
     obtain ⟨t,e⟩:=j;subst e;exact .cons n t (ih q)
section
variable {X:Cx} {e:Expr} {te:TE} {lo hi:Option Expr} {tl th:TO} {pos p2:Pos}
theorem An:PO X none Am:=by
 intro pins s σ H Q I h;rw [evalPart_none];exact r4 ⟨none,H,I, .none,h⟩
theorem Ao (h:PE X e te):PO X (some e) (DU te):=by
 intro pins s σ H Q I hw;rw [evalPart_some];refine thn (h pins s σ H _ I hw) fun u s1 ⟨x,H1,j,z,B⟩ => ?_;obtain ⟨i,rfl,q⟩:=B;obtain ⟨t,rfl⟩:=z;exact ⟨some i,H1,j, .int i t,q⟩
def SlR (X:Cx) (r:V->Option Int->Option Int->Hp->VK->Prop):Prop :=
 ∀ (pins:List (Addr×Obj)) (s:hI) (σ:St) (H:Hp) (x:V) (v vl vu:h6) (lo hi:Option Int) (sl:Addr) (Q:VK),Inv X pins σ H s->RelV x v->s.heap.IsSliceOf sl vl vu .none->NW vl lo->NW vu hi->r x lo hi H Q ->
  ∃ T id,typeLookup (.type T) "__getitem__" = pure (some (.builtin id))/\s.TypeIs v T/\Ht (model X.prog X.w) X.A (NX v (.ref sl)) (EP X pins σ Q) X.xe s
theorem SlR.or {r r':V->Option Int->Option Int->Hp->VK->Prop} (h:SlR X r) (h':SlR X r'):SlR X (fun x lo hi H Q=>r x lo hi H Q∨r' x lo hi H Q):=by
 intro pins s σ H x v vl vu lo hi sl Q I rx hs pl pu q
 rcases q with q | q
 ·exact h pins s σ H x v vl vu lo hi sl Q I rx hs pl pu q
 ·exact h' pins s σ H x v vl vu lo hi sl Q I rx hs pl pu q
noncomputable def tSl (r:V->Option Int->Option Int->Hp->VK->Prop) (te:TE) (tl th:TO):TE:=fun σ H Q=>te σ H fun x H1=>tl σ H1 fun l H2=>th σ H2 fun u H3=>r x l u H3 Q
theorem xx {r:V->Option Int->Option Int->Hp->VK->Prop} (z:SlR X r) (he:PE X e te) (B:PO X lo tl) (F:PO X hi th):PE X (.Subscript e (.Slice lo hi none p2) pos) (tSl r te tl th):=by
 intro pins s σ H Q I h;refine Subscript_ (thn (he pins s σ H _ I h) fun v s1 ⟨x,H1,G,J,L⟩ => ?_);refine wpAny_Slice (thn (B pins s1 σ H1 _ G L) fun vl s2 ⟨l,H2,O,pl,U⟩=>thn (F pins s2 σ H2 _ O U) fun vu s3 ⟨u,j,Y,pu,Z⟩ => ?_);rw [evalPart_none];refine r4 ?_;have I4:Inv X pins σ j { s3 with heap:=s3.heap.push { cls := .type "slice",data := .fields #[vl,vu, .none] } }:=Y.kept (t':=s3.toks) fun b ob q=>h7 _ q
 obtain ⟨T,id,hT,ht,hg⟩:=z pins { s3 with heap:=s3.heap.push { cls := .type "slice",data := .fields #[vl,vu, .none] } } σ j x v vl vu l u s3.heap.objs.size Q I4 J (Heap.IsSliceOf.new ..) pl pu Z
 show Ht (model X.prog X.w) X.A (subscriptTail e (.Slice lo hi none p2) v (.ref s3.heap.objs.size)) (EP X pins σ Q) X.xe { s3 with heap:=s3.heap.push { cls := .type "slice",data := .fields #[vl,vu, .none] } }
 exact tail_any (ops := [.ref s3.heap.objs.size,v]) ht hT hg (by with_unfolding_all rfl)
noncomputable def gx (xs:List V) (lo hi:Option Int):List V:=(xs.drop (HT.sIx xs.length 0 lo)).take (HT.sIx xs.length xs.length hi - HT.sIx xs.length 0 lo)
theorem iJ (xs:List V) (lo hi:Option Int):(gx xs lo hi).length<=xs.length:=by
 unfold gx;rw [HD,J7];omega
noncomputable def EM (K:Frag):V->Option Int->Option Int->Hp->VK->Prop:=fun x lo hi H Q => ∃ a xs,x = .ref a/\SqT K H a xs /\
 ¬ (HT.sIx xs.length 0 lo=0/\HT.sIx xs.length xs.length hi=xs.length) /\ ∀ p,H p=none->Q (.ref p) (upd H p (.tup (gx xs lo hi)))
theorem sl_tup:SlR X (EM X.K):=by
 intro pins s σ H x v vl vu lo hi sl Q I rx hs pl pu h;obtain ⟨a,xs,rfl,hx,hw,q⟩:=h
 cases rx
 obtain ⟨its,r,j,z⟩:=I.tuple hx;have hlen:its.toArray.size=xs.length:=by rw [Hl];exact r.length.symm
 refine ⟨"tuple",_,PyProof.Rows.slot_tuple_getitem.lookup,j.typeIs, ?_⟩;refine HT.getItem_tuple_cut j hs pl pu (by rw [hlen];exact hw) ?_ (by rw [hlen];exact z)
 rw [hlen];refine ⟨.ref s.heap.objs.size,_,I.laid (t':=s.toks) (o := .tup (gx xs lo hi)) (fun b ob q=>h7 _ q) (Hr _) ?_,rfl,q _ (I.hok.fresh (Hr _))⟩;exact ⟨Iv (iJ xs lo hi) z,_,(r.drop (HT.sIx xs.length 0 lo)).take (HT.sIx xs.length xs.length hi - HT.sIx xs.length 0 lo),MU _ _⟩
noncomputable def zD (K:Frag):R2:=fun x y H Q => ∃ a b xs ys,x = .ref a/\y = .ref b/\SqT K H a xs/\SqT K H b ys/\xs≠[]/\xs.length+ys.length<=Hj /\
 (ys=[]->Q (.ref a) H)/\(ys≠[] -> ∀ p,H p=none->Q (.ref p) (upd H p (.tup (xs++ys))))
theorem Vals.nil_iff {xs:List V} {us:List h6} (r:Vals xs us):us=[]↔xs=[]:=by
 cases r with
 | nil=>simp
 | cons _ _=>simp
theorem op_catT:OpR X (Jg .Add) (zD X.K):=by
 intro pins s σ H x y v u Q I rx ry h;obtain ⟨a,b,xs,ys,rfl,rfl,J,L,hx,F,O,U⟩:=h
 cases rx
 cases ry
 obtain ⟨its,B,Y,_⟩:=I.tuple J;obtain ⟨G,j,p2,_⟩:=I.tuple L;refine HT.cat_tup Y p2 (fun z=>hx (B.nil_iff.mp z)) (fun z=>⟨.ref a,H,I,rfl,O (j.nil_iff.mp z)⟩) (fun z => ?_) (by rw [<- B.length, <- j.length];exact F)
 refine ⟨.ref s.heap.objs.size,_,I.laid (t':=s.toks) (o := .tup (xs++ys)) (fun b ob q=>h7 _ q) (Hr _) ?_,rfl,U (fun w=>z (j.nil_iff.mpr w)) _ (I.hok.fresh (Hr _))⟩;exact ⟨by rw [D0];exact F,_,B.append j,MU _ _⟩
end
end
section
noncomputable def ixN (n:Nat) (i:Int):Option Nat:=if 0<=i then (if i < n then some i.toNat else none) else if -(n:Int)<=i then some (i+n).toNat else none
noncomputable def atI {α:Type} (xs:List α) (i:Int):Option α := (ixN xs.length i).bind fun j=>xs[j]?
theorem kH {n:Nat} {i:Int} {j:Nat} (h:ixN n i=some j):seqIndex? i n=some j/\j < n /\ -(n:Int)<=i/\i < n:=by
 unfold ixN at h
 by_cases h0 : 0<=i
 ·rw [if_pos h0] at h
  by_cases h1:i < n
  ·rw [if_pos h1] at h;have e:i.toNat=j:=Jk.inj h;exact ⟨by rw [Qx h0 h1,e],by omega,by omega,h1⟩
  ·rw [if_neg h1] at h;cases h
 ·rw [if_neg h0] at h
  by_cases h1 : -(n:Int)<=i
  ·rw [if_pos h1] at h;have e:(i+n).toNat=j:=Jk.inj h;exact ⟨by rw [PM (by omega) h1,e],by omega,h1,by omega⟩
  ·rw [if_neg h1] at h;cases h
theorem qN {α:Type} {xs:List α} {i:Int} {v : α} (h:atI xs i=some v):∃ j,seqIndex? i xs.length=some j/\xs[j]? = some v/\j < xs.length /\ -(xs.length:Int)<=i/\i < xs.length:=by
 unfold atI at h
 cases e:ixN xs.length i with
 | none=>rw [e] at h;cases h
 | some j =>
   rw [e] at h;obtain ⟨h1,h2,q,z⟩:=kH e;exact ⟨j,h1,h,h2,q,z⟩
def kI (b:Expr):Prop := ∀ o i,subscripted b false o i=operate [o,i] (NX o i)
def IxR (X:Cx) (r:R2):Prop :=
 ∀ (value slice:Expr) (pins:List (Addr×Obj)) (s:hI) (σ:St) (H:Hp) (x y:V) (v u:h6) (Q:VK),Inv X pins σ H s->RelV x v->RelV y u->r x y H Q ->
  subscripted slice false v u=operate [v,u] (NX v u)->Ht (model X.prog X.w) X.A (subscriptTail value slice v u) (EP X pins σ Q) X.xe s
def MtR (X:Cx) (id:String) (r:V->List V->Hp->VK->Prop):Prop :=
 ∀ (pins:List (Addr×Obj)) (s:hI) (σ:St) (H:Hp) (x:V) (xs:List V) (v:h6) (us:List h6) (Q:VK),Inv X pins σ H s->RelV x v->Vals xs us->r x xs H Q ->
  Ht (model X.prog X.w) X.A (call (.builtin id) (v::us)) (EP X pins σ Q) X.xe s
section
variable {X:Cx} {a b:Expr} {ta tb:TE} {pos:Pos}
theorem IxR.or {r r':R2} (h:IxR X r) (h':IxR X r'):IxR X (fun x y H Q=>r x y H Q∨r' x y H Q):=by
 intro value slice pins s σ H x y v u Q I rx ry q hs
 rcases q with q | q
 ·exact h value slice pins s σ H x y v u Q I rx ry q hs
 ·exact h' value slice pins s σ H x y v u Q I rx ry q hs
theorem DV {r:R2} (j:IxR X r) (z:PE X a ta) (B:PE X b tb) (hs:kI b):PE X (.Subscript a b pos) (tOp r ta tb):=by
 intro pins s σ H Q I h;exact Subscript_ (xk z B I h fun v u s2 x y H2 F rx ry q=>j a b pins s2 σ H2 x y v u Q F rx ry q (hs _ _))
noncomputable def EN (K:Frag):R2:=fun x y H Q => ∃ p xs i v,x = .ref p/\y = .int i/\SqL K H p xs/\atI xs i=some v/\Q v H
noncomputable def EO (K:Frag):R2:=fun x y H Q => ∃ p xs i v,x = .ref p/\y = .int i/\SqT K H p xs/\atI xs i=some v/\Q v H
theorem ix_list:IxR X (EN X.K):=by
 intro value slice pins s σ H x y v u Q I rx ry h hs;obtain ⟨p,xs,i,z,rfl,rfl,F,he,q⟩:=h
 cases rx
 obtain ⟨t,rfl⟩:=ry;obtain ⟨its,r,pl,O⟩:=I.list F;obtain ⟨j,h1,h2,U,G,J⟩:=qN he;obtain ⟨w,ew,rw'⟩:=r.get h2;have L:=r.length;have Y:=gu;have fin:EP X pins σ Q w s:=⟨z,H,I,rw',q⟩
 by_cases h0 : 0<=i
 ·have B:i.toNat=j:=by
   rw [Qx h0 J] at h1;exact Jk.inj h1
  exact item_listR pl.isList h0 (by omega) (by rw [B];simpa using ew) fin hs
 ·have B:(i+(its.toArray.size:Int)).toNat=j:=by
   rw [PM (by omega) G] at h1
   rw [Hl, <- L];exact Jk.inj h1
  exact NY (x:=w) pl.isList.typeIs slot_list_getitem.lookup
   (wpAny_getItem_list_neg (Q:=fun r s'=>r=w/\EP X pins σ Q r s') pl.isList (by omega) (by rw [Hl] <;> omega) (by omega) (by rw [B];simpa using ew) ⟨rfl,fin⟩) hs
theorem ix_tup:IxR X (EO X.K):=by
 intro value slice pins s σ H x y v u Q I rx ry h hs;obtain ⟨p,xs,i,z,rfl,rfl,B,he,q⟩:=h
 cases rx
 obtain ⟨t,rfl⟩:=ry;obtain ⟨its,r,pl,G⟩:=I.tuple B;obtain ⟨j,h1,h2,J,L,O⟩:=qN he;obtain ⟨w,ew,rw'⟩:=r.get h2;have F:=r.length;have U:=gu;have fin:EP X pins σ Q w s:=⟨z,H,I,rw',q⟩;exact NY (x:=w) pl.typeIs slot_tuple_getitem.lookup
  (getItem_tuple (j:=j) (Q:=fun r s'=>r=w/\EP X pins σ Q r s') pl (by omega) (by omega) (by rw [Hl, <- F];exact h1) (by simpa using ew) ⟨rfl,fin⟩) hs
theorem sB (its:List h6) (n j:Nat) (u:h6):KG (·.setIfInBounds j u) { cls := .type "list",data := .seq its.toArray n } = { cls := .type "list",data := .seq (its.set j u).toArray n }:=by
 simp [KG]
theorem Inv.lst {pins:List (Addr×Obj)} {σ:St} {H:Hp} {s:hI} {p:Addr} {xs:List V} (I:Inv X pins σ H s) (h:H p=some (.lst xs)) :
 ∃ (its:List h6) (n:Nat),Vals xs its/\s.heap.get? p=some { cls := .type "list",data := .seq its.toArray n }/\xs.length<=Hj:=by
 obtain ⟨z,its,n,r,e⟩:=I.hok p _ h;exact ⟨its,n,r,e,z⟩
theorem Inv.lstUpd {pins:List (Addr×Obj)} {σ:St} {H:Hp} {s:hI} {p:Addr} {xs ys:List V} {its its':List h6} {n n':Nat} {f:Obj->Obj} (I:Inv X pins σ H s) (h:H p=some (.lst xs))
 (ho:s.heap.get? p=some { cls := .type "list",data := .seq its.toArray n }) (hf:f { cls := .type "list",data := .seq its.toArray n } = { cls := .type "list",data := .seq its'.toArray n' }) (r:Vals ys its') (j:ys.length<=Hj) (t:Nat) :
 Inv X pins σ (upd H p (.lst ys)) { s with heap:=s.heap.update p f,toks:=t }:=by
 have e:(s.heap.update p f).get? p=some { cls := .type "list",data := .seq its'.toArray n' }:=by
  rw [Oh f ho (by rw [hf] <;> rfl),hf]
 refine I.write (x:=p) (e:=p) (by rw [h];trivial) (.inl rfl) (fun b u z q=>(NZ _ _ (Ne.symm z)).trans q) ⟨_,e⟩ ?_
 exact ⟨j,its',n',r,e⟩
noncomputable def zE:V->V->V->Hp->(Hp->Prop)->Prop:=fun o i v H Q => ∃ p xs k j,o = .ref p/\i = .int k/\H p=some (.lst xs)/\ixN xs.length k=some j/\Q (upd H p (.lst (xs.set j v)))
theorem xz:PSet X zE:=by
 intro pins s σ H o i v ov iv u Q I ro ri rv h;obtain ⟨p,xs,k,j,rfl,rfl,F,L,q⟩:=h
 cases ro
 obtain ⟨t,rfl⟩:=ri;obtain ⟨its,n,r,ho,O⟩:=I.lst F;obtain ⟨h1,h2,G,J⟩:=kH L;have z:=r.length;have U:=gu;have I':Inv X pins σ (upd H p (.lst (xs.set j v))) { s with heap:=s.heap.update p (KG (·.setIfInBounds j u)) } :=
  I.lstUpd F ho (sB its n j u) (r.set rv j) (by rw [QI];exact O) s.toks
 by_cases h0 : 0<=k
 ·have B:k.toNat=j:=by
   rw [Qx h0 J] at h1;exact Jk.inj h1
  exact PySem.W.ki_setAt ho h0 (by omega) (by rw [Hl, <- z];exact J) (by rw [B];exact ⟨_,I',q⟩)
 ·have B:(k+(its.toArray.size:Int)).toNat=j:=by
   rw [PM (by omega) G] at h1
   rw [Hl, <- z];exact Jk.inj h1
  exact PySem.W.ki_setBack ho (by omega) (by rw [Hl, <- z];exact G) (by omega) (by rw [B];exact ⟨_,I',q⟩)
theorem nG (lo hi:Option Int) (n:Nat):(Lv lo hi none n).1=((HT.sIx n 0 lo:Nat):Int)/\(Lv lo hi none n).2.1=((HT.sIx n n hi:Nat):Int)/\(Lv lo hi none n).2.2=1:=by
 refine ⟨?_, ?_,rfl⟩
 ·cases lo with
  | none=>simp [Lv,HT.sIx]
  | some i =>
    simp only [Lv,HT.sIx,Q9,show (1:Int) > 0 by decide,if_true]
    by_cases h:i < 0
    ·simp only [h,if_true] <;> omega
    ·simp only [h,if_false] <;> omega
 ·cases hi with
  | none=>simp [Lv,HT.sIx]
  | some i =>
    simp only [Lv,HT.sIx,Q9,show (1:Int) > 0 by decide,if_true]
    by_cases h:i < 0
    ·simp only [h,if_true] <;> omega
    ·simp only [h,if_false] <;> omega
theorem n6 (its:List h6) (lo hi:Option Int):slicePick its.toArray lo hi none=((its.drop (HT.sIx its.length 0 lo)).take (HT.sIx its.length its.length hi - HT.sIx its.length 0 lo)).toArray:=by
 obtain ⟨h1,h2,j⟩:=nG lo hi its.toArray.size;unfold slicePick;rw [h1,h2,j];simp only [sliceRange_one,pick_run,Hl] <;> rfl
noncomputable def EQ (K:Frag):V->Option Int->Option Int->Hp->VK->Prop:=fun x lo hi H Q => ∃ a xs,x = .ref a/\SqL K H a xs /\ ∀ p,H p=none->Q (.ref p) (upd H p (.lst (gx xs lo hi)))
theorem sl_list:SlR X (EQ X.K):=by
 intro pins s σ H x v vl vu lo hi sl Q I rx hs pl pu h;obtain ⟨a,xs,rfl,hx,q⟩:=h
 cases rx
 obtain ⟨its,r,j,z⟩:=I.list hx;have hlen:=r.length;refine ⟨"list",_,slot_list_getitem.lookup,j.isList.typeIs, ?_⟩;refine wpAny_getItem_list_slice j.isList hs pl pu .none (by simp) ?_ (by rw [Hl] <;> omega)
 rw [n6, <- hlen];refine ⟨.ref s.heap.objs.size,_,I.laid (t':=s.toks) (o := .lst (gx xs lo hi)) (fun b ob q=>h7 _ q) (Hr _) ?_,rfl,q _ (I.hok.fresh (Hr _))⟩;exact ⟨Iv (iJ xs lo hi) z,_,0,(r.drop (HT.sIx xs.length 0 lo)).take (HT.sIx xs.length xs.length hi - HT.sIx xs.length 0 lo),Hm _ rfl⟩
noncomputable def dM:V->Bool
 | .non=>true
 | .bl _=>true
 | .int _=>true
 | .str _=>true
 | _=>false
noncomputable def eqV:V->V->Bool
 | .non, .non=>true
 | .bl a, .bl b=>a==b
 | .bl a, .int b=>(if a then 1 else 0)==b
 | .int a, .bl b=>a==(if b then 1 else 0)
 | .int a, .int b=>a==b
 | .str a, .str b=>a==b
 | _,_=>false
theorem Cg {A:Io} {s:hI} {y x:V} {u v:h6} (ry:RelV y u) (rx:RelV x v) (fy:dM y=true) (fx:dM x=true):Ph A s u v (eqV y x):=by
 cases y with
 | non =>
   cases ry
   cases x with
   | non=>cases rx;exact SeqAt.EqAt.same _
   | bl b=>cases rx;exact SeqAt.EqAt.none_bool b
   | int b=>obtain ⟨t,rfl⟩:=rx;exact SeqAt.EqAt.none_int b t
   | str b=>obtain ⟨t,rfl⟩:=rx;exact SeqAt.EqAt.none_str b t
   | _=>exact absurd (show false=true from fx) Hi
 | bl a =>
   cases ry
   cases x with
   | non=>cases rx;exact SeqAt.EqAt.bool_none a
   | bl b=>cases rx;exact SeqAt.EqAt.bool_bool a b
   | int b=>obtain ⟨t,rfl⟩:=rx;exact SeqAt.EqAt.bool_int a b t
   | str b=>obtain ⟨t,rfl⟩:=rx;exact SeqAt.EqAt.bool_str a b t
   | _=>exact absurd (show false=true from fx) Hi
 | int a =>
   obtain ⟨t',rfl⟩:=ry
   cases x with
   | non=>cases rx;exact SeqAt.EqAt.int_none a t'
   | bl b=>cases rx;exact SeqAt.EqAt.int_bool a t' b
   | int b=>obtain ⟨t,rfl⟩:=rx;exact Pj a t' b t
   | str b=>obtain ⟨t,rfl⟩:=rx;exact Pa a t' b t
   | _=>exact absurd (show false=true from fx) Hi
 | str a =>
   obtain ⟨t',rfl⟩:=ry
   cases x with
   | non=>cases rx;exact SeqAt.EqAt.str_none a t'
   | bl b=>cases rx;exact SeqAt.EqAt.str_bool a t' b
   | int b=>obtain ⟨t,rfl⟩:=rx;exact Pb a t' b t
   | str b=>obtain ⟨t,rfl⟩:=rx;exact SeqAt.EqAt.str_str a t' b t
   | _=>exact absurd (show false=true from fx) Hi
 | _=>exact absurd (show false=true from fy) Hi
noncomputable def eqU (x:V) (u:h6):Bool:=match u with
 | .none=>eqV .non x
 | .bool b=>eqV (.bl b) x
 | .int i _=>eqV (.int i) x
 | .str z _=>eqV (.str z) x
 | _=>false
theorem uB {x y:V} {u:h6} (r:RelV y u) (f:dM y=true):eqU x u=eqV y x:=by
 cases y with
 | non=>cases r;rfl
 | bl b=>cases r;rfl
 | int i=>obtain ⟨t,rfl⟩:=r;rfl
 | str z=>obtain ⟨t,rfl⟩:=r;rfl
 | _=>exact absurd (show false=true from f) Hi
theorem kJ {x:V}:∀ {xs:List V} {us:List h6},Vals xs us->xs.all dM=true->us.any (eqU x)=xs.any fun y=>eqV y x
 | _,_, .nil,_=>rfl
 | y::xs,u::us, .cons r t,f=>by
   rw [JB,hH] at f;rw [Jp,Jp,uB r f.1,kJ t f.2]
theorem iU {A:Io} {s:hI} {x:V} {v:h6} (rx:RelV x v) (fx:dM x=true):∀ {xs:List V} {us:List h6},Vals xs us->xs.all dM=true -> ∀ u∈us,Ph A s u v (eqU x u)
 | _,_, .nil,_=>fun u j=>by cases j
 | y::xs,u::us, .cons r t,f=>fun u' j=>by
   rw [JB,hH] at f
   rcases Ho.mp j with rfl | j
   ·rw [uB r f.1];exact Cg r rx f.1 fx
   ·exact iU rx fx t f.2 u' j
noncomputable def inV (x:V) (xs:List V):Bool:=xs.any fun y=>eqV y x
noncomputable def rIn (K:Frag) (neg:Bool):R2:=fun x y H Q => ∃ p xs,y = .ref p/\(SqL K H p xs∨SqT K H p xs)/\dM x=true/\xs.all dM=true/\Q (.bl (if neg then !inV x xs else inV x xs)) H
theorem uC:OpR X (Jm .In) (rIn X.K false):=by
 intro pins s σ H x y v u Q I rx ry h;obtain ⟨p,xs,rfl,j,fx,fs,q⟩:=h
 cases ry
 rcases j with j | j
 ·obtain ⟨its,r,pl,z⟩:=I.list j;refine SeqAt.in_listAt (eqU x) pl.isList (fun w hw=>iU rx fx r fs w (by simpa using hw)) ⟨.bl _,H,I,rfl, ?_⟩
  rw [show its.toArray.any (eqU x)=its.any (eqU x) by simp,kJ r fs]
  exact q
 ·obtain ⟨its,r,pl,z⟩:=I.tuple j;refine SeqAt.in_tupleAt (eqU x) pl (fun w hw=>iU rx fx r fs w (by simpa using hw)) ⟨.bl _,H,I,rfl, ?_⟩
  rw [show its.toArray.any (eqU x)=its.any (eqU x) by simp,kJ r fs]
  exact q
theorem nH:CallR X (.type "list") (fun xs H Q => ∃ p ys,xs=[.ref p]/\(SqL X.K H p ys∨SqT X.K H p ys) /\ ∀ l,H l=none->Q (.ref l) (upd H l (.lst ys))):=by
 intro pins s σ H xs us Q I r h;obtain ⟨p,ys,rfl,j,q⟩:=h;obtain ⟨u,rfl,rx⟩:=dL r
 cases rx
 have fin:∀ (its:List h6),Vals ys its->ys.length<=Hj -> ∀ (h':Heap) (c':Nat),(∀ b o',s.heap.get? b=some o'->h'.get? b=some o') ->
  h'.get? s.heap.objs.size=some { cls := .type "list",dict:=none,data := .seq its.toArray c',slots := #[] }->EP X pins σ Q (.ref s.heap.objs.size) { s with heap:=h' }:=fun its r' z h' c' kp e =>
  ⟨.ref s.heap.objs.size,_,I.laid (t':=s.toks) kp (Hr _) (show ObjOk X.prog X.w _ h' _ (.lst ys) from ⟨z,its,c',r',e⟩),rfl,q _ (I.hok.fresh (Hr _))⟩
 rcases j with j | j
 ·obtain ⟨its,r',pl,z⟩:=I.list j;have hlen:=r'.length;obtain ⟨o,ho,B,n,hd⟩:=pl.isList;exact call_list_seq p (.inl rfl) ho B hd (fun h' c' kp e=>fin its r' z h' c' kp e) (by simp only [Hl] <;> omega)
 ·obtain ⟨its,r',pl,z⟩:=I.tuple j;have hlen:=r'.length;obtain ⟨o,ho,B,n,hd⟩:=pl;exact call_list_seq p (.inr rfl) ho B hd (fun h' c' kp e=>fin its r' z h' c' kp e) (by simp only [Hl] <;> omega)
theorem n8:CallR X (.type "tuple") (fun xs H Q => ∃ p ys,xs=[.ref p]/\((SqL X.K H p ys /\ ∀ l,H l=none->Q (.ref l) (upd H l (.tup ys)))∨(SqT X.K H p ys/\Q (.ref p) H))):=by
 intro pins s σ H xs us Q I r h;obtain ⟨p,ys,rfl,h⟩:=h;obtain ⟨u,rfl,rx⟩:=dL r
 cases rx
 rcases h with ⟨j,q⟩ | ⟨j,q⟩
 ·obtain ⟨its,r',pl,z⟩:=I.list j;have hlen:=r'.length;refine call_tuple_list pl.isList (fun h' kp => ?_) (by simp only [Hl] <;> omega)
  have B:Inv X pins σ H { s with heap:=h' }:=I.kept (t':=s.toks) kp
  have F:Inv X pins σ (upd H h'.objs.size (.tup ys)) { s with heap:=h'.push { cls := .type "tuple",data := .seq its.toArray } } :=
   B.laid (t':=s.toks) (fun b o e=>h7 _ e) (Hr _) (show ObjOk X.prog X.w _ _ _ (.tup ys) from ⟨z,its,r',MU _ _⟩)
  exact ⟨.ref h'.objs.size,_,F,rfl,q _ (B.hok.fresh (Hr _))⟩
 ·obtain ⟨its,r',pl,z⟩:=I.tuple j;exact call_tuple_same pl ⟨.ref p,H,I,rfl,q⟩
def tyV (K:Frag) (T:String) (x:V) (H:Hp):Prop:=match x with
 | .str _=>T = "str"
 | .int _=>T = "int"
 | .ref p=>(T = "list" /\ ∃ xs,SqL K H p xs)∨(T = "tuple" /\ ∃ o,K.lookup p=some o/\o.cls = .type "tuple" /\ o.dict=none) ∨
  (T = "dict" /\ ((∃ kvs,H p=some (.dK kvs)) ∨ ∃ kvs,H p=some (.dT kvs)))∨(T = "set" /\ ∃ S n,H p=some (.set S n))
 | _=>False
theorem uD {pins:List (Addr×Obj)} {σ:St} {H:Hp} {s:hI} {T:String} {x:V} {v:h6} (I:Inv X pins σ H s) (r:RelV x v) (ty:tyV X.K T x H) :
 s.TypeIs v T /\ ∀ a,v = .ref a -> ∃ ob,s.heap.get? a=some ob/\ob.dict=none:=by
 cases x with
 | str z =>
   obtain ⟨t,rfl⟩:=r
   cases (show T = "str" from ty)
   exact ⟨typeIs_str s z t,fun _ e=>nomatch e⟩
 | int i =>
   obtain ⟨t,rfl⟩:=r
   cases (show T = "int" from ty)
   exact ⟨O0 s i t,fun _ e=>nomatch e⟩
 | ref p =>
   cases r
   rcases ty with ⟨rfl,xs,q⟩ | ⟨rfl,o,j,B,hd⟩ | ⟨rfl,j⟩ | ⟨rfl,S,n,j⟩
   ·obtain ⟨its,_,pl,_⟩:=I.list q;refine ⟨pl.isList.typeIs,fun a e => ?_⟩
    cases e
    obtain ⟨o,n,e,c,hd,_⟩:=pl;exact ⟨o,e,hd⟩
   ·refine ⟨⟨o,I.kIn p o j,B⟩,fun a e => ?_⟩
    cases e
    exact ⟨o,I.kIn _ o j,hd⟩
   ·have z:∃ o,s.heap.get? p=some o/\o.ExactDict:=by
     rcases j with ⟨kvs,j⟩ | ⟨kvs,j⟩
     ·obtain ⟨_,_,_,_,o,_,_,e,ex,_⟩:=I.hok p _ j;exact ⟨o,e,ex⟩
     ·obtain ⟨_,_,_,_,o,_,_,e,ex,_⟩:=I.hok p _ j;exact ⟨o,e,ex⟩
    obtain ⟨o,e,ex⟩:=z;refine ⟨⟨o,e,ex.1⟩,fun a e2 => ?_⟩
    cases e2
    exact ⟨o,e,ex.2.1⟩
   ·obtain ⟨o,_,_,_,e,ex,_⟩:=I.hok p _ j;refine ⟨⟨o,e,ex.1⟩,fun a e2 => ?_⟩
    cases e2
    exact ⟨o,e,ex.2.1⟩
 | _=>exact False.elim ty
noncomputable def Ch (K:Frag) (T:String) (r:V->List V->Hp->VK->Prop) (to:TE):TE:=fun σ H Q=>to σ H fun x H1=>tyV K T x H1/\r x [] H1 Q
noncomputable def tBM (K:Frag) (T:String) (r:V->List V->Hp->VK->Prop) (to:TE) (t:TA):TE:=fun σ H Q=>to σ H fun x H1=>tyV K T x H1/\t σ H1 fun xs H2=>r x xs H2 Q
variable {o e:Expr} {es:List Expr} {to:TE} {t:TA} {name:Str} {apos cpos:Pos} {T id:String} {r:V->List V->Hp->VK->Prop}
theorem Ci (pa:PlainAttrs T) (slot:Slot T name id) (z:typeOf (.builtin id)=pure (.type "method_descriptor")) (hm:MtR X id r) (ho:PE X o to)
 (j:Nw o name X.env (eval o X.env)=eval o X.env:=by rfl) (q:(apos.endLine==cpos.line)=true:=by rfl):PE X (.Call (.Attribute o name apos) [] [] cpos) (Ch X.K T r to):=by
 intro pins s σ H Q I h;refine wpAny_Call_method0_late j q (thn (ho pins s σ H _ I h) fun v s1 ⟨x,H1,B,F,ty,G⟩ => ?_);obtain ⟨h1,h2⟩:=uD B F ty;exact ⟨T,id,pa,slot,z,h1,h2,LG rfl (PySem.evalArgs_none (hm pins s1 σ H1 x [] v [] Q B F .nil G))⟩
theorem jB (pa:PlainAttrs T) (slot:Slot T name id) (F:typeOf (.builtin id)=pure (.type "method_descriptor")) (hm:MtR X id r) (ho:PE X o to) (O:PA X (e::es) t)
 (q:Nw o name X.env (eval o X.env)=eval o X.env:=by rfl)
 (B:((Lb cpos (HP (e::es) X.env)).all (fun x => !x.1)&&(QW cpos (Ou [] X.env)).all (fun x=>x.1.isSome)
   && decide ((e::es).length+([]:List MA).length+(if ([]:List MA).isEmpty then 0 else 1) < 30))=true:=by rfl)
 (z:(apos.endLine==cpos.line)=true:=by rfl) (hs:HP (e::es) X.env=(false,eval e X.env)::HP es X.env:=by rfl) (j:(Lb cpos (HP es X.env)).any (·.1)=false:=by rfl) :
 PE X (.Call (.Attribute o name apos) (e::es) [] cpos) (tBM X.K T r to t):=by
 intro pins s σ H Q I h;refine wpAny_Call_method_late q B z rfl (thn (ho pins s σ H _ I h) fun v s1 ⟨x,H1,G,J,ty,U⟩ => ?_);obtain ⟨h1,h2⟩:=uD G J ty;refine ⟨T,id,pa,slot,F,h1,h2, ?_⟩;have L:=O cpos pins s1 σ H1 _ G U;rw [hs] at L ⊢;refine LG (by show (false || (Lb cpos (HP es X.env)).any (·.1))=false;rw [j] <;> rfl) (Ov ?_)
 exact thn L fun us s2 ⟨vs,H2,Y,Z,q2⟩=>hm pins s2 σ H2 x vs v us Q Y J Z q2
end
end
section
def MtM (X:Cx) (id:String) (r:V->List V->Hp->VK->Prop):Prop :=
 ∀ (pins:List (Addr×Obj)) (s:hI) (σ:St) (H:Hp) (x:V) (xs:List V) (v:h6) (us:List h6) (Q:VK),Inv X pins σ H s->RelV x v->Vals xs us->r x xs H Q ->
  Ht (model X.prog X.w) X.A (call (.builtin id) (v::us)) (EP X pins σ Q) X.xe s
theorem Vals.one:∀ {x:V} {us:List h6},Vals [x] us -> ∃ u,us=[u]/\RelV x u
 | _,_, .cons r .nil=>⟨_,rfl,r⟩
theorem Vals.zero:∀ {us:List h6},Vals [] us->us=[]
 | _, .nil=>rfl
theorem Vals.eraseIdx:∀ {xs:List V} {us:List h6} (i:Nat),Vals xs us->Vals (xs.eraseIdx i) (us.eraseIdx i)
 | _,_,_, .nil => .nil
 | _,_,0, .cons _ t=>t
 | _,_,i+1, .cons r t => .cons r (Vals.eraseIdx i t)
theorem Vals.rep {xs:List V} {us:List h6} (h:Vals xs us):∀ k:Nat,Vals (HB k xs).flatten (HB k us).flatten
 | 0 => .nil
 | k+1=>by
   rw [IX,IX,IJ,IJ];exact Vals.append h (Vals.rep h k)
theorem lU {α:Type}:∀ (l:List α) (i:Nat),(l.eraseIdx i).length<=l.length
 | [],_=>Hr _
 | _::_,0=>Nat.le_succ _
 | _::r,i+1=>LU (lU r i)
theorem gy (its:List h6):∀ (k:Nat) (acc:List h6),
 LV (fun j q=>j++q) acc.toArray (HB k its.toArray)=(acc++(HB k its).flatten).toArray
 | 0,acc=>by simp
 | k+1,acc=>by
   have e:acc.toArray++its.toArray=(acc++its).toArray:=by simp
   have e2:(acc++its)++(HB k its).flatten=acc++(HB (k+1) its).flatten:=by
    rw [IX,IJ,Hn]
   rw [<- e2, <- gy its k (acc++its), <- e,IX,Li]
section
variable {X:Cx} {pins:List (Addr×Obj)} {σ:St} {H:Hp} {s:hI} {l b:Addr} {xs ys zs:List V}
theorem Inv.lset {its its':List h6} {n:Nat} {f:Array h6->Array h6} {t':Nat} (I:Inv X pins σ H s) (j:H l=some (.lst xs))
 (e:s.heap.get? l=some { cls := .type "list",data := .seq its.toArray n }) (hf:f its.toArray=its'.toArray) (z:Vals ys its') (B:ys.length<=Hj) :
 Inv X pins σ (upd H l (.lst ys)) { s with heap:=s.heap.update l (KG f),toks:=t' }:=by
 have q:=PySem.IsL.update e f;rw [hf] at q;refine I.write (x:=l) (e:=l) (by rw [j];exact trivial) (.inl rfl) (fun b' u F G=>(NZ s.heap (KG f) (Ne.symm F)).trans G) ⟨_,q⟩ ?_
 exact ⟨B,its',_,z,q⟩
theorem Inv.lnew {its:List h6} {t':Nat} (I:Inv X pins σ H s) (j:Vals ys its) (z:ys.length<=Hj) :
 Inv X pins σ (upd H s.heap.objs.size (.lst ys)) { s with heap:=s.heap.push { cls := .type "list",data := .seq its.toArray },toks:=t' } :=
 I.laid (fun _ _ q=>h7 _ q) (Hr _) ⟨z,its,0,j,Hm _ rfl⟩
theorem Inv.fresh (I:Inv X pins σ H s):H s.heap.objs.size=none:=I.hok.fresh (Hr _)
theorem Inv.lstM (I:Inv X pins σ H s) (j:H l=some (.lst xs)):xs.length<=Hj /\ ∃ (its:List h6) (n:Nat),Vals xs its/\xs.length=its.length/\s.heap.get? l=some { cls := .type "list",data := .seq its.toArray n }:=by
 obtain ⟨z,its,n,r,e⟩:=I.hok l _ j;exact ⟨z,its,n,r,r.length,e⟩
theorem nI {n:Nat} (h:n<=Hj):Kk n=false:=by
 unfold Kk;exact decide_eq_false (by omega)
end
section
variable {X:Cx}
noncomputable def qO:V->List V->Hp->VK->Prop:=fun x vs H Q => ∃ l xs y,x = .ref l/\vs=[y]/\H l=some (.lst xs)/\xs.length < Hj/\Q .non (upd H l (.lst (xs++[y])))
theorem lV:MtM X "list.append" qO:=by
 intro pins s σ H x vs v us Q I rx rv h;obtain ⟨l,xs,y,rfl,rfl,j,B,q⟩:=h
 cases rx
 obtain ⟨u,rfl,ru⟩:=rv.one;obtain ⟨z,its,n,r,G,e⟩:=I.lstM j;refine KH F.slot_list_append ⟨_,e,rfl⟩ F.entry_list_append (F.args_list_append_2 _ _) (PySem.list_append l its.toArray n u (by rw [Hl];omega)) ⟨e, ?_⟩
 refine ⟨.non,_,I.lset (its':=its++[u]) j e (by simp) (r.append (.cons ru .nil)) ?_,rfl,q⟩
 rw [D0,HI];omega
noncomputable def qP:V->List V->Hp->VK->Prop:=fun x vs H Q => ∃ l b xs zs,x = .ref l/\vs=[.ref b]/\H l=some (.lst xs)/\H b=some (.lst zs)/\xs.length+zs.length<=Hj/\Q .non (upd H l (.lst (xs++zs)))
theorem uE:MtM X "list.extend" qP:=by
 intro pins s σ H x vs v us Q I rx rv h;obtain ⟨l,b,xs,zs,rfl,rfl,G,J,Y,q⟩:=h
 cases rx
 obtain ⟨u,rfl,ru⟩:=rv.one
 cases ru
 obtain ⟨z,its,n,r,Z,e⟩:=I.lstM G;obtain ⟨z2,j,L,O,U,e2⟩:=I.lstM J;have hsz:its.toArray.size+j.toArray.size<=Hj:=by rw [Hl,Hl];omega
 have B : ¬ (!its.toArray.isEmpty&&Kk (its.toArray.size+j.toArray.size))=true:=by
  rw [nI hsz,Bool.and_false];exact Hi
 refine KH F.slot_list_extend ⟨_,e,rfl⟩ F.entry_list_extend (F.args_list_extend_2 _ _)
  (AutoSeq1.list_extend_list_list_0 l its.toArray n b j.toArray L B (by rw [Hl];omega) (by omega)) ⟨e,e2, ?_⟩
 refine ⟨.non,_,I.lset (its':=its++j) G e (by simp) (r.append O) ?_,rfl,q⟩
 rw [D0];omega
noncomputable def uF:V->List V->Hp->VK->Prop:=fun x vs H Q => ∃ l xs i k y,x = .ref l/\vs=[.int i]/\H l=some (.lst xs) /\ -(2 ^ 63)<=i/\i < 2 ^ 63/\seqIndex? i xs.length=some k/\xs[k]? = some y/\Q y (upd H l (.lst (xs.eraseIdx k)))
theorem xA:MtM X "list.pop" uF:=by
 intro pins s σ H x vs v us Q I rx rv h;obtain ⟨l,xs,i,k,y,rfl,rfl,j,h1,h2,B,G,q⟩:=h
 cases rx
 obtain ⟨u,rfl,ru⟩:=rv.one;obtain ⟨t,rfl⟩:=ru;obtain ⟨z,its,n,r,J,e⟩:=I.lstM j;obtain ⟨w,hw,rw'⟩:=r.get G;refine KH F.slot_list_pop ⟨_,e,rfl⟩ F.entry_list_pop (F.args_list_pop_2 _ _)
  (MeetsSeq.list_pop_at l its.toArray n i t k w (fitsIndex_both h1 h2) (by rw [Hl, <- J];exact B) (by rw [<- HJ];exact hw) (by rw [Hl];omega)) ⟨e, ?_⟩
 refine ⟨y,_,I.lset (its':=its.eraseIdx k) j e ?_ (r.eraseIdx k) ?_,rw',q⟩
 ·show its.toArray.eraseIdxIfInBounds k=(its.eraseIdx k).toArray;rw [List.eraseIdxIfInBounds_toArray]
 ·have:=lU xs k;omega
noncomputable def uG:V->List V->Hp->VK->Prop:=fun x vs H Q => ∃ l xs,x = .ref l/\vs=[]/\H l=some (.lst xs)/\Q .non (upd H l (.lst []))
theorem xB:MtM X "list.clear" uG:=by
 intro pins s σ H x vs v us Q I rx rv h;obtain ⟨l,xs,rfl,rfl,B,q⟩:=h
 cases rx
 have j:=rv.zero;subst j;obtain ⟨z,its,n,r,G,e⟩:=I.lstM B;refine KH F.slot_list_clear ⟨_,e,rfl⟩ F.entry_list_clear (F.args_list_clear_1 _) (AutoSeq1.list_clear_list_0 l its.toArray n (by rw [Hl];omega)) ⟨e, ?_⟩
 exact ⟨.non,_,I.lset (its' := []) (ys := []) B e rfl .nil (Jn _),rfl,q⟩
noncomputable def ER:R2:=fun x y H Q => ∃ l b xs zs,x = .ref l/\y = .ref b/\H l=some (.lst xs)/\H b=some (.lst zs)/\xs.length+zs.length<=Hj /\ ∀ p,H p=none->Q (.ref p) (upd H p (.lst (xs++zs)))
theorem op_cat:OpR X (Jg .Add) ER:=by
 intro pins s σ H x y v u Q I rx ry h;obtain ⟨l,b,xs,zs,rfl,rfl,B,F,L,q⟩:=h
 cases rx
 cases ry
 obtain ⟨z,its,n,r,O,e⟩:=I.lstM B;obtain ⟨U,j,Y,G,J,e2⟩:=I.lstM F;refine PySem.P.add_list e e2 ?_ (by rw [Hl,Hl];omega)
 have ea:its.toArray++j.toArray=(its++j).toArray:=by simp
 rw [ea];exact ⟨.ref _,_,I.lnew (t':=s.toks) (r.append G) (by rw [D0];omega),rfl,q _ I.fresh⟩
noncomputable def ES:R2:=fun x y H Q => ∃ l k xs,x = .ref l/\y = .int k/\H l=some (.lst xs) /\ -(2 ^ 63)<=k/\k < 2 ^ 63/\xs.length*k.toNat<=Hj /\
 ∀ p,H p=none->Q (.ref p) (upd H p (.lst (HB k.toNat xs).flatten))
theorem qQ {α:Type} (xs:List α) (k:Nat):(HB k xs).flatten.length=k*xs.length:=by
 induction k with
 | zero=>simp
 | succ k ih=>rw [IX,IJ,D0,ih,JC,Nat.add_comm]
theorem op_rep:OpR X (Jg .Mult) ES:=by
 intro pins s σ H x y v u Q I rx ry h;obtain ⟨l,k,xs,rfl,rfl,Z,h1,h2,Y,q⟩:=h
 cases rx
 obtain ⟨t,rfl⟩:=ry;obtain ⟨z,its,n,r,hl,e⟩:=I.lstM Z;have hlen:its.toArray.size*k.toNat<=Hj:=by rw [Hl, <- hl];exact Y
 have B : ¬ its.toArray.size*k.toNat > (2 ^ 63 - 1) / 8:=by
  have:(Hj:Nat)<=(2 ^ 63 - 1) / 8:=by decide
  omega
 have G : ¬ (!Builtin.List.listFitsIndex k)=true:=by
  rw [fitsIndex_both h1 h2];exact Hi
 have j : ¬ Kk (its.toArray.size*k.toNat)=true:=by
  rw [nI hlen];exact Hi
 have J:LV (fun L O=>L++O) #[] (HB (if its.toArray.isEmpty=true then 0 else k.toNat) its.toArray)=(HB k.toNat its).flatten.toArray:=by
  have f0:∀ m:Nat,LV (fun L O=>L++O) #[] (HB m its.toArray)=(HB m its).flatten.toArray:=fun m=>by
   have:=gy its m [];rw [Ms] at this;exact this
  rw [f0]
  cases its with
  | nil=>simp
  | cons a r'=>rw [if_neg (by simp)]
 refine Ni (T := "list") (U := "int") (by decide) ⟨_,e,rfl⟩ (fun s'=>O0 s' k t) noFill_list_mul QJ Mt repeat_list F.slot_int_index.lookup
  (KH Mt (O0 s k t) Qa (PN _ _) (int___rmul___int_list k t l its.toArray n)
    ⟨e,rfl,⟨_,e,rfl⟩,KH F.slot_list_mul ⟨_,e,rfl⟩ F.entry_list_mul (F.args_list_mul_2 _ _) (AutoListH.list___mul___list_int_3 l its.toArray n k t G B j) ⟨e, ?_⟩⟩)
 rw [J];exact ⟨.ref _,_,I.lnew (t':=s.toks) (r.rep k.toNat) (by rw [qQ,MB];exact Y),rfl,q _ I.fresh⟩
end
end
end L2
namespace Att
open PySem PySem.W PySem.Calls PyProof.Rows
theorem jC {P:Params} {h:Heap}:∀ (ns:List Int) (vs:List h6),WellAll P h vs (ns.map WData.int)->PJ vs ns:=by
 intro ns
 induction ns with
 | nil =>
   intro vs w;rw [KD] at w
   cases w
   exact .nil
 | cons n ns ih =>
   intro vs w;rw [HE] at w
   cases w with
   | cons a b =>
     cases a
     exact .cons _ _ (ih _ b)
theorem uH {l:OpenLaw} {n:Nat} (O:l.most=some n) {P:Params} {h:Heap} {args:List WData} {vals:List h6}
 (j:l.row.toRowW.claim.pre args=true) (G:WellAll P h vals args) :
 ∃ a vs ns,vals=[Ii a]/\args=[WData.list (ns.map WData.int)]/\h.get? a=some { cls := .type "list",data := .seq vs.toArray }/\PJ vs ns/\ns.length<=n:=by
 have J:WShape.hasAll [] args [.list .int]=true:=(pre_splitW j).1;have L:l.pre.holds [] { args:=args }=true:=(pre_splitW j).2;obtain ⟨d,r,rfl,h1,h2⟩:=hasAllW_cons J;obtain rfl:=hasAllW_nil h2;obtain ⟨xs,rfl,U⟩:=hasW_list h1;obtain ⟨ns,rfl⟩:=items_int U;have hlen:ns.length<=n:=by
  unfold OpenLaw.pre at L;have B:(WTm.not (.lt (.lit (.int (n:Int))) (.len (.arg 0)))).holds [] { args := [.list (ns.map .int)] }=true:=by
   have B:=(holds_andW L).1;rw [O] at B;exact B
  have F:=condW_of B (w_not (w_lt w_lit (w_len_list (w_arg rfl))));rw [q7] at F;refine Nat.le_of_not_lt fun q => ?_;have q':(n:Int) < ((ns.length:Nat):Int):=by omega
  first
   | (rw [decide_eq_true q'] at F;exact absurd F (by decide))
   | (simp at F;omega)
 cases G with
 | cons Y Z =>
   cases Z
   cases Y with
   | list ho z=>exact ⟨_,_,ns,rfl,rfl,ho,jC ns _ z,hlen⟩
theorem uI (l:OpenLaw) (args:List WData):l.row.toRowW.claim.post args (.bool true) args=true :=
 postW_of (r:=l.row.toRowW) (X:=(true==true))
  (show WShape.has [] (.bool true) .bool=true by first | rfl | decide | simp [WShape.has,WShape.arms,WShape.armsAll])
  (show (WTm.eq .res (.lit (.bool true))).value [] { args:=args,res:=some (.bool true),after:=args }=some (.bool (true==true)) from w_eq_bool (w_res rfl) w_lit) rfl
theorem attach_call {l:OpenLaw} {n:Nat} {q:HK} {loose:List Str} {XP:(Str->Option h6)->Heap->Prop} {YP:Ie->Heap->Prop} {d:DefRec}
 (Z:l.most=some n) (B:d.params.defaults=[])
 (call:∀ (w:Ie) (s₀ s₁:hI) (mg mb:Str->Option h6) (fa:Addr) (o:Obj) (pm cd doc:h6) (a:Addr) (vs:List h6) (ns:List Int),
   Ground q loose [] XP w s₀ mg mb s₁.heap->YP w s₁.heap ->
   s₁.heap.get? fa=some o->o.data = .func (docDef d.name d.params d.body d.scope pm cd doc)->s₁.heap.CodeRec cd d.name->mg d.name=some (.ref fa) ->
   s₁.heap.get? a=some { cls := .type "list",data := .seq vs.toArray }->PJ vs ns->ns.length<=n->s₁.gens = #[] ->
   Ml (model l.prog w) OT (.call (.ref fa) ⟨[.ref a],[]⟩) (fun r s'=>r = .ok (.ret (.bool true))/\OldK s₁.heap s'.heap/\s'.os=s₁.os/\Nm s'.gens) s₁) :
 WalkO q loose XP YP l.row.toRowW d [] (fun f vs=>QX f vs):=by
 intro w s₀ s₁ mg mb G Y fa o pm cd doc dV kV ho hd F O J hg args vals as j U F5 L F6;obtain rfl:dV = .none:=Dflts.none O B;obtain rfl:kV = .none:=Dflts.noKw O;obtain ⟨a,vs,ns,rfl,rfl,z,hints,hlen⟩:=uH Z j L;refine enter_call (LC (call w s₀ s₁ mg mb fa o pm cd doc a vs ns G Y ho (fd_plain hd) F J z hints hlen hg) fun r s' hq => ?_);obtain ⟨rfl,h2,h3,h4⟩:=hq;exact ⟨.inl ⟨.bool true, .bool true,[],rfl,fun _=>rfl, .bool true,uI l _,fun _=>⟨Nq,fun _ hm=>(nomatch hm)⟩⟩,h2,h3,h4⟩
section
variable {prog:HK} {w:Ie} {A:Io} {E:h6->hI->Prop} {s:hI} {K:Frag}
noncomputable def F4 (h:Heap) (L d:Addr):List (Addr×Obj):=(Hz h.objs.size).filterMap fun a=>if a=L∨a=d then none else (h.get? a).map fun o=>(a,o)
end
end Att
namespace L2
open PySem PySem.Spec PyProof.Rows
section
theorem lW:∀ {vs:List h6} {ns:List Int},PJ vs ns->Vals (ns.map V.int) vs
 | _,_, .nil => .nil
 | _,_, .cons n t h => .cons ⟨t,rfl⟩ (lW h)
def sC (H:Hp):Prop := ∀ b,H b=none ∨ ∃ o xs,H b=some (.frz o (.lst xs))
theorem xC {P:HK} {w:Ie} {K:Frag} {mg mb:Str->Option h6} {CX:CXT} {k:Nat} {fa a:Addr} {fd:KZ} {x:Str} {sp:Sp} {s₁:hI} {vs:List h6} {ns:List Int}
 (KX:K.In s₁.heap) (G:s₁.heap.Ns Jl mg) (j:s₁.heap.Ns QR mb) (Y:∀ x:Str,x ≠ "__name__" -> mb x=JO x) (J:s₁.heap.NoLimit) (hg:s₁.gens = #[])
 (U:s₁.heap.get? a=some { cls := .type "list",data := .seq vs.toArray }) (hi:PJ vs ns) (hl:ns.length<=Hj) (hr:Room k OT)
 (F:∀ base:Heap,K.In base->base.Ns Jl mg->eE P w K mg base CX k fa fd [x] sp) (B:∀ (s:hI) (u:h6),PD s fd ⟨[u],[]⟩ [(x,u)])
 (Z:∀ H:Hp,sC H->SqL K H a (ns.map V.int)->sp [.ref a] H (fun v _=>v = .bl true) fun _ _ _=>False)
 (F5:∀ H e s',CX [] H s₁ (fun _ _ _=>False) e s'->False) :
 Ml (model P w) OT (.call (.ref fa) ⟨[.ref a],[]⟩) (fun r s'=>r = .ok (.ret (.bool true))/\OldK s₁.heap s'.heap/\s'.os=s₁.os/\Nm s'.gens) s₁ := by
 have rv:=lW hi;have lenV:=hi.length;have core:∀ H:Hp,sC H->SqL K H a (ns.map V.int)->HOk P w H s₁.heap->(∀ b,H b≠none->b=a)->(H a≠none->K.lookup a=none) ->
  Ml (model P w) OT (.call (.ref fa) ⟨[.ref a],[]⟩) (fun r s'=>r = .ok (.ret (.bool true))/\OldK s₁.heap s'.heap/\s'.os=s₁.os/\Nm s'.gens) s₁ := by
  intro H hO hS hok hA hK;have base_of:∀ {b:Addr} {o:Obj},s₁.heap.get? b=some o->H b=none->(fK s₁.heap H).get? b=some o:=fun e n=>wZ e n;have noA:∀ {b:Addr} {o:Obj} {es:Array JS} {ep:Nat},s₁.heap.get? b=some o->o.data = .dict es ep->H b=none:=fun {b o es ep} e d=>by
   cases q:H b with
   | none=>rfl
   | some u =>
     have e':b=a:=hA b (by rw [q];simp)
     subst e';rw [U] at e;cases e;have d':Mp vs.toArray _=Data.dict es ep:=d
     cases d'
  have nsK:∀ {b:Addr} {m:Str->Option h6},s₁.heap.Ns b m->(fK s₁.heap H).Ns b m:=fun {b m} ⟨o,es,ep,e,d,r⟩=>⟨o,es,ep,base_of e (noA e d),d,r⟩;have L:K.In (fK s₁.heap H):=fun b o e=>base_of (KX b o e) (by
   cases q:H b with
   | none=>rfl
   | some u =>
     have e':b=a:=hA b (by rw [q];simp)
     subst e';rw [hK (by rw [q];simp)] at e;cases e)
  have hM:Mod K mg (fK s₁.heap H):=⟨L,nsK G,⟨mb,nsK j,Y⟩,let ⟨mc,h1,h2⟩:=J; ⟨mc,nsK h1,h2⟩⟩;have e0:sr P w K mg (fK s₁.heap H) OT [] s₁ H:=⟨rfl,hM,fun b o e=>Aa e,Nat.le_of_eq (uf _ _),trivial,fun b j=>absurd (show b∈([]:List Addr) from j) (by simp),hok, .of_eq hg⟩
  refine LC ((F _ L (nsK G)).run OT [] s₁ H ⟨[.ref a],[]⟩ [.ref a] [.ref a] _ _ hr e0 (B s₁ (.ref a)) (.cons rfl .nil) (Z H hO hS)) fun r s' h => ?_
  cases r with
  | error e=>exact (F5 H e s' h).elim
  | ok fl =>
    cases fl with
    | next=>exact False.elim h
    | brk=>exact False.elim h
    | cont=>exact False.elim h
    | ret u =>
      obtain ⟨v,H',os,bare,un,O,r',q⟩:=h;have q':v = .bl true:=q;subst q';obtain rfl:u=NU true:=r';refine ⟨rfl,OldK.of_keep fun b o e => ?_,os,bare⟩
      cases q:H b with
      | none=>exact un.keep b o e q (by intro z;exact absurd (show b∈([]:List Addr) from z) (by simp)) (by simp)
      | some u =>
        rcases hO b with z | ⟨ob,xs,z⟩
        ·rw [q] at z;cases z
        ·have z2:=un.frzs b ob _ z;obtain ⟨e1,_⟩:=hok b _ z;obtain ⟨e2,_⟩:=O b _ z2;rw [e] at e1;cases e1;exact e2
 cases hk:K.lookup a with
 | some o =>
   have e:=KX a o hk;rw [U] at e
   cases e
   refine core (fun _=>none) (fun _ => .inl rfl) (.inr ⟨_,vs.toArray,_,hk,rfl,rfl,rfl,by rw [Hl,lenV];exact hl,by simpa using rv⟩) (fun b u z=>by have z':(none:Option HO)=some u:=z;cases z') (fun b z=>absurd rfl z) fun z=>absurd rfl z
 | none =>
   refine core (fun b=>if b=a then some (.frz { cls := .type "list",data := .seq vs.toArray } (.lst (ns.map V.int))) else none) (fun b => ?_) (.inl (.inr ⟨{ cls := .type "list",data := .seq vs.toArray },if_pos rfl⟩)) (fun b u z => ?_) (fun b z => ?_) fun _=>hk
   ·by_cases j:b=a
    ·exact .inr ⟨_,_,if_pos j⟩
    ·exact .inl (if_neg j)
   ·by_cases j:b=a
    ·have z':=(if_pos j).symm.trans z
     cases z'
     subst j;exact ⟨U,by rw [q7];exact hl,vs,_,rv,U⟩
    ·have z':=(if_neg j).symm.trans z
     cases z'
   ·by_cases j:b=a
    ·exact j
    ·exact absurd (if_neg j) z
end
section
theorem walk_of {l:Oc} {n k:Nat} {q:HK} {loose:List Str} {XP:(Str->Option h6)->Heap->Prop} {YP:Ie->Heap->Prop} {d:DefRec} {K:Params->Frag} {CX:Ie->CXT} {sp:Ie->Sp} {x:Str}
 (U:l.most=some n) (z:n<=Hj) (B:d.params.defaults=[]) (Z:Room k OT)
 (hY:∀ (w:Ie) (h:Heap),YP w h->(K w.params).In h)
 (F:∀ (w:Ie) (mg:Str->Option h6) (fa:Addr) (h:Heap),(K w.params).In h->h.Ns Jl mg->mg d.name=some (.ref fa) ->
   ∃ fd:KZ,(∀ (s:hI) (u:h6),PD s fd ⟨[u],[]⟩ [(x,u)]) /\
    ∀ base:Heap,(K w.params).In base->base.Ns Jl mg->eE l.prog w (K w.params) mg base (CX w) k fa fd [x] (sp w))
 (J:∀ (w:Ie) (H:Hp) (a:Addr) (ns:List Int),ns.length<=n->sC H->SqL (K w.params) H a (ns.map V.int)->sp w [.ref a] H (fun v _=>v = .bl true) fun _ _ _=>False)
 (L:∀ (w:Ie) (H:Hp) (s:hI) (e:h6) (s':hI),CX w [] H s (fun _ _ _=>False) e s'->False) :
 PySem.W.WalkO q loose XP YP l.row.toRowW d [] (fun f vs=>QX f vs):=by
 refine Att.attach_call U B fun w s₀ s₁ mg mb fa o pm cd doc a vs ns G Y ho hd F5 O j hints hlen hg => ?_;have KX:=hY w _ Y;obtain ⟨fd,hb,hF⟩:=F w mg fa _ KX G.T.g O;exact xC KX G.T.g G.T.b G.T.builtins G.T.nolimit hg j hints (Iv hlen z) Z hF hb (fun H hO hS=>J w H a ns hlen hO hS) fun H e s'=>L w H s₁ e s'
end
section
noncomputable def dX (s:Stmt):Arguments:=match s with
 | .FunctionDef _ a _ _ _ _ _ _ _ _=>a
 | _ => { posonlyargs := [],args := [],vararg:=none,kwonlyargs := [],kw_defaults := [],kwarg:=none,defaults := [] }
noncomputable def cy (s:Stmt):List Stmt:=match s with
 | .FunctionDef _ _ b _ _ _ _ _ _ _=>b
 | _ => []
noncomputable def aB (s:Stmt):Scope:=match s with
 | .FunctionDef _ _ _ _ _ _ sc _ _ _=>sc
 | _ => { kind := .function,names := [],isGenerator:=false,isCoroutine:=false }
noncomputable abbrev CX0:CXT:=fun _ _ _ _ _ _=>False
noncomputable abbrev E0:XK:=fun _ _ _=>False
theorem zF {X:Cx}:jz CX0 X E0:=fun _ _ _ _ _ _ _ h=>h.elim
structure Fun (K:Frag) (x qual:Str) (st:Stmt) (f:Addr) (fd:KZ):Prop where
 ex:∃ (oc:h6) (od:Option Addr) (kV doc pm:h6) (an:Option Addr) (cdv ct:h6) (osl:Array (Option h6)),
  fd=KA x qual (dX st) (cy st) (aB st) .none kV doc pm an cdv ct/\K.lookup f=some ⟨oc,od, .func fd,osl⟩/\MZ K cdv qual=true
 kp:L3 K (.ref f)=true
section
variable {P:HK} {w:Ie} {K:Frag} {mg:Str->Option h6} {base:Heap}
theorem Fun.ok {x qual:Str} {st:Stmt} {f:Addr} {fd:KZ} {N ps:List Str} {k:Nat} {sp:Sp} (F:Fun K x qual st f fd) (S:hZ N ps (aB st)) (len:∀ vs H Q E,sp vs H Q E->vs.length=ps.length)
 (j:∀ (cdv:h6) (A:Io) (outer:List Env) (s:hI) (H:Hp) (vs:List V) (Q:VK) (E:XK),Room k (A.deeper (Oq qual (aB st) s.heap.objs.size f cdv))->sp vs H Q E ->
   ∃ t,PSs (iT CX0 P w K mg base N qual (aB st) f cdv A outer s H E).nox (cy st) t/\t { nx:=fun _ H'=>Q .non H',rt:=Q } (du N vs) H):eE P w K mg base CX0 (k+1) f fd ps sp:=by
 obtain ⟨oc,od,kV,doc,pm,an,cdv,ct,osl,rfl,lk,z⟩:=F.ex;refine DT lk z S len fun A outer s H vs Q E G B => ?_;obtain ⟨t,h,q⟩:=j cdv A outer s H vs Q E G B;exact ⟨t,h.nox,q⟩
theorem Fun.binds {x qual:Str} {st:Stmt} {f:Addr} {fd:KZ} {ps:List Str} (F:Fun K x qual st f fd)
 (h:∀ (kV doc pm:h6) (an:Option Addr) (cdv ct:h6) (us:List h6),us.length=ps.length->bindArgs (KA x qual (dX st) (cy st) (aB st) .none kV doc pm an cdv ct) ⟨us,[]⟩=pure (ps.zip us)):Binds K fd ps []:=by
 obtain ⟨oc,od,kV,doc,pm,an,cdv,ct,osl,rfl,lk,j⟩:=F.ex;exact .all (h kV doc pm an cdv ct)
theorem ah {x qual:Str} {st:Stmt} {f:Addr} {oc:h6} {od an:Option Addr} {osl:Array (Option h6)} {kV doc pm cdv ct:h6} (l:K.lookup f=some ⟨oc,od, .func (KA x qual (dX st) (cy st) (aB st) .none kV doc pm an cdv ct),osl⟩)
 (c:MZ K cdv qual=true) (k:L3 K (.ref f)=true):Fun K x qual st f (KA x qual (dX st) (cy st) (aB st) .none kV doc pm an cdv ct):=⟨⟨oc,od,kV,doc,pm,an,cdv,ct,osl,rfl,l,c⟩,k⟩
end
end
end L2
namespace HT
open PySem PySem.Spec PyProof.Rows
section
variable {prog:HK} {w:Ie} {A:Io} {E:h6->hI->Prop} {s:hI}
theorem getItem_tuple_whole {t sl:Addr} {items:Array h6} {vl vu:h6} {lo hi:Option Int} {Q:h6->hI->Prop} (j:IsTup s.heap t items) (hs:s.heap.IsSliceOf sl vl vu .none) (pl:NW vl lo) (pu:NW vu hi)
 (hw:sIx items.size 0 lo=0/\sIx items.size items.size hi=items.size) (h:Q (.ref t) s):Ht (model prog w) A (NX (.ref t) (.ref sl)) Q E s:=by
 obtain ⟨os,q,z,G⟩:=id hs;have B:s.TypeIs (.ref sl) "slice" := ⟨os,q,z⟩;unfold NX
 try with_reducible refine I8 ?_
 first | refine gV (r4 ?_) | skip
 refine gV (PH j.typeIs (by decide) ?_)
 refine gV (Ij (name:=IP "__getitem__") j.typeIs Jx
  (Iq Jx j.typeIs OV ?_ (Pg _ _)))
 show Ht _ _ (N4 (.ref t) >>= _) _ _ s;refine gV (tupleItemsOf_ j ?_);refine gV (Ka B ?_);rw [if_pos (by decide)]
 refine gV (eF hs pl pu ?_);have F:(((sIx items.size 0 lo:Nat):Int)==0&&(1:Int)==1&&(sIx items.size items.size hi - sIx items.size 0 lo)==items.size)=true:=by
  rw [hw.1,hw.2];simp
 show Ht _ _ (if (((sIx items.size 0 lo:Nat):Int)==0&&(1:Int)==1&&(sIx items.size items.size hi - sIx items.size 0 lo)==items.size)=true then _ else _) _ _ s
 rw [if_pos F];refine gV (m:=N5 (.ref t)) ?_;unfold N5;refine gV (Ka j.typeIs (r4 ?_));show Ht _ _ (if true=true then _ else _) _ _ s
 rw [if_pos rfl];exact gV (Jq (r4 ⟨_,rfl,r4 h⟩))
end
end HT
namespace L2
open PySem PySem.Spec PyProof.Rows
section
section
variable {X:Cx}
noncomputable def ET (K:Frag):V->Option Int->Option Int->Hp->VK->Prop:=fun x lo hi H Q => ∃ a xs,x = .ref a/\SqT K H a xs/\(HT.sIx xs.length 0 lo=0/\HT.sIx xs.length xs.length hi=xs.length)/\Q x H
theorem xD:SlR X (ET X.K):=by
 intro pins s σ H x v vl vu lo hi sl Q I rx hs pl pu h;obtain ⟨a,xs,rfl,hx,hw,q⟩:=h
 cases rx
 obtain ⟨its,r,j,z⟩:=I.tuple hx;have hlen:=r.length;refine ⟨"tuple",_,slot_tuple_getitem.lookup,j.typeIs, ?_⟩;refine HT.getItem_tuple_whole j hs pl pu (by rw [Hl, <- hlen];exact hw) ⟨.ref a,H,I,rfl,q⟩
end
end
section
section
variable {κ:Type} [DecidableEq κ]
noncomputable def cq (kvs:List (κ × V)) (k : κ):Option V:=(kvs.find? fun kv=>decide (kv.1=k)).map (·.2)
noncomputable def bF (kvs:List (κ × V)) (k : κ) (v:V):List (κ × V) :=
 if (kvs.any fun kv=>decide (kv.1=k))=true then kvs.map (fun kv=>if kv.1=k then (kv.1,v) else kv) else kvs++[(k,v)]
theorem fL {p : κ × V} {r:List (κ × V)} {k : κ} (e:p.1=k):cq (p::r) k=some p.2:=by simp [cq,Jv,e]
theorem fM {p : κ × V} {r:List (κ × V)} {k : κ} (e : ¬ p.1=k):cq (p::r) k=cq r k:=by simp [cq,Jv,e]
theorem nJ (k : κ):∀ kvs:List (κ × V),(kvs.any fun kv=>decide (kv.1=k))=(cq kvs k).isSome
 | [] => rfl
 | p::r=>by
   rw [Jp]
   by_cases e:p.1=k
   ·simp only [fL e,decide_eq_true e,Bool.true_or,Pk]
   ·rw [fM e,decide_eq_false e,Lg];exact nJ k r
theorem dv (kvs:List (κ × V)) (k : κ) (v:V):(bF kvs k v).length<=kvs.length+1:=by
 unfold bF
 split
 ·rw [q7];omega
 ·rw [D0,Ic,Jw];omega
theorem RelO.isSome_eq {o:Option V} {u:Option h6} (r:RelO o u):o.isSome=u.isSome:=by
 cases o with
 | none=>cases u with
   | none=>rfl
   | some _=>exact (show False from r).elim
 | some _=>cases u with
   | none=>exact (show False from r).elim
   | some _=>rfl
theorem RelO.getD {o:Option V} {u:Option h6} {d:V} {d':h6} (r:RelO o u) (rd:RelV d d'):RelV (o.getD d) (u.getD d'):=by
 cases o with
 | none=>cases u with
   | none=>exact rd
   | some _=>exact (show False from r).elim
 | some _=>cases u with
   | none=>exact (show False from r).elim
   | some _=>exact r
theorem KV.val {kvs:List (κ × V)} {vs:List (κ × h6)} (r:KV kvs vs) (k : κ):RelO (cq kvs k) (OU vs k):=by
 unfold KV at r
 induction r with
 | nil=>exact Ji
 | @cons p q ps qs h t ih =>
  obtain ⟨h1,h2⟩:=h
  by_cases e:p.1=k
  ·have e':q.1=k:=h1.symm.trans e;have b:OU (q::qs) k=some q.2:=by simp [OU,Jv,e']
   rw [fL e,b];exact h2
  ·have e' : ¬ q.1=k:=fun z=>e (h1.trans z);have b:OU (q::qs) k=OU qs k:=by simp [OU,Jv,e']
   rw [fM e,b];exact ih
theorem KV.any {kvs:List (κ × V)} {vs:List (κ × h6)} (r:KV kvs vs) (k : κ):(kvs.any fun kv=>decide (kv.1=k))=vs.any fun kv=>decide (kv.1=k):=by
 unfold KV at r
 induction r with
 | nil=>rfl
 | cons h t ih=>rw [Jp,Jp,ih,h.1]
theorem KV.repl {kvs:List (κ × V)} {vs:List (κ × h6)} (r:KV kvs vs) (k : κ) {y:V} {u:h6} (ry:RelV y u) :
 KV (kvs.map fun kv=>if kv.1=k then (kv.1,y) else kv) (vs.map fun kv=>if kv.1=k then (kv.1,u) else kv):=by
 unfold KV at r ⊢
 induction r with
 | nil=>exact .nil
 | @cons p q ps qs h t ih =>
  rw [HE,HE];refine .cons ?_ ih;obtain ⟨h1,h2⟩:=h
  by_cases e:p.1=k
  ·rw [if_pos e,if_pos (h1.symm.trans e)];exact ⟨h1,ry⟩
  ·rw [if_neg e,if_neg (fun z=>e (h1.trans z))];exact ⟨h1,h2⟩
theorem KV.put {kvs:List (κ × V)} {vs:List (κ × h6)} (r:KV kvs vs) (k : κ) {y:V} {u:h6} (ry:RelV y u):KV (bF kvs k y) (stored vs k u):=by
 unfold bF stored;rw [r.any k]
 by_cases e:(vs.any fun kv=>decide (kv.1=k))=true
 ·rw [if_pos e,if_pos e];exact r.repl k ry
 ·rw [if_neg e,if_neg e];exact Paired.snoc r ⟨rfl,ry⟩
theorem KV.length {kvs:List (κ × V)} {vs:List (κ × h6)} (r:KV kvs vs):kvs.length=vs.length:=Kf r
end
theorem ni {P:HK} {w:Ie} {k:Key} {u:h6} (r:RelV (kV k) u):(aN P w).is k u=true:=by
 cases k with
 | inl i=>obtain ⟨t,e⟩:=(show ∃ t,u=OR i t from r);subst e;exact qr P w i t
 | inr x=>obtain ⟨t,e⟩:=(show ∃ t,u=OS x t from r);subst e;exact qt P w x t
theorem lZ {P:HK} {w:Ie}:∀ {ks:List Key} {us:List h6},Vals (ks.map kV) us->ItemsAre (aN P w) ks us
 | [],_,r=>by rw [KD] at r;cases r;exact .nil
 | k::ks,_,r=>by
   rw [HE] at r
   cases r with
   | cons h t=>exact .cons (ni h) (lZ t)
noncomputable abbrev KT (H:Hp):List (List Key×V)->List (List Key×Addr×h6)->Prop:=Ig fun p q=>p.1=q.1/\H q.2.1=some (.tup (p.1.map kV))/\RelV p.2 q.2.2
theorem KT.val {H:Hp} {kvs:List (List Key×V)} {xs:List (List Key×Addr×h6)} (r:KT H kvs xs) (k:List Key):RelO (cq kvs k) ((Ow xs k).map (·.2)):=by
 induction r with
 | nil=>exact Ji
 | @cons p q ps qs h t ih =>
  obtain ⟨h1,_,h2⟩:=h
  by_cases e:p.1=k
  ·have e':q.1=k:=h1.symm.trans e;have b:Ow (q::qs) k=some q.2:=by simp [Ow,Jv,e']
   rw [fL e,b];exact h2
  ·have e' : ¬ q.1=k:=fun z=>e (h1.trans z);have b:Ow (q::qs) k=Ow qs k:=by simp [Ow,Jv,e']
   rw [fM e,b];exact ih
theorem KT.repl {H:Hp} {kvs:List (List Key×V)} {xs:List (List Key×Addr×h6)} (r:KT H kvs xs) (k:List Key) {y:V} {u:h6} (ry:RelV y u) :
 KT H (kvs.map fun kv=>if kv.1=k then (kv.1,y) else kv) (xs.map (putAt k u)):=by
 induction r with
 | nil=>exact .nil
 | @cons p q ps qs h t ih =>
  rw [HE,HE];refine .cons ?_ ih;obtain ⟨h1,h2,j⟩:=h;unfold putAt
  by_cases e:p.1=k
  ·rw [if_pos e,if_pos (h1.symm.trans e)];exact ⟨h1,h2,ry⟩
  ·rw [if_neg e,if_neg (fun z=>e (h1.trans z))];exact ⟨h1,h2,j⟩
theorem KT.put {H:Hp} {kvs:List (List Key×V)} {xs:List (List Key×Addr×h6)} (r:KT H kvs xs) (k:List Key) {b:Addr} {y:V} {u:h6} (j:H b=some (.tup (k.map kV))) (ry:RelV y u) :
 KT H (bF kvs k y) (storedH xs k b u):=by
 have e:(kvs.any fun kv=>decide (kv.1=k))=(Ow xs k).isSome:=by
  rw [nJ,(r.val k).isSome_eq,Option.isSome_map]
 unfold bF storedH;rw [e]
 by_cases q:(Ow xs k).isSome=true
 ·rw [if_pos q,if_pos q];exact r.repl k ry
 ·rw [if_neg q,if_neg q];exact Paired.snoc r ⟨rfl,j,ry⟩
theorem KT.keeps {H H':Hp} {kvs:List (List Key×V)} {xs:List (List Key×Addr×h6)} (r:KT H kvs xs) (j:∀ b ys,H b=some (.tup ys)->H' b=some (.tup ys)):KT H' kvs xs :=
 Rl r fun _ _ z=>⟨z.1,j _ _ z.2.1,z.2.2⟩
section
variable {P:HK} {w:Ie} {H:Hp} {h:Heap} {a:Addr}
theorem zG {u:HO} (ok:HOk P w H h) (e:Rd H a u):ObjOk P w H h a u:=e.ok ok
theorem nj {kvs:List (Key×V)} (ok:HOk P w H h) (e:Rd H a (.dK kvs)):kvs.length<=Hj/\(a==IQ)=false /\ ∃ vs,KV kvs vs/\h.DictOf (aN P w) a vs :=
 show ObjOk P w H h a (.dK kvs) from zG ok e
theorem DW {kvs:List (Key×V)} (ok:HOk P w H h) (e:H a=some (.dK kvs)):kvs.length<=Hj/\(a==IQ)=false /\ ∃ vs,KV kvs vs/\h.DictOf (aN P w) a vs:=nj ok (.inl e)
theorem gA {ks:List Key} (ok:HOk P w H h) (e:H a=some (.tup (ks.map kV))):(Lq (aN P w)).is h ks a:=by
 obtain ⟨_,its,r,o,h1,h2,n,j⟩:=(show ObjOk P w H h a (.tup (ks.map kV)) from ok a _ e);exact ⟨o,its.toArray,n,h1,h2,j,by simpa using lZ r⟩
theorem i3 {kvs:List (List Key×V)} (ok:HOk P w H h) (e:Rd H a (.dT kvs)):kvs.length<=Hj/\(a==IQ)=false /\
 ∃ xs,KT H kvs xs/\h.DictOfH (Lq (aN P w)) a xs:=by
 obtain ⟨z,y,xs,r,o,es,ep,h1,h2,j,B,F⟩:=(show ObjOk P w H h a (.dT kvs) from zG ok e);refine ⟨z,y,xs,r,o,es,ep,h1,h2,j,B,fun x hx => ?_,F⟩;have all:∀ {l:List (List Key×V)} {m:List (List Key×Addr×h6)},KT H l m -> ∀ x∈m,(Lq (aN P w)).is h x.1 x.2.1:=by
  intro l m q
  induction q with
  | nil=>intro x hx;exact nomatch hx
  | @cons p q ps qs hq t ih =>
   intro x hx
   rcases Ho.mp hx with e | hx
   ·subst e;exact gA ok (by rw [<- hq.1];exact hq.2.1)
   ·exact ih x hx
 exact all r x hx
theorem zH {kvs:List (List Key×V)} (ok:HOk P w H h) (e:H a=some (.dT kvs)):kvs.length<=Hj/\(a==IQ)=false /\
 ∃ xs,KT H kvs xs/\h.DictOfH (Lq (aN P w)) a xs:=i3 ok (.inl e)
end
def DGet (H:Hp) (a:Addr) (y:V) (r:Option V):Prop :=
 (∃ kvs k,Rd H a (.dK kvs)/\y=kV k/\r=cq kvs k) ∨ ∃ kvs k b,Rd H a (.dT kvs)/\y = .ref b/\H b=some (.tup (k.map kV))/\r=cq kvs k
def DPut (H:Hp) (a:Addr) (y v:V) (H':Hp):Prop :=
 (∃ kvs k,H a=some (.dK kvs)/\y=kV k/\kvs.length < Hj/\H'=upd H a (.dK (bF kvs k v))) ∨
 ∃ kvs k b,H a=some (.dT kvs)/\y = .ref b/\H b=some (.tup (k.map kV))/\kvs.length < Hj/\H'=upd H a (.dT (bF kvs k v))
theorem DGet.k {H:Hp} {a:Addr} {kvs:List (Key×V)} {k:Key} (e:H a=some (.dK kvs)):DGet H a (kV k) (cq kvs k) := .inl ⟨kvs,k, .inl e,rfl,rfl⟩
theorem DPut.k {H:Hp} {a:Addr} {kvs:List (Key×V)} {k:Key} {v:V} (e:H a=some (.dK kvs)) (j:kvs.length < Hj):DPut H a (kV k) v (upd H a (.dK (bF kvs k v))) := .inl ⟨kvs,k,e,rfl,j,rfl⟩
theorem DPut.t {H:Hp} {a b:Addr} {kvs:List (List Key×V)} {k:List Key} {v:V} (e:H a=some (.dT kvs)) (eb:H b=some (.tup (k.map kV))) (j:kvs.length < Hj) :
 DPut H a (.ref b) v (upd H a (.dT (bF kvs k v))) := .inr ⟨kvs,k,b,e,rfl,eb,j,rfl⟩
section
variable {X:Cx} {pins:List (Addr×Obj)} {σ:St} {H:Hp} {s:hI} {a:Addr} {y v:V} {u r:h6} {o:Option V} {A:Io} {E:h6->hI->Prop}
theorem Inv.big (I:Inv X pins σ H s):IQ < s.heap.objs.size:=by
 have h:Jl < s.heap.objs.size:=(I.mod.glob.keeps I.bk).lt;exact Nat.lt_trans (by decide) h
theorem uJ {Q:h6->hI->Prop} (q:A.units+1 < K1) (I:Inv X pins σ H s) (g:DGet H a y (some v)) (ry:RelV y u) (h:∀ w' s',Inv X pins σ H s'->RelV v w'->Q w' s') :
 Ht (model X.prog X.w) A (NX (.ref a) u) Q E s:=by
 rcases g with ⟨kvs,k,e,ey,l⟩ | ⟨kvs,k,b,e,ey,eb,l⟩
 ·subst ey;obtain ⟨z,hd,vs,rel,dd⟩:=nj I.hok e;obtain ⟨w',hw,rw'⟩:=Ry (v:=v) (o:=OU vs k) (by rw [l];exact rel.val k)
  exact wpAny_getItem_of (ni ry) dd.mapOf hw (h w' _ (I.tok _) rw')
 ·subst ey
  cases (show u=Ii b from ry)
  obtain ⟨z,hd,xs,rel,dd⟩:=i3 I.hok e;obtain ⟨w',hw,rw'⟩:=Ry (v:=v) (o:=(Ow xs k).map (·.2)) (by rw [l];exact rel.val k)
  obtain ⟨p,B,j⟩:=KI.mp hw;refine wpAny_getItem_heap (KJ q) (gA I.hok eb) dd B ?_;rw [j];exact h w' _ (I.tok _) rw'
theorem kK {h':Heap} {t':Nat} {ob:HO} (I:Inv X pins σ H s) (mu:Mut (H a)) (hs:J6 a s.heap h') (he:∃ q,h'.get? a=some q) (new:ObjOk X.prog X.w (upd H a ob) h' a ob) :
 Inv X pins σ (upd H a ob) { s with heap:=h',toks:=t' } :=
 I.write (x:=a) (e:=a) mu (.inl rfl) (fun b q j z=>(hs.2 b j).trans z) he new
theorem Cj {P:HK} {w:Ie} {H':Hp} {h':Heap} {kvs:List (Key×V)} {vs:List (Key×h6)} (z:kvs.length<=Hj) (hd:(a==IQ)=false) (rel:KV kvs vs) (dd:h'.DictOf (aN P w) a vs) :
 ObjOk P w H' h' a (.dK kvs):=⟨z,hd,vs,rel,dd⟩
theorem uK {H':Hp} {Q:Unit->hI->Prop} (G:A.units+1 < K1) (I:Inv X pins σ H s) (g:DPut H a y v H') (ry:RelV y u) (rv:RelV v r) (h:∀ s',Inv X pins σ H' s'->Q () s') :
 Ht (model X.prog X.w) A (setItem (.ref a) u r) Q E s:=by
 rcases g with ⟨kvs,k,e,ey,l,eH⟩ | ⟨kvs,k,b,e,ey,eb,l,eH⟩
 ·subst ey eH;obtain ⟨z,hd,vs,rel,dd⟩:=DW I.hok e;have B:vs.length<=Hj:=by rw [<- rel.length];exact z
  have F:(bF kvs k v).length<=Hj:=by have:=dv kvs k v;omega
  refine wpAny_setItem_pairs (hsz:=B) (ni ry) dd fun h' dd' hs=>h _ ?_;have he:∃ q,h'.get? a=some q:=let ⟨q,_,_,j,_⟩:=dd'; ⟨q,j⟩;exact kK I (by rw [e];exact Ji) hs he (Cj F hd (rel.put k rv) dd')
 ·subst ey eH
  cases (show u=Ii b from ry)
  obtain ⟨z,hd,xs,rel,dd⟩:=zH I.hok e;have B:xs.length<=Hj:=by rw [<- Kf rel];exact z
  have F:(bF kvs k v).length<=Hj:=by have:=dv kvs k v;omega
  refine wpAny_setItem_heap (hsz:=B) (KJ G) (gA I.hok eb) dd fun h' dd' hs=>h _ ?_;obtain ⟨q,es,ep,j,h2,J,L,_,O⟩:=dd';refine kK I (by rw [e];exact Ji) hs ⟨q,j⟩ ⟨F,hd,_,(rel.put k eb rv).keeps fun c ys ec => ?_,q,es,ep,j,h2,J,L,O⟩
  rw [am (zx ec e (fun z=>nomatch z))];exact ec
end
theorem xE {P:HK} {w:Ie} {H:Hp} (h:Heap) (j:IQ < h.objs.size):ObjOk P w H (h.push { cls := .type "dict",data := .dict #[] }) h.objs.size (.dK []) :=
 ⟨Jn _,beq_eq_false_iff_ne.mpr (Ne.symm (HV j)),[], .nil,Heap.DictOf.new h⟩
theorem nK {P:HK} {w:Ie} {H:Hp} (h:Heap) (j:IQ < h.objs.size):ObjOk P w H (h.push { cls := .type "dict",data := .dict #[] }) h.objs.size (.dT []) :=
 ⟨Jn _,beq_eq_false_iff_ne.mpr (Ne.symm (HV j)),[], .nil,_, #[],0,Hm _ rfl,⟨rfl,rfl,rfl⟩,rfl,rfl,List.nodup_nil⟩
noncomputable def Ck:TE:=fun _ H Q => ∀ p,H p=none->Q (.ref p) (upd H p (.dK []))
noncomputable def Cl:TE:=fun _ H Q => ∀ p,H p=none->Q (.ref p) (upd H p (.dT []))
section
variable {X:Cx} {pos:Pos}
theorem xF:PE X (.Dict [] [] pos) Ck:=fun pins s σ H Q I h =>
 Qb ⟨.ref s.heap.objs.size,_,I.laid (a:=s.heap.objs.size) (o := .dK []) (t':=s.toks) (fun _ _ q=>h7 _ q) (Hr _) (xE s.heap I.big),rfl,h _ (I.hok.fresh (Hr _))⟩
theorem xG:PE X (.Dict [] [] pos) Cl:=fun pins s σ H Q I h =>
 Qb ⟨.ref s.heap.objs.size,_,I.laid (a:=s.heap.objs.size) (o := .dT []) (t':=s.toks) (fun _ _ q=>h7 _ q) (Hr _) (nK s.heap I.big),rfl,h _ (I.hok.fresh (Hr _))⟩
end
structure M2 (X:Cx) (o:Expr) (m:Str) (apos:Pos) (e f:Expr) (cpos:Pos):Prop where
 base:Nw o m X.env (eval o X.env)=eval o X.env
 few:((Lb cpos (HP [e,f] X.env)).all (fun x => !x.1)&&(QW cpos (Ou [] X.env)).all (fun x=>x.1.isSome)
  && decide (([e,f]:List Expr).length+([]:List MA).length+(if ([]:List MA).isEmpty then 0 else 1) < 30))=true
 line:(apos.endLine==cpos.line)=true
 trees:Lb cpos (HP [e,f] X.env)=[(false,eval e X.env),(false,eval f X.env)]
def IsD (H:Hp) (a:Addr):Prop:=(∃ kvs,Rd H a (.dK kvs)) ∨ ∃ kvs,Rd H a (.dT kvs)
theorem jD {X:Cx} {pins:List (Addr×Obj)} {σ:St} {H:Hp} {s:hI} {a:Addr} (I:Inv X pins σ H s) (d:IsD H a) :
 s.TypeIs (.ref a) "dict" /\ (∀ b,Ii a = .ref b -> ∃ ob,s.heap.get? b=some ob/\ob.dict=none)/\(a==IQ)=false:=by
 rcases d with ⟨kvs,e⟩ | ⟨kvs,e⟩
 ·obtain ⟨_,hd,vs,_,dd⟩:=nj I.hok e;refine ⟨dd.typeIs,fun b q => ?_,hd⟩
  cases q
  obtain ⟨ob,_,_,h1,h2,_⟩:=dd;exact ⟨ob,h1,h2.2.1⟩
 ·obtain ⟨_,hd,xs,_,dd⟩:=i3 I.hok e;refine ⟨dd.typeIs,fun b q => ?_,hd⟩
  cases q
  obtain ⟨ob,_,_,h1,h2,_⟩:=dd;exact ⟨ob,h1,h2.2.1⟩
section
variable {X:Cx} {pins:List (Addr×Obj)} {σ:St} {H:Hp} {s:hI} {a:Addr} {y d:V} {u r:h6} {o:Option V} {A:Io} {E:h6->hI->Prop}
theorem Cn {Q:h6->hI->Prop} (j:A.units+1 < K1) (I:Inv X pins σ H s) (g:DGet H a y o) (ry:RelV y u) (rd:RelV d r) (h:∀ w' s',Inv X pins σ H s'->RelV (o.getD d) w'->Q w' s') :
 Ht (model X.prog X.w) A (call (.builtin "dict.get") [.ref a,u,r]) Q E s:=by
 rcases g with ⟨kvs,k,e,ey,l⟩ | ⟨kvs,k,b,e,ey,eb,l⟩
 ·subst ey;obtain ⟨z,hd,vs,rel,dd⟩:=nj I.hok e;refine PQ LS dd.typeIs O1 (NJ _ _ _) (meets_dict_get_default (aN X.prog X.w) a (ni ry) hd r) ⟨_,dd.mapOf,h _ _ (I.tok _) ?_⟩;rw [l];exact (rel.val k).getD rd
 ·subst ey
  cases (show u=Ii b from ry)
  obtain ⟨z,hd,xs,rel,dd⟩:=i3 I.hok e;refine PQ LS dd.typeIs O1 (NJ _ _ _) (meetsH_dict_get_default (Lq (aN X.prog X.w)) a b hd r) ⟨KJ j,k,xs,gA I.hok eb,dd,h _ _ (I.tok _) ?_⟩;rw [l];exact (rel.val k).getD rd
end
noncomputable def Co (td ty tx:TE):TE:=fun σ H Q=>td σ H fun x H1 => ∃ a,x = .ref a/\IsD H1 a/\ty σ H1 fun y H2=>tx σ H2 fun z H3 => ∃ o,DGet H3 a y o/\Q (o.getD z) H3
section
variable {X:Cx} {o e f:Expr} {apos cpos:Pos} {td ty tx:TE}
theorem xH (q:X.A.units+1 < K1) (ho:PE X o td) (he:PE X e ty) (hf:PE X f tx) (m:M2 X o "get" apos e f cpos):PE X (.Call (.Attribute o "get" apos) [e,f] [] cpos) (Co td ty tx):=by
 intro pins s σ H Q I h;refine wpAny_Call_method m.base m.few m.line PySem.F.plainAttrs_dict LS PySem.F.type_dict_get (thn (ho pins s σ H _ I h) fun u s1 ⟨x,H1,j,rx,a,ex,d,B⟩ => ?_);subst ex;obtain rfl:u=Ii a:=rx;obtain ⟨t1,G,_⟩:=jD j d;refine ⟨t1,G, ?_⟩;rw [m.trees];refine LG rfl (Ov (Kz (thn (he pins s1 σ H1 _ j B) fun iv s2 ⟨y,H2,J,ry,L⟩ =>
  Kz (thn (hf pins s2 σ H2 _ J L) fun fv s3 ⟨z,O,U,rz,ov,g,Y⟩=>LB ?_))))
 exact Cn q U g ry rz fun w' s4 Z rw'=>⟨_,O,Z,rw',Y⟩
end
end
section
noncomputable def br (elt:Expr) (gens:List ID) (scope:Scope) (pos:Pos) (d:Nat) (acc:h6) (env:Env) (k:Sem Fin):Sem Fin :=
 match gens[d+1]? with
 | some g'=>eval g'.iter env >>= fun x=>Np g'.iter.pos >>= fun _=>JH g'.iter env x >>= fun x=>holding [x] (Pc x) >>= fun it' =>
    runOwn (.compStart (.ListComp elt gens scope pos) (d+1) it' acc env) env >>= fun _=>k
 | none=>(eval elt env >>= fun x=>call (.builtin "list.append") [acc,x] >>= fun _=>pure ()) >>= fun _=>k
noncomputable def bH (ifs:List Expr) (env:Env):Sem Bool :=
 forIn ifs true fun c r=>if r=true then do let ok <- isTrue c env (eval c env);pure (KO ok) else pure (KO r)
theorem nL (elt target iter:Expr) (ifs:List Expr) (gens:List ID) (scope:Scope) (pos:Pos) (d:Nat) (it acc:h6) (env:Env)
 (hd:gens[d]? = some ⟨target,iter,ifs,0⟩) (j:∀ g',gens[d+1]? = some g'->g'.is_async=0) :
 compTurn (.ListComp elt gens scope pos) d it acc env=(Np iter.pos >>= fun _=>Lx it >>= fun r=>match r with
  | none=>pure (.done .next)
  | some v=>Mr target it v >>= fun _=>assign target env v >>= fun _=>bH ifs env >>= fun ok =>
    (if ok=true then br elt gens scope pos d acc env (again (.compLoop (.ListComp elt gens scope pos) d it acc env)) else again (.compLoop (.ListComp elt gens scope pos) d it acc env))):=by
 unfold compTurn;simp only [hd];unfold br bH
 cases hn:gens[d+1]? with
 | none=>rfl
 | some g' =>
   obtain ⟨t',i',f',a'⟩:=g';have e:a'=0:=j _ hn;subst e;rfl
noncomputable abbrev TC:=St->Hp->(St->Hp->Prop)->Prop
def cR (J:It) (g:TG) (tb:TC) (N:St->Hp->Prop) (σ:St) (H:Hp):Prop :=
 ∃ W:Nat->Nat->St->Hp->Prop,(∃ m,W 0 m σ H) /\ ∀ i m σ H,W i m σ H ->
  (J.stop i H/\N σ H)∨(J.go i H /\ ∃ N':St->Hp->Prop,(∀ σ' H',N' σ' H' -> ∃ m',m' < m/\W (i+1) m' σ' H') /\ ∀ x H',J.yld i H x H'->g x σ H' fun σ2 H2=>tb σ2 H2 N')
def PB (X:Cx) (F:Sem Fin->Sem Fin) (t:TC):Prop :=
 ∀ (pins:List (Addr×Obj)) (s:hI) (σ:St) (H:Hp) (N:St->Hp->Prop) (k:Sem Fin) (Q:Fin->hI->Prop) (E:h6->hI->Prop),Inv X pins σ H s->t σ H N ->
  (∀ s' σ' H',Inv X pins σ' H' s'->N σ' H'->Ht (model X.prog X.w) X.A k Q E s')->Ht (model X.prog X.w) X.A (F k) Q E s
section
variable {X:Cx}
theorem nox {α:Type} {m:Sem α} {Q : α -> hI->Prop} {E:h6->hI->Prop} {s:hI} (hx:∀ e s,X.xe e s->False) (h:Ht (model X.prog X.w) X.A m Q X.xe s):Ht (model X.prog X.w) X.A m Q E s :=
 Jy h (fun _ _ q=>q) fun e s' q=>(hx e s' q).elim
noncomputable def jE (ts:List TT) (tb:TC):TC:=match ts with
 | [] => tb
 | t::r=>fun σ H N=>t σ H fun b H1=>if b=true then jE r tb σ H1 N else N σ H1
theorem jF {env:Env} {M:Mn} {A:Io} {Q:Bool->hI->Prop} {E:h6->hI->Prop} {s:hI} (h:Q false s):∀ ifs:List Expr,
 Ht M A (forIn ifs false fun c r=>if r=true then do let ok <- isTrue c env (eval c env);pure (KO ok) else pure (KO r)) Q E s
 | [] => r4 h
 | c::r=>by
   rw [KP];simp only [IT,if_false];exact gV (r4 (jF h r))
theorem nM (hx:∀ e s,X.xe e s->False) {tb:TC} {N:St->Hp->Prop}:∀ {ifs:List Expr} {ts:List TT},Ig (fun c t=>PT X c t) ifs ts ->
 ∀ (pins:List (Addr×Obj)) (s:hI) (σ:St) (H:Hp) (E:h6->hI->Prop),Inv X pins σ H s->jE ts tb σ H N ->
 Ht (model X.prog X.w) X.A (bH ifs X.env) (fun ok s' => ∃ H',Inv X pins σ H' s'/\if ok=true then tb σ H' N else N σ H') E s
 | _,_, .nil=>fun pins s σ H E I h=>r4 ⟨H,I,by rw [if_pos rfl];exact h⟩
 | c::ifs,_, .cons (b:=t) z hr=>by
   intro pins s σ H E I h;have ih:=nM hx hr (tb:=tb) (N:=N) pins;unfold bH at ih ⊢;rw [KP];simp only [if_true];refine gV (gV (nox hx (thn (z pins s σ H _ I h) fun b s1 ⟨H1,q,j⟩=>r4 ?_)))
   cases b with
   | false =>
     rw [if_neg Hi] at j;exact jF ⟨H1,q,by rw [if_neg Hi];exact j⟩ ifs
   | true =>
     rw [if_pos rfl] at j;exact ih s1 σ H1 E q j
theorem xI (hx:∀ e s,X.xe e s->False) {F:Sem Fin->Sem Fin} {tb:TC} (z:PB X F tb) {ifs:List Expr} {ts:List TT} (B:Ig (fun c t=>PT X c t) ifs ts) :
 PB X (fun k=>bH ifs X.env >>= fun ok=>if ok=true then F k else k) (jE ts tb):=by
 intro pins s σ H N k Q E I h hk;refine gV (thn (nM hx B pins s σ H E I h) fun ok s1 ⟨H1,q,j⟩ => ?_)
 cases ok with
 | false =>
   rw [if_neg Hi] at j ⊢;exact hk s1 σ H1 q j
 | true =>
   rw [if_pos rfl] at j ⊢;exact z pins s1 σ H1 N k Q E q j hk
noncomputable def zI (p:Addr) (te:TE):TC:=fun σ H N=>te σ H fun x H1 => ∃ xs,H1 p=some (.lst xs)/\xs.length < Hj/\N σ (upd H1 p (.lst (xs++[x])))
theorem kL (hx:∀ e s,X.xe e s->False) {elt:Expr} {gens:List ID} {scope:Scope} {pos:Pos} {d:Nat} {p:Addr} {te:TE} (he:PE X elt te) (hd:gens[d+1]? = none) :
 PB X (br elt gens scope pos d (.ref p) X.env) (zI p te):=by
 intro pins s σ H N k Q E I h j;unfold br;rw [hd];refine gV (gV (nox hx (thn (he pins s σ H _ I h) fun u s1 ⟨x,H1,q,z,xs,e1,l1,B⟩ => ?_)));refine gV (nox hx (thn (lV (X:=X) pins s1 σ H1 (.ref p) [x] (.ref p) [u] (fun _ H2=>N σ H2) q rfl (.cons z .nil) ⟨p,xs,x,rfl,rfl,e1,l1,B⟩) fun v s2 ⟨_,H2,F,_,G⟩ => ?_));exact r4 (j s2 σ H2 F G)
theorem m8 (hx:∀ e s,X.xe e s->False) (Y:X.calm=true) {elt target iter:Expr} {ifs:List Expr} {gens:List ID} {scope:Scope} {pos:Pos} {d:Nat} {acc:h6}
 (hd:gens[d]? = some ⟨target,iter,ifs,0⟩) (ha:∀ g',gens[d+1]? = some g'->g'.is_async=0) {g:TG} (hg:PG X target g) {tb:TC}
 (j:PB X (fun k=>bH ifs X.env >>= fun ok=>if ok=true then br elt gens scope pos d acc X.env k else k) tb)
 {pins:List (Addr×Obj)} {s:hI} {σ:St} {H:Hp} {N:St->Hp->Prop} {it:Addr} {fp:List Addr} {tn:Nat->Heap->Prop} {J:It} (I:Inv X pins σ H s) (T:gn X.prog X.w X.K target J fp it tn)
 (t0:tn 0 s.heap) (f2:∀ b∈fp,cB X pins H b) (h:cR J g tb N σ H) :
 Ml (model X.prog X.w) X.A (.compLoop (.ListComp elt gens scope pos) d (.ref it) acc X.env) (fun r s'=>match r with | .ok _ => ∃ σ' H',Inv X pins σ' H' s'/\N σ' H' | .error _=>False) s:=by
 obtain ⟨W,⟨m0,w0⟩,turn⟩:=h;have stat:∀ {H':Hp},(∀ b∈fp,H' b=none) -> ∀ b∈fp,cB X pins H' b:=fun hn b j=>⟨hn b j,(f2 b j).2⟩;refine codeAny_loop rfl (fun n s' => ∃ i σ' H',Inv X pins σ' H' s'/\tn i s'.heap/\(∀ b∈fp,H' b=none)/\W i n σ' H') ?_ m0 ⟨0, σ,H,I,t0,fun b j=>(f2 b j).1,w0⟩;rintro n s3 ⟨i, σ3,F,Z,z,B,w3⟩;show Ht _ _ ((compTurn (.ListComp elt gens scope pos) d (.ref it) acc X.env).onRaise (fun x=>do noteFrame x X.env;theTreesLotGoes x)) _ _ s3
 refine wpAny_noted ?_;rw [nL elt target iter ifs gens scope pos d (.ref it) acc X.env hd ha];refine gV (Kg (gV ?_));show Ht (model X.prog X.w) X.A _ _ _ s3
 rcases turn i n σ3 F w3 with ⟨stop,qn⟩ | ⟨go,N',hN,step⟩
 ·refine thn (T.done X rfl rfl rfl Y i pins s3 σ3 F _ Z (stat B) z stop) fun r s4 ⟨G,I4⟩ => ?_;subst G;exact r4 ⟨σ3,F,I4,qn⟩
 ·refine thn (T.item X rfl rfl rfl Y i pins s3 σ3 F _ Z (stat B) z go) fun r s4 ⟨u,G,h4⟩ => ?_;subst G;refine gV (thn h4 fun _ s5 ⟨x,H5,I5,r5,y5,q,L⟩ => ?_);have O:=I5.pinned (stat L) (T.obj _ _ q);refine gV (nox hx (thn (hg _ s5 σ3 H5 x u _ O r5 (step x H5 y5)) fun _ s6 ⟨σ6,H6,I6,q6⟩ => ?_));refine j _ s6 σ6 H6 N' (again (.compLoop (.ListComp elt gens scope pos) d (.ref it) acc X.env)) _ _ I6 q6 fun s7 σ7 H7 U n7 => ?_;obtain ⟨m',hm,w7⟩:=hN σ7 H7 n7;refine r4 ⟨rfl,m',hm,i+1, σ7,H7,U.unpinned,T.keep _ _ _ q fun b j o e=>(U.pin (b,o) (HA _ (HA _ (dJ j e)))).1,fun b j => ?_,w7⟩;obtain ⟨o,e,dd⟩:=T.obj _ _ q b j;exact (U.pin (b,o) (HA _ (HA _ (dJ j e)))).2.1
theorem jG {elt target iter:Expr} {ifs:List Expr} {gens:List ID} {scope:Scope} {pos:Pos} {d:Nat} {it acc:h6} {env:Env} {prog:HK} {w:Ie} {A:Io} {R:Result->hI->Prop} {s:hI}
 (hd:gens[d]? = some ⟨target,iter,ifs,0⟩)
 (h0:Ml (model prog w) A (.compLoop (.ListComp elt gens scope pos) d it acc env) R s)
 (h:Ht (model prog w) A (Pc it) (fun it' s'=>Ml (model prog w) A (.compLoop (.ListComp elt gens scope pos) d it' acc env) R s')
   (notedBy (model prog w) A env fun x s'=>R (.error x) s') s) :
 Ml (model prog w) A (.compStart (.ListComp elt gens scope pos) d it acc env) R s:=by
 refine codeAny_of_tree ?_;show Ht _ _ ((compStart (.ListComp elt gens scope pos) d it acc env).onRaise (fun x=>do noteFrame x env;Np theWindowsPlace)) _ _ s
 refine wpAny_notedAt ?_;unfold compStart;have j:(clausesOf (.ListComp elt gens scope pos))[d]? = some ⟨target,iter,ifs,0⟩:=hd;rw [j];show Ht _ _ (ask >>= _) _ _ s;refine gV (wpAny_askSetting (wpAny_ite ?_))
 split
 ·first
   | exact gV (r4 (r4 (LW rfl h0)))
   | exact r4 (LW rfl h0)
 ·first
   | exact gV (Jq (gV (Kg (gV (Jy h (fun it' s' h'=>r4 (LW rfl h')) fun _ _ x=>x)))))
   | (refine gV (Jq ?_);show Ht _ _ (Np iter.pos >>= _) _ _ s;exact gV (Kg (gV (Jy h (fun it' s' h'=>r4 (LW rfl h')) fun _ _ x=>x))))
theorem m9 (hx:∀ e s,X.xe e s->False) (z:X.calm=true) {elt target iter:Expr} {ifs:List Expr} {gens:List ID} {scope:Scope} {pos:Pos} {d:Nat} {acc:h6}
 (hd:gens[d+1]? = some ⟨target,iter,ifs,0⟩) (B:∀ g',gens[d+1+1]? = some g'->g'.is_async=0) {wi:TI} (hi:PI X target iter wi) {g:TG} (F:PG X target g) {tb:TC}
 (G:PB X (fun k=>bH ifs X.env >>= fun ok=>if ok=true then br elt gens scope pos (d+1) acc X.env k else k) tb)
 (hs:∀ x,JH iter X.env x=pure x) :
 PB X (br elt gens scope pos d acc X.env) (fun σ H N=>wi σ H fun J H1=>cR J g tb N σ H1):=by
 intro pins s σ H N k Q E I h hk;unfold br;rw [hd];refine gV (nox hx (thn (hi pins s σ H _ I h) fun v s1 h1 => ?_));refine gV (Kg (gV (Kv (hs v) ?_)));refine gV (I8 (nox hx (thn h1 fun itv s2 h2 => ?_)));obtain ⟨it,fp,tn,J,H2,e,L,T,j,f2,hw⟩:=h2;subst e;have loop:=m8 (acc:=acc) hx z hd B F G L T j f2 hw;refine gV (wpAny_runOwn (LC (jG (R:=fun r s'=>match r with | .ok _ => ∃ σ' H',Inv X pins σ' H' s'/\N σ' H' | .error _=>False) hd loop (T.self _ 0 _ _ _ j loop)) fun r s3 q => ?_))
 cases r with
 | error e=>exact q.elim
 | ok f =>
   obtain ⟨σ3,O,U,Y⟩:=q;exact hk s3 σ3 O U Y
noncomputable def bg (cells:List (Str×Addr)):List (Str×Kr)->List (Str×Addr)->List (Str×Addr)
 | [],acc=>acc
 | (n,k)::r,acc=>if k == .free then (match cells.lookup n with | some c=>bg cells r ((n,c)::acc) | none=>bg cells r acc) else bg cells r acc
theorem iK {env:Env}:∀ (names:List (Str×Kr)) (acc:List (Str×Addr)),(∀ x∈names,x.2 = .free->(env.cells.lookup x.1).isSome=true) ->
 (forIn names acc fun (x:Str×Kr) (r:List (Str×Addr))=>(match x with | (name,kind)=>if (kind==I0)=true then do let c <- cellOf env name;pure (KO ((name,c)::r)) else pure (KO r):Sem (ForInStep (List (Str×Addr)))))=(pure (bg env.cells names acc):Sem (List (Str×Addr)))
 | [],acc,_=>rfl
 | (n,k)::r,acc,h=>by
  rw [KP];have ih:=fun acc'=>iK r acc' fun x hx=>h x (HU _ hx);unfold bg
  by_cases hk:(k==I0)=true
  ·obtain ⟨c,q⟩:=Ki.mp (h (n,k) Ir (beq_iff_eq.mp hk));have j:env.cells.lookup n=some c:=q;have e1:cellOf env n=pure c:=by unfold cellOf;rw [j]
   simp only [hk,if_true,e1,j,pure_bind];exact ih _
  ·simp only [hk,if_false,pure_bind];exact ih _
theorem jH {scope:Scope} {env:Env} (h:∀ x∈scope.names,x.2 = .free->(env.cells.lookup x.1).isSome=true):closureFor scope env=pure (bg env.cells scope.names []):=by
 unfold closureFor;have e:=iK (env:=env) scope.names [] h;simp only [bind_pure];exact e
theorem dN {cells:List (Str×Addr)} {y:Str} {c:Addr}:∀ {names:List (Str×Kr)} {acc:List (Str×Addr)},(y,c)∈bg cells names acc->(y,c)∈acc∨(cells.lookup y=some c/\(y,I0)∈names)
 | [],acc,h => .inl h
 | (n,k)::r,acc,h=>by
  unfold bg at h
  by_cases hk:(k==I0)=true
  ·rw [if_pos hk] at h;have B:k = .free:=beq_iff_eq.mp hk;subst B
   cases F:cells.lookup n with
   | none =>
     rw [F] at h
     rcases dN h with z | ⟨j,q⟩
     ·exact .inl z
     ·exact .inr ⟨j,HU _ q⟩
   | some c' =>
     rw [F] at h
     rcases dN h with z | ⟨j,q⟩
     ·rcases Ho.mp z with e | z
      ·cases e
       exact .inr ⟨F,Ir⟩
      ·exact .inl z
     ·exact .inr ⟨j,HU _ q⟩
  ·rw [if_neg hk] at h
   rcases dN h with z | ⟨j,q⟩
   ·exact .inl z
   ·exact .inr ⟨j,HU _ q⟩
theorem dO {cells:List (Str×Addr)} {y:Str} {c:Addr} (j:cells.lookup y=some c):∀ {names:List (Str×Kr)} {acc:List (Str×Addr)},((y,c)∈acc∨(y,I0)∈names)->(y,c)∈bg cells names acc
 | [],acc,h=>by
  rcases h with h | h
  ·exact h
  ·simp at h
 | (n,k)::r,acc,h=>by
  unfold bg
  by_cases hk:(k==I0)=true
  ·rw [if_pos hk];have q:k = .free:=beq_iff_eq.mp hk;subst q
   cases hl:cells.lookup n with
   | none =>
     refine dO j ?_
     rcases h with h | h
     ·exact .inl h
     ·rcases Ho.mp h with e | h
      ·cases e;rw [hl] at j;cases j
      ·exact .inr h
   | some c' =>
     refine dO j ?_
     rcases h with h | h
     ·exact .inl (HU _ h)
     ·rcases Ho.mp h with e | h
      ·cases e;rw [hl] at j;cases j;exact .inl Ir
      ·exact .inr h
  ·rw [if_neg hk];refine dO j ?_
   rcases h with h | h
   ·exact .inl h
   ·rcases Ho.mp h with e | h
    ·cases e;exact absurd rfl hk
    ·exact .inr h
theorem dF:∀ (names:List (Str×Kr)) (n:Nat) (acc acc':List (Str×Addr)),JI n names (acc++acc')=JI n names acc++acc'
 | [],_,_,_=>rfl
 | (x,k)::r,n,acc,acc'=>by
  unfold JI
  by_cases j:(k==JD)=true
  ·rw [if_pos j,if_pos j];exact dF r (n+1) ((x,n)::acc) acc'
  ·rw [if_neg j,if_neg j];exact dF r n acc acc'
theorem dG:∀ {names:List (Str×Kr)} {n:Nat} {acc:List (Str×Addr)} {y:Str} {c:Addr},(y,c)∈JI n names acc->(y,c)∈acc∨(n<=c/\(y,JD)∈names)
 | [],_,_,_,_,h => .inl h
 | (x,k)::r,n,acc,y,c,h=>by
  unfold JI at h
  by_cases hk:(k==JD)=true
  ·rw [if_pos hk] at h;have j:k = .cell:=beq_iff_eq.mp hk;subst j
   rcases dG h with z | ⟨q,B⟩
   ·rcases Ho.mp z with e | z
    ·cases e;exact .inr ⟨Hr _,Ir⟩
    ·exact .inl z
   ·exact .inr ⟨Nat.le_of_succ_le q,HU _ B⟩
  ·rw [if_neg hk] at h
   rcases dG h with z | ⟨q,B⟩
   ·exact .inl z
   ·exact .inr ⟨q,HU _ B⟩
structure bu (sc osc:Scope) (oN N':List Str) (fr:List (Option Nat)):Prop where
 kind:sc.kind = .function
 nd:(sc.names.map (·.1)).Nodup
 ndN:N'.Nodup
 free:∀ x∈sc.names,x.2 = .free->osc.names.lookup x.1=some .cell∨osc.names.lookup x.1=some .free
 len:fr.length=N'.length
 fr:∀ (i j:Nat) (x:Str),N'[i]? = some x->fr[i]? = some (some j)->oN[j]? = some x/\(x,I0)∈sc.names
noncomputable def inh (fr:List (Option Nat)) (σ:St):St:=fr.map fun o=>o.bind fun j=>(σ[j]?).join
noncomputable def bv (X:Cx) (sc:Scope) (L:Addr):Env :=
 { scope:=relabel sc X.env,locals:=L,globals:=X.env.globals,cells:=JI (L+1) sc.names (bg X.env.cells sc.names []),qual:=X.env.qual,func:=none,code:=X.env.code,frame:=X.env.frame,builtins:=X.env.builtins }
noncomputable def aO (X:Cx) (sc:Scope) (N':List Str) (s:hI) (H:Hp) (fp:List Addr):Cx :=
 { X with N:=N',s₀ := s,H₀ := H,env:=bv X sc s.heap.objs.size,outer:=X.stack,stack:=X.stack,ex:=fp,fn:=fun x=>sc.names.lookup x==some .cell,pn := [],xe:=fun _ _=>False }
theorem b8:∀ {l:List (Str×Kr)} {x:Str} {k:Kr},(l.map (·.1)).Nodup->(x,k)∈l->l.lookup x=some k
 | (y,k')::r,x,k,nd,h=>by
  have nd':(y::r.map (·.1)).Nodup:=nd;obtain ⟨q,z⟩:=J4.mp nd';rw [JT]
  rcases Ho.mp h with e | hm
  ·cases e;simp
  ·have j:(x==y)=false:=by
    refine beq_eq_false_iff_ne.mpr fun e => ?_;subst e;exact q (HF.mpr ⟨(x,k),hm,rfl⟩)
   rw [j];exact b8 z hm
theorem cS {env:Env}:∀ {names:List (Str×Kr)} {x:Str},
 (names.map fun (n,k)=>if (k==I0&&env.scope.kind == .function&&env.kindOf n==some .cell) then (n,JD) else (n,k)).lookup x =
   (names.lookup x).map fun k=>if (k==I0&&env.scope.kind == .function&&env.kindOf x==some .cell) then JD else k
 | [],_=>rfl
 | (n,k)::r,x=>by
  have ih:=cS (env:=env) (names:=r) (x:=x);show List.lookup x ((if (k==I0&&env.scope.kind == .function&&env.kindOf n==some .cell)=true then (n,JD) else (n,k))::_)=_
  rw [JT (a:=x) (b:=k)]
  by_cases hx:x=n
  ·subst hx;simp only [beq_self_eq_true];show _=some (if (k==I0&&env.scope.kind == .function&&env.kindOf x==some .cell)=true then JD else k)
   by_cases j:(k==I0&&env.scope.kind == .function&&env.kindOf x==some .cell)=true
   ·rw [if_pos j,if_pos j,JT];simp only [beq_self_eq_true]
   ·rw [if_neg j,if_neg j,JT];simp only [beq_self_eq_true]
  ·have q:(x==n)=false:=beq_eq_false_iff_ne.mpr hx;rw [q]
   by_cases j:(k==I0&&env.scope.kind == .function&&env.kindOf n==some .cell)=true
   ·rw [if_pos j,JT,q];exact ih
   ·rw [if_neg j,JT,q];exact ih
section
variable {pins:List (Addr×Obj)} {σ:St} {H:Hp} {s:hI} {sc:Scope} {N':List Str} {fr:List (Option Nat)} {fp:List Addr}
theorem gB (I:Inv X pins σ H s) (B:bu sc X.env.scope X.N N' fr):∀ x∈sc.names,x.2 = .free->(X.env.cells.lookup x.1).isSome=true:=fun x hx e=>by
 obtain ⟨c,j⟩:=I.ok.has x.1 (B.free x hx e);rw [j];rfl
theorem uL (I:Inv X pins σ H s) (f2:∀ b∈fp,cB X pins H b) (Y:∀ b∈fp,b < s.heap.objs.size) (B:bu sc X.env.scope X.N N' fr) :
 Inv (aO X sc N' s H fp) [] (inh fr σ) H { s with heap:=Qc (s.heap.push { cls := .type "dict",data := .dict #[] }) sc.names }:=by
 have G:∀ b o,s.heap.get? b=some o->(Qc (s.heap.push { cls := .type "dict",data := .dict #[] }) sc.names).get? b=some o:=fun b o e=>Oe _ _ b o (h7 _ e);have ok:=cellsFrom_ok sc.names (s.heap.push { cls := .type "dict",data := .dict #[] }) (s.heap.objs.size+1) [] ⟨fun _ _ hm=>(nomatch hm),Nq⟩ (by rw [Jh];exact Hr _)
 rw [Jh] at ok;have capp:JI (s.heap.objs.size+1) sc.names (bg X.env.cells sc.names [])=JI (s.heap.objs.size+1) sc.names []++bg X.env.cells sc.names []:=dF sc.names _ [] _;have cof:∀ x c,(bv X sc s.heap.objs.size).cells.lookup x=some c->((x,c)∈JI (s.heap.objs.size+1) sc.names []/\s.heap.objs.size < c)∨(X.env.cells.lookup x=some c/\(x,I0)∈sc.names):=fun x c e=>by
  have m:=Jb e;have m':(x,c)∈JI (s.heap.objs.size+1) sc.names (bg X.env.cells sc.names []):=m;rw [capp] at m'
  rcases Hv.mp m' with z | z
  ·exact .inl ⟨z,(ok.empty x c z).2⟩
  ·rcases dN z with q | q
   ·simp at q
   ·exact .inr q
 have cOld:∀ x c,X.env.cells.lookup x=some c->c < s.heap.objs.size:=fun x c e=>by
  obtain ⟨v,q⟩:=I.cell x c e;exact q.lt
 have kindF:∀ x,(x,I0)∈sc.names->(bv X sc s.heap.objs.size).kindOf x=some .cell∨(bv X sc s.heap.objs.size).kindOf x=some .free:=fun x hx=>by
  have e1:sc.names.lookup x=some .free:=b8 B.nd hx;have e2:(bv X sc s.heap.objs.size).kindOf x=_:=cS (env:=X.env) (names:=sc.names) (x:=x);rw [e1] at e2;rw [e2]
  by_cases J:(I0==I0&&X.env.scope.kind == .function&&X.env.kindOf x==some .cell)=true
  ·exact .inl (by simp only [KQ,if_pos J])
  ·exact .inr (by simp only [KQ,if_neg J])
 have cellF:∀ x c,(x,I0)∈sc.names->X.env.cells.lookup x=some c->(bv X sc s.heap.objs.size).cells.lookup x=some c:=fun x c hx J=>by
  have m:=dO (acc := []) J (.inr hx);have m2:(x,c)∈(bv X sc s.heap.objs.size).cells:=by
   show (x,c)∈JI (s.heap.objs.size+1) sc.names (bg X.env.cells sc.names []);rw [capp];exact HA _ m
  cases F:(bv X sc s.heap.objs.size).cells.lookup x with
  | none =>
    exfalso
    have:∀ {l:List (Str×Addr)},(x,c)∈l->l.lookup x=none->False:=by
     intro l
     induction l with
     | nil=>intro h;simp at h
     | cons a r ih =>
       intro h e;obtain ⟨y,d⟩:=a;rw [JT] at e
       rcases Ho.mp h with z | z
       ·cases z;simp at e
       ·by_cases hxy:(x==y)=true
        ·rw [hxy] at e;cases e
        ·simp only [LX] at hxy;rw [hxy] at e;exact ih z e
    exact this m2 F
  | some c' =>
    rcases cof x c' F with ⟨z,_⟩ | ⟨z,_⟩
    ·rcases dG z with q | ⟨_,q⟩
     ·simp at q
     ·have a1:=b8 B.nd hx;have a2:=b8 B.nd q;rw [a1] at a2;cases a2
    ·rw [J] at z;rw [z]
 have kindC:∀ x,(bv X sc s.heap.objs.size).kindOf x=some .cell->(x,JD)∈sc.names∨(x,I0)∈sc.names:=fun x e=>by
  have e2:(bv X sc s.heap.objs.size).kindOf x=_:=cS (env:=X.env) (names:=sc.names) (x:=x);rw [e2] at e
  cases F:sc.names.lookup x with
  | none=>rw [F] at e;cases e
  | some k =>
    rw [F] at e;have m:=Jb F
    cases k with
    | cell=>exact .inl m
    | free=>exact .inr m
    | «local» => simp at e
    | globalImplicit=>simp at e
    | globalExplicit=>simp at e
 have kindFr:∀ x,(bv X sc s.heap.objs.size).kindOf x=some .free->(x,I0)∈sc.names:=fun x e=>by
  have e2:(bv X sc s.heap.objs.size).kindOf x=_:=cS (env:=X.env) (names:=sc.names) (x:=x);rw [e2] at e
  cases F:sc.names.lookup x with
  | none=>rw [F] at e;cases e
  | some k =>
    rw [F] at e;have m:=Jb F
    cases k with
    | free=>exact m
    | cell=>simp at e
    | «local» => simp at e
    | globalImplicit=>simp at e
    | globalExplicit=>simp at e
 refine ⟨⟨I.ok.mod,B.kind,I.ok.glob,I.ok.blt,Hr _,fun y z c h1 h2 => ?_,fun y Z => ?_,fun y c hf h => ?_,I.ok.hd,I.ok.frames, .inl rfl,fun b O=>⟨?_,fun x c e => ?_⟩,fun b o e=>I.bs b o e, ?_,fun b o e O => ?_,fun b O => ?_,I.stack,I.stkFree⟩,
  rfl,I.bare,Un.kept G,⟨_,(Heap.Ns.new s.heap (.type "dict")).keeps (Oe _ _),fun i x v h1 h2 h3 => ?_⟩,fun y c h => ?_,I.hok.fresh (Hr _),fun y c h => ?_,fun p hp=>absurd (show p∈([]:List (Addr×Obj)) from hp) (by simp),I.hok.kept G, ?_⟩
 ·rcases cof y c h1 with ⟨a1,a2⟩ | ⟨a1,a2⟩
  ·rcases cof z c h2 with ⟨b1,b2⟩ | ⟨b1,b2⟩
   ·exact name_of_addr ok.apart a1 b1
   ·exact absurd (cOld z c b1) (QY.mpr (L6 a2))
  ·rcases cof z c h2 with ⟨b1,b2⟩ | ⟨b1,b2⟩
   ·exact absurd (cOld y c a1) (QY.mpr (L6 b2))
   ·exact I.ok.inj y z c a1 b1
 ·have F7:(y,JD)∈sc.names∨(y,I0)∈sc.names:=by
   rcases Z with Z | Z
   ·exact kindC y Z
   ·exact .inr (kindFr y Z)
  rcases F7 with q | q
  ·exact Ki.mp (LD sc.names _ _ (.inl (b8 B.nd q)))
  ·obtain ⟨c,J⟩:=Ki.mp (gB I B _ q rfl);exact ⟨c,cellF y c q J⟩
 ·have F8:(sc.names.lookup y==some .cell)=true:=hf;have F5:sc.names.lookup y=some .cell:=by simpa using F8
  rcases cof y c h with ⟨_,a2⟩ | ⟨_,a2⟩
  ·exact L6 a2
  ·rw [b8 B.nd a2] at F5;cases F5
 ·exact HV (Y b O)
 ·rcases cof x c e with ⟨_,a2⟩ | ⟨a1,_⟩
  ·exact JP (Nat.lt_trans (Y b O) a2)
  ·exact (f2 b O).2.2.2.2.1 x c a1
 ·exact Iv I.ok.bsz I.sz
 ·obtain ⟨f0,f1,f3,f4,f5,f6⟩:=f2 b O
  rcases f4 with z | z
  ·exact I.ok.noex b o e z
  ·exact absurd (HW (HW (Hq e) I.ok.bsz) z) (Jf _)
 ·obtain ⟨f0,f1,f3,f4,f5,f6⟩:=f2 b O;exact fun z=>(Ho.mp (I.stkSub b z)).elim f1 f3
 ·have hi:∃ j,fr[i]? = some (some j) /\ σ[j]? = some (some v):=by
   unfold inh at h2;rw [HM] at h2
   cases e:fr[i]? with
   | none=>rw [e] at h2;cases h2
   | some o =>
     rw [e] at h2
     cases o with
     | none=>cases h2
     | some j =>
       refine ⟨j,rfl, ?_⟩;have L:some ((σ[j]?).join)=some (some v):=h2
       cases e' : σ[j]? with
       | none=>rw [e'] at L;cases L
       | some w=>rw [e'] at L;cases L;rfl
  obtain ⟨j,e1,e2⟩:=hi;obtain ⟨n1,n2⟩:=B.fr i j x h1 e1;obtain ⟨m,hn,F⟩:=I.loc;have hv:Vis X.env.scope x := .inr (B.free (x, .free) n2 rfl);obtain ⟨u,ru,lk⟩:=F j x v n1 e2 hv;refine ⟨u,ru, .inr ⟨kindF x n2, ?_⟩⟩
  rcases lk with ⟨k1,_⟩ | ⟨_,c,J,U⟩
  ·have F6:X.env.scope.names.lookup x=some .local:=k1
   rcases B.free (x, .free) n2 rfl with z | z
   ·rw [F6] at z;cases z
   ·rw [F6] at z;cases z
  ·exact ⟨c,cellF x c n2 J,U.keeps G⟩
 ·rcases cof y c h with ⟨a1,a2⟩ | ⟨a1,a2⟩
  ·exact ⟨_,(ok.empty y c a1).1⟩
  ·obtain ⟨v,q⟩:=I.cell y c a1;exact ⟨v,q.keeps G⟩
 ·rcases cof y c h with ⟨a1,a2⟩ | ⟨a1,a2⟩
  ·exact I.hok.fresh (L6 a2)
  ·exact I.freeC y c a1
 ·show (inh fr σ).length=N'.length;unfold inh;rw [q7];exact B.len
theorem md {σ':St} {H':Hp} {s':hI} {h':Heap} (I:Inv X pins σ H s) (f2:∀ b∈fp,cB X pins H b) (J:Inv (aO X sc N' s H fp) [] σ' H' s') (hs:J6 s.heap.objs.size s'.heap h') :
 Inv X pins σ H' { s' with heap:=h' }:=by
 have u:Un (frs X.stack) fp H H' s.heap s'.heap:=J.base;have ne:∀ b o,s.heap.get? b=some o->b≠s.heap.objs.size:=fun b o e=>HV (Hq e);refine I.call' (s' := { s' with heap:=h' }) (ch:=fp) J.os ⟨fun b o e n j hx => ?_,fun b o e n j hx => ?_,u.free,fun b o e hx => ?_,u.tups,u.frzs,u.tbls⟩ (fun b v e => ?_) J.bare fun b j => ?_
 ·exact (hs.2 b (ne b o e)).trans (u.keep b o e n j hx)
 ·obtain ⟨sl,q⟩:=u.slot b o e n j hx;exact ⟨sl,(hs.2 b (ne b o e)).trans q⟩
 ·obtain ⟨o',q⟩:=u.there b o e hx;exact ⟨o',(hs.2 b (ne b o e)).trans q⟩
 ·refine (J.hok b v e).stay (fun c w F q=>(hs.2 c ?_).trans q) (fun _ q=>q) fun _ _ q=>q;have fr:H' s.heap.objs.size=none:=J.free
  rcases F with z | z
  ·rw [z];intro B;rw [B,fr] at e;cases e
  ·intro B;rw [B,fr] at z;cases z
 ·obtain ⟨f0,f1,O,f4,G,L⟩:=f2 b j;exact ⟨f4,f1,G,L⟩
theorem n9 {Q:Env->hI->Prop} {E:h6->hI->Prop} {M:Mn} {A:Io}
 (h:Q { scope:=sc,locals:=s.heap.objs.size,globals:=X.env.globals,cells:=JI (s.heap.objs.size+1) sc.names (bg X.env.cells sc.names []),qual:=X.env.qual,func:=none,code:=X.env.code,frame:=X.env.frame,builtins:=X.env.builtins }
   { s with heap:=Qc (s.heap.push { cls := .type "dict",data := .dict #[] }) sc.names }) :
 Ht M A (Ox sc X.env.globals (bg X.env.cells sc.names []) [] X.env.qual none .none (some X.env)) Q E s:=by
 simp only [Ox,Pk,if_true];refine gV (wpAny_alloc ?_);refine gV (wpAny_layCells _ (fun name kind cells=>by cases hkc:kind==JD <;> simp [hkc]) _ _ _ _ ?_)
 rw [show ({ s with heap:=s.heap.push { cls := .type "dict",data := .dict #[] } }:hI).heap.objs.size=s.heap.objs.size+1 from Jh ..]
 exact gV (r4 (r4 h))
theorem nN (hc:X.calm=true) {elt target iter:Expr} {ifs:List Expr} {rest:List ID} {pos:Pos} {E:h6->hI->Prop}
 (hx:∀ e s,X.xe e s->False) (B:bu sc X.env.scope X.N N' fr) (ha:∀ g',rest[0]? = some g'->g'.is_async=0) {wi:TI} (hi:PI X target iter wi) {g:TG} {tb:Addr->TC}
 (hg:∀ s H fp,PG (aO X sc N' s H fp) target g)
 (j:∀ s H fp p,PB (aO X sc N' s H fp) (fun k=>bH ifs (aO X sc N' s H fp).env >>= fun ok=>if ok=true then br elt (⟨target,iter,ifs,0⟩::rest) sc pos 0 (.ref p) (aO X sc N' s H fp).env k else k) (tb p))
 {Nn:Addr->St->Hp->Prop} {RR:h6->Addr->Result->hI->Prop} (I:Inv X pins σ H s)
 (h:wi σ H fun J H1 => ∀ p,H1 p=none->cR J g (tb p) (Nn p) (inh fr σ) (upd H1 p (.lst [])))
 (hR:∀ p fp s3 L s' σ' H' f,Inv X pins σ L s3->(∀ b∈fp,cB X pins L b)->Inv (aO X sc N' s3 L fp) [] σ' H' s'->Nn p σ' H'->RR (.ref p) s3.heap.objs.size (.ok f) s') :
 Ht (model X.prog X.w) X.A (eval iter X.env) (fun x s₁ => Ht (model X.prog X.w) X.A (Pc x) (fun it s₂ => Ht (model X.prog X.w) X.A (newList []) (fun acc s₃ =>
  Ht (model X.prog X.w) X.A (Ox sc X.env.globals (bg X.env.cells sc.names []) [] X.env.qual none .none (some X.env)) (fun cenv s₄ =>
   Ml (model X.prog X.w) X.A (.compStart (.ListComp elt (⟨target,iter,ifs,0⟩::rest) sc pos) 0 it acc { cenv with scope:=relabel sc X.env }) (RR acc cenv.locals) s₄) E s₃) E s₂) E s₁) E s:=by
 refine nox hx (thn (hi pins s σ H _ I h) fun v s1 h1=>nox hx (thn h1 fun itv s2 h2 => ?_));obtain ⟨it,fp,tn,J,H2,e,Z,T,q,f2,hw⟩:=h2;subst e;have hf:H2 s2.heap.objs.size=none:=Z.hok.fresh (Hr _);refine Nx ?_;have I3:Inv X pins σ (upd H2 s2.heap.objs.size (.lst [])) { s2 with heap:=s2.heap.push { cls := .type "list",dict:=none,data := .seq ([]:List h6).toArray } } :=
  Z.laid (t':=s2.toks) (fun b u e=>h7 _ e) (Hr _) ⟨Jn _,[],0, .nil,Hm _ rfl⟩
 have fneq:∀ b∈fp,b≠s2.heap.objs.size:=fun b j z=>by
  obtain ⟨o,e,_⟩:=T.obj _ _ q b j;exact absurd (Hq e) (by rw [z];exact Jf _)
 have O:∀ b∈fp,cB X pins (upd H2 s2.heap.objs.size (.lst [])) b:=fun b j=>⟨by rw [am (fneq b j)];exact (f2 b j).1,(f2 b j).2⟩
 have U:∀ b∈fp,b < (s2.heap.push { cls := .type "list",dict:=none,data := .seq ([]:List h6).toArray }).objs.size:=fun b j=>by
  obtain ⟨o,e,_⟩:=T.obj _ _ q b j;rw [Jh];exact Nat.lt_succ_of_lt (Hq e)
 have Y:tn 0 (s2.heap.push { cls := .type "list",dict:=none,data := .seq ([]:List h6).toArray }):=T.keep _ _ _ q fun b _ o e=>h7 _ e;refine n9 ?_;have G:=uL (N':=N') I3 O U B;have F:=T.keep _ (h':=Qc (({ s2 with heap:=s2.heap.push { cls := .type "list",dict:=none,data := .seq ([]:List h6).toArray } }:hI).heap.push { cls := .type "dict",data := .dict #[] }) sc.names) _ Y fun b _ o e=>Oe _ _ b o (h7 _ e)
 have f4:∀ b∈fp,cB (aO X sc N' { s2 with heap:=s2.heap.push { cls := .type "list",dict:=none,data := .seq ([]:List h6).toArray } } (upd H2 s2.heap.objs.size (.lst [])) fp) [] (upd H2 s2.heap.objs.size (.lst [])) b:=fun b j =>
  ⟨(O b j).1,(G.ok.exf b j).1,G.ok.exfs b j, .inl j,(G.ok.exf b j).2,fun p hp=>absurd (show p∈([]:List (Addr×Obj)) from hp) (by simp)⟩
 have loop:=m8 (X:=aO X sc N' { s2 with heap:=s2.heap.push { cls := .type "list",dict:=none,data := .seq ([]:List h6).toArray } } (upd H2 s2.heap.objs.size (.lst [])) fp) (fun _ _ z=>z) hc
  (elt:=elt) (pos:=pos) (scope:=sc) (gens:=⟨target,iter,ifs,0⟩::rest) (d := 0) (acc := .ref s2.heap.objs.size) rfl (fun g' e=>ha g' (by simpa using e)) (hg _ _ _) (j _ _ _ _) G T F f4 (hw _ hf)
 refine LC (jG (R:=fun r s'=>match r with | .ok _ => ∃ σ' H',Inv (aO X sc N' { s2 with heap:=s2.heap.push { cls := .type "list",dict:=none,data := .seq ([]:List h6).toArray } } (upd H2 s2.heap.objs.size (.lst [])) fp) [] σ' H' s'/\Nn s2.heap.objs.size σ' H' | .error _=>False)
  (gens:=⟨target,iter,ifs,0⟩::rest) (d := 0) rfl loop (T.self _ 0 _ _ _ F loop)) fun r s5 hr => ?_
 cases r with
 | error e=>exact hr.elim
 | ok f =>
   obtain ⟨σ5,H5,I5,n5⟩:=hr;exact hR _ fp _ _ s5 σ5 H5 f I3 O I5 n5
noncomputable def sD (wi:TI) (g:TG) (tb:Addr->TC) (fr:List (Option Nat)):TE:=fun σ H Q=>wi σ H fun J H1 => ∀ p,H1 p=none->cR J g (tb p) (fun _ H2=>Q (.ref p) H2) (inh fr σ) (upd H1 p (.lst []))
theorem mf (B:bu sc X.env.scope X.N N' fr):∀ x∈sc.names,x.2 = .local->sc.names.lookup x.1=some .local:=fun x hx e=>by
 obtain ⟨n,k⟩:=x;have e':k = .local:=e;subst e';exact b8 B.nd hx
theorem iM (z:X.calm=true) {elt target iter:Expr} {ifs:List Expr} {rest:List ID} {pos:Pos}
 (hx:∀ e s,X.xe e s->False) (B:bu sc X.env.scope X.N N' fr) (F:∀ g',rest[0]? = some g'->g'.is_async=0) {wi:TI} (hi:PI X target iter wi) {g:TG} {tb:Addr->TC}
 (G:∀ s H fp,PG (aO X sc N' s H fp) target g)
 (L:∀ s H fp p,PB (aO X sc N' s H fp) (fun k=>bH ifs (aO X sc N' s H fp).env >>= fun ok=>if ok=true then br elt (⟨target,iter,ifs,0⟩::rest) sc pos 0 (.ref p) (aO X sc N' s H fp).env k else k) (tb p))
 (hs:∀ x,JH iter X.env x=pure x) :
 PE X (.ListComp elt (⟨target,iter,ifs,0⟩::rest) sc pos) (sD wi g tb fr):=by
 intro pins s σ H Q I h;rw [eval_ListComp];refine Ny (use:=none) rfl hs (jH (gB I B)) B.kind (mf B) (nN (Nn:=fun p _ H2=>Q (.ref p) H2) (RR:=fun acc C=>compPost (model X.prog X.w) X.A X.xe none (EP X pins σ Q) acc C) z hx B F hi G L I h ?_);intro p fp s3 Z s' σ' H' f O U J q;obtain ⟨m,Y,_⟩:=J.loc;exact ⟨m,Y,fun h' j=>⟨.ref p,H',md O U J j,rfl,q⟩⟩
theorem jI (hc:X.calm=true) {elt target iter:Expr} {ifs:List Expr} {rest:List ID} {pos pos' spos:Pos} {x:Str} {i:Nat}
 (hx:∀ e s,X.xe e s->False) (B:bu sc X.env.scope X.N N' fr) (ha:∀ g',rest[0]? = some g'->g'.is_async=0) {wi:TI} (hi:PI X target iter wi) {g:TG} {tb:Addr->TC}
 (hg:∀ s H fp,PG (aO X sc N' s H fp) target g)
 (F:∀ s H fp p,PB (aO X sc N' s H fp) (fun k=>bH ifs (aO X sc N' s H fp).env >>= fun ok=>if ok=true then br elt (⟨target,iter,ifs,0⟩::rest) sc pos 0 (.ref p) (aO X sc N' s H fp).env k else k) (tb p))
 (hs:∀ x,JH iter X.env x=pure x) (G:PG X (.Name x pos') (jv i))
 (L:Lr (.ListComp elt (⟨target,iter,ifs,0⟩::rest) sc pos) (some (.Name x pos')) spos.line X.env=pure true) :
 PS X (.Assign [.Name x pos'] (.ListComp elt (⟨target,iter,ifs,0⟩::rest) sc pos) spos) (nD (sD wi g tb fr) (jv i)):=by
 intro pins s σ H D I h;rw [exec_Assign_Name_used _ _ _ _ L];refine gV (Kg (gV ?_));show Ht _ X.A (do let _ <- comprehension (.ListComp elt (⟨target,iter,ifs,0⟩::rest) sc pos) sc X.env _ (newList []) false (eval iter X.env) (some (assign (.Name x pos') X.env))) _ _ s
 refine gV (Jy (Ny (use:=some (assign (.Name x pos') X.env)) (Q:=fun _ s'=>SP X pins D .next s') rfl hs (jH (gB I B)) B.kind (mf B)
  (nN (Nn:=fun p _ H2=>D.nx (σ.set i (some (.ref p))) H2) (RR:=fun acc C=>compPost (model X.prog X.w) X.A X.xe (some (assign (.Name x pos') X.env)) (fun _ s'=>SP X pins D .next s') acc C) hc hx B ha hi hg F I h ?_)) (fun _ s' hq=>r4 (r4 hq)) fun _ _ e=>e)
 intro p fp s3 H3 s' σ' H' f j f3 J q;obtain ⟨m,⟨o,es,ep,ho,hd,hk,hm⟩,_⟩:=J.loc;have I4:Inv X pins σ H' s':=md (h':=s'.heap) j f3 J ⟨rfl,fun _ _=>rfl⟩;have hL:(aO X sc N' s3 H3 fp).env.locals=s3.heap.objs.size:=rfl;rw [hL] at ho;have O:H' s3.heap.objs.size=none:=J.free;have neL:s3.heap.objs.size≠X.env.locals:=JP j.lt;have nfs:s3.heap.objs.size∉X.fs:=j.nofs (Hr _);have I5:Inv X (pins++[(s3.heap.objs.size,o)]) σ H' s':=I4.pins_of fun pr U=>by
  rcases Hv.mp U with z | z
  ·exact I4.pin pr (HA _ z)
  ·have e:pr=(s3.heap.objs.size,o):=by simpa using z
   subst e;exact ⟨ho,O,neL,nfs,fun v z=>by rw [hd] at z;cases z⟩
 show Ht _ X.A (assign (.Name x pos') X.env (.ref p)) _ _ _;refine thn (G _ s' σ H' (.ref p) (.ref p) D.nx I5 rfl q) fun _ s6 ⟨σ6,H6,I6,q6⟩ => ?_;obtain ⟨Y,Z,_⟩:=I6.pin (s3.heap.objs.size,o) (HA _ (HA _ (by simp)))
 refine ⟨m,⟨o,es,ep,Y,hd,hk,hm⟩,fun h' F5=>⟨σ6,H6, ?_,q6⟩⟩;refine (I6.unpinned).turned (t':=s6.toks) (it:=s3.heap.objs.size) (fun b o F e=>(F5.2 b F).trans e) Z neL (.inr j.sz) (fun y c e z => ?_) fun pr U z => ?_
 ·obtain ⟨v,q⟩:=j.cell y c e;exact absurd q.lt (by rw [z];exact Jf _)
 ·exact absurd (Hq (j.pin pr U).1) (by rw [z];exact Jf _)
end
end
end
end L2
namespace L2
namespace Zp
open PySem PySem.Spec PyProof.Rows
def At (t:Bool) (h:Heap) (i l:Addr) (k:Nat):Prop:=match t with | true=>h.IsTupleIter i l k | false=>h.IsListIter i l k
def Sq (t:Bool) (h:Heap) (l:Addr) (xs:Array h6):Prop:=match t with | true=>h.IsTuple l xs | false=>h.IsList l xs
theorem At.up {t:Bool} {h h':Heap} {i l:Addr} {k:Nat} (x:At t h i l k) (e:∀ o,h.get? i=some o->h'.get? i=some o):At t h' i l k:=by
 cases t <;> (obtain ⟨o,ho,r⟩:=x;exact ⟨o,e o ho,r⟩)
theorem Sq.up {t:Bool} {h h':Heap} {l:Addr} {xs:Array h6} (x:Sq t h l xs) (e:∀ o,h.get? l=some o->h'.get? l=some o):Sq t h' l xs:=by
 cases t <;> (obtain ⟨o,ho,r⟩:=x;exact ⟨o,e o ho,r⟩)
theorem At.lt {t:Bool} {h:Heap} {i l:Addr} {k:Nat} (x:At t h i l k):∃ o,h.get? i=some o /\ ∀ v,o.data ≠ .cell v:=by
 cases t <;> (obtain ⟨o,ho,j,hd⟩:=x;exact ⟨o,ho,fun v z=>by rw [hd] at z;cases z⟩)
section
variable {prog:HK} {w:Ie} {A:Io} {E:h6->hI->Prop} {s:hI}
open Builtin.SmallTypes in
theorem xJ {i l:Addr} {k:Nat} {xs:Array h6} {x:h6} {Q:h6->hI->Prop} (hi:s.heap.IsTupleIter i l k) (L:s.heap.IsTuple l xs) (hx:xs[k]? = some x)
 (q:∀ h',h'.IsTupleIter i l (k+1)->J6 i s.heap h'->Q x { s with heap:=h' }):Ht (model prog w) A (nextOf (.ref i)) Q E s:=by
 obtain ⟨ob,z,B,j⟩:=id hi;obtain ⟨oq,G,_,nq,J⟩:=L;unfold nextOf;refine gV (Ij (name:=IP "__next__") hi.typeIs JX (Iq JX hi.typeIs MD ?_ (Mu _)));refine gV (m:=field (.ref i) 0) (Iz z j (x := .ref l) rfl ?_);refine (if_neg (c:=(Ii l==Ke)=true) Hi) ▸ ?_;refine gV (m:=field (.ref i) 1) (Iz z j (x := .int k 0) rfl ?_);refine gV (m:=seqItems? (.ref l)) (JE G J ?_);simp only [HX,hx];refine gV (wpAny_setField z j (by simp) (r4 ⟨x,rfl,r4 (q _ ⟨_,Oh _ z (Obj.isFreed_of_fields (Pm j _)),(Obj.cls_mapFields ..).trans B, ?_⟩ (OW ..))⟩))
 rw [Pm j];simp [Nv]
open Builtin.SmallTypes in
theorem Ap {i l:Addr} {k:Nat} {xs:Array h6} {Q:h6->hI->Prop} (J:A.handled=none) (hi:s.heap.IsTupleIter i l k) (L:s.heap.IsTuple l xs) (hx:xs[k]? = none)
 (q:∀ h' e,Qy i s.heap h'->(∃ o,h'.get? e=some o/\o.cls = .type "StopIteration")->E (.ref e) { s with heap:=h' }):Ht (model prog w) A (nextOf (.ref i)) Q E s:=by
 obtain ⟨ob,j,O,z⟩:=id hi;obtain ⟨oq,B,_,nq,G⟩:=L;unfold nextOf;refine gV (Ij (name:=IP "__next__") hi.typeIs JX (Iq JX hi.typeIs MD ?_ (Mu _)));refine gV (m:=field (.ref i) 0) (Iz j z (x := .ref l) rfl ?_);refine (if_neg (c:=(Ii l==Ke)=true) Hi) ▸ ?_;refine gV (m:=field (.ref i) 1) (Iz j z (x := .int k 0) rfl ?_);refine gV (m:=seqItems? (.ref l)) (JE B G ?_);simp only [HX,hx];refine gV (Jq (gV (wpAny_setField j z (by simp) ?_)))
 refine gV (m:=newExc (.type "StopIteration") []) ?_;simp only [newExc,newTuple];refine gV (Jc ?_ (by size_fits))
 refine gV (m:=N6 _ _) (Kv (a:=Ke) (by first | rfl | (simp only [N6];rfl)) (Jc ?_ (by size_fits)))
 simp only [raiseNew];refine gV (wpAny_handled ?_)
 first | rw [show A.in1.handled=none from J] | rw [J]
 exact gV (r4 (Qz (q _ _ (((OW ..).extBut.push _).push _) ⟨_,Hm _ rfl,rfl⟩)))
open Builtin.SmallTypes in
theorem nx_item {t:Bool} {i l:Addr} {k:Nat} {xs:Array h6} {x:h6} {Q:h6->hI->Prop} (hi:At t s.heap i l k) (j:Sq t s.heap l xs) (hx:xs[k]? = some x)
 (q:∀ h',At t h' i l (k+1)->J6 i s.heap h'->Q x { s with heap:=h' }):Ht (model prog w) A (nextOf (.ref i)) Q E s:=by
 cases t with
 | true=>exact xJ hi j hx q
 | false=>exact wpAny_nextOf_list_item hi j hx q
open Builtin.SmallTypes in
theorem nx_end {t:Bool} {i l:Addr} {k:Nat} {xs:Array h6} {Q:h6->hI->Prop} (j:A.handled=none) (hi:At t s.heap i l k) (z:Sq t s.heap l xs) (hx:xs[k]? = none)
 (q:∀ h' e,Qy i s.heap h'->(∃ o,h'.get? e=some o/\o.cls = .type "StopIteration")->E (.ref e) { s with heap:=h' }):Ht (model prog w) A (nextOf (.ref i)) Q E s:=by
 cases t with
 | true=>exact Ap j hi z hx q
 | false=>exact wpAny_nextOf_list_end j hi z hx q
open Builtin.SmallTypes in
theorem Cp {z T O i j a b:Addr} {t u:Bool} {k:Nat} {xs ys:Array h6} {x y p r:h6} {Q:h6->hI->Prop} (D:Oy z T O i j a b)
 (G:Nr s.heap z T O .none) (hT:Kl s.heap T (.ref i) (.ref j)) (hO:Kl s.heap O p r)
 (hi:At t s.heap i a k) (hj:At u s.heap j b k) (ha:Sq t s.heap a xs) (hb:Sq u s.heap b ys) (hx:xs[k]? = some x) (hy:ys[k]? = some y)
 (q:∀ h',Nr h' z T O (Nv s.heap.objs.size)->Kl h' O x y->At t h' i a (k+1)->At u h' j b (k+1)->Kl h' s.heap.objs.size x y ->
   (∀ c o,c≠z->c≠O->c≠i->c≠j->s.heap.get? c=some o->h'.get? c=some o)->Q (.ref s.heap.objs.size) { s with heap:=h' }) :
 Ht (model prog w) A (JZ.«zip.__next__» ⟨[.ref z],[]⟩) (fun fin s' => ∃ v,fin = .done (.ret v)/\Q v s') E s:=by
 refine gV (m:=field (.ref z) 2) (Iz G rfl (x := .bool false) rfl ?_);refine gV (m:=field (.ref z) 3) (Iz G rfl (x := .ref T) rfl ?_);refine gV (JE hT rfl ?_);refine gV (m:=ownedTupleIsFree (.ref z)) ?_;unfold ownedTupleIsFree;refine gV (Iz G rfl (x := .none) rfl (r4 ?_));simp only [if_true];refine gV (Jq (gV (Iz G rfl (x := .ref O) rfl (gV (Il G (by simp) fun g1 z1 s1 => ?_)))))
 have Z1:Nr g1 z T O .ellipsis:=z1;clear z1;refine gV ?_;simp only [NK,QK,KP,Oz];refine gV (gV (Nz (gV (m:=nextOf (.ref i)) ?_)));refine nx_item (hi.up fun o e=>s1.extBut _ o D.i1z e) (ha.up fun o e=>s1.extBut _ o D.l1z e) hx fun g2 U s2=>r4 ?_;have O2:Kl g2 O p r:=s2.extBut _ _ D.TOi1 (s1.extBut _ _ D.TOz hO);refine gV (JE O2 rfl (gV (Mq O2 fun g3 o3 s3 => ?_)));have O3:Kl g3 O x r:=o3;clear o3;refine gV (OA (r4 (gV (gV (Nz (gV (m:=nextOf (.ref j)) ?_))))));refine nx_item (hj.up fun o e=>s3.extBut _ o D.TOi2.symm (s2.extBut _ o D.i12.symm (s1.extBut _ o D.i2z e))) (hb.up fun o e=>s3.extBut _ o D.l2TO (s2.extBut _ o D.l2i1 (s1.extBut _ o D.l2z e))) hy fun g4 Y s4=>r4 ?_;have O4:Kl g4 O x r:=s4.extBut _ _ D.TOi2 O3;refine gV (JE O4 rfl (gV (Mq O4 fun B o5 s5 => ?_)));have O5:Kl B O x y:=o5;clear o5;refine gV (OA (r4 (r4 (gV (JE O5 rfl (gV (OB ?_)))))));have sz:B.objs.size=s.heap.objs.size:=by rw [s5.1,s4.1,s3.1,s2.1,s1.1]
 have k5:∀ c o,c≠z->c≠O->c≠i->c≠j->s.heap.get? c=some o->B.get? c=some o:=fun c o F J Z c4 e =>
  s5.extBut _ _ J (s4.extBut _ _ c4 (s3.extBut _ _ J (s2.extBut _ _ Z (s1.extBut _ _ F e))))
 have Z5:Nr B z T O .ellipsis:=s5.extBut _ _ D.TOz.symm (s4.extBut _ _ D.i2z.symm (s3.extBut _ _ D.TOz.symm (s2.extBut _ _ D.i1z.symm Z1)));have I5:At t B i a (k+1):=U.up fun o e=>s5.extBut _ o D.TOi1.symm (s4.extBut _ o D.i12 (s3.extBut _ o D.TOi1.symm e));have J5:At u B j b (k+1):=Y.up fun o e=>s5.extBut _ o D.TOi2.symm e;have zl:z < B.objs.size:=Hq Z5;refine gV (m:=ownedTupleHandOut (.ref z) (.ref B.objs.size)) ?_;unfold ownedTupleHandOut;refine gV (Il (h7 _ Z5) (by simp) fun g7 z7 s7 => ?_)
 have Z7:Nr g7 z T O (Nv B.objs.size):=z7;clear z7;refine Il Z7 (by simp) fun L z8 s8 => ?_
 have Z8:Nr L z T O (Nv B.objs.size):=z8;clear z8;have up:∀ c o,c≠z->B.get? c=some o->L.get? c=some o:=fun c o F e=>s8.extBut _ _ F (s7.extBut _ _ F (h7 _ e));have P8:Kl L B.objs.size x y:=s8.extBut _ _ (JP zl) (s7.extBut _ _ (JP zl) (Hm _ rfl));rw [sz] at Z8 P8;refine r4 ⟨_,rfl, ?_⟩;show Q (.ref B.objs.size) _;rw [sz];exact q L Z8 (up _ _ D.TOz O5) (I5.up fun o e=>up _ o D.i1z e) (J5.up fun o e=>up _ o D.i2z e) P8 fun c o F J Z c4 e=>up c o F (k5 c o F J Z c4 e)
open Builtin.SmallTypes in
theorem DX {z T O i j a b:Addr} {t u:Bool} {k:Nat} {xs ys:Array h6} {p r:h6} {Q:Fin->hI->Prop} (hn:A.handled=none) (D:Oy z T O i j a b)
 (G:Nr s.heap z T O .none) (hT:Kl s.heap T (.ref i) (.ref j)) (hO:Kl s.heap O p r)
 (hi:At t s.heap i a k) (hj:At u s.heap j b k) (ha:Sq t s.heap a xs) (hb:Sq u s.heap b ys) (J:xs[k]? = none∨ys[k]? = none)
 (q:∀ h' e,(∀ c o,c≠z->c≠O->c≠i->c≠j->s.heap.get? c=some o->h'.get? c=some o)->(∃ o,h'.get? e=some o/\o.cls = .type "StopIteration")->E (.ref e) { s with heap:=h' }) :
 Ht (model prog w) A (JZ.«zip.__next__» ⟨[.ref z],[]⟩) Q E s:=by
 refine gV (m:=field (.ref z) 2) (Iz G rfl (x := .bool false) rfl ?_);refine gV (m:=field (.ref z) 3) (Iz G rfl (x := .ref T) rfl ?_);refine gV (JE hT rfl ?_);refine gV (m:=ownedTupleIsFree (.ref z)) ?_;unfold ownedTupleIsFree;refine gV (Iz G rfl (x := .none) rfl (r4 ?_));simp only [if_true];refine gV (Jq (gV (Iz G rfl (x := .ref O) rfl (gV (Il G (by simp) fun g1 z1 s1 => ?_)))))
 have Z1:Nr g1 z T O .ellipsis:=z1;clear z1;refine gV ?_;simp only [NK,QK,KP,Oz];refine gV (gV (Nz (gV (m:=nextOf (.ref i)) ?_)));have L:At t g1 i a k:=hi.up fun o e=>s1.extBut _ o D.i1z e;have U:Sq t g1 a xs:=ha.up fun o e=>s1.extBut _ o D.l1z e
 cases hx:xs[k]? with
 | none =>
   refine nx_end hn L U hx fun g2 e s2 he => ?_;obtain ⟨oe,B,F⟩:=he;have Z2:Nr g2 z T O .ellipsis:=s2 _ _ D.i1z.symm Z1;have ez:e≠z:=fun x=>by subst x;rw [Z2] at B;cases B;simp at F
   exact Il Z2 (by simp) fun g3 _ s3=>q g3 e (fun c o Y _ Z _ x=>s3.extBut _ _ Y (s2 _ _ Z (s1.extBut _ _ Y x))) ⟨oe,s3.extBut _ _ ez B,F⟩
 | some x =>
   have hy:ys[k]? = none:=J.elim (fun z=>by rw [hx] at z;cases z) id
   refine nx_item L U hx fun g2 F5 s2=>r4 ?_;have O2:Kl g2 O p r:=s2.extBut _ _ D.TOi1 (s1.extBut _ _ D.TOz hO);refine gV (JE O2 rfl (gV (Mq O2 fun g3 o3 s3 => ?_)));refine gV (OA (r4 (gV (gV (Nz (gV (m:=nextOf (.ref j)) ?_))))));refine nx_end hn (hj.up fun o e=>s3.extBut _ o D.TOi2.symm (s2.extBut _ o D.i12.symm (s1.extBut _ o D.i2z e))) (hb.up fun o e=>s3.extBut _ o D.l2TO (s2.extBut _ o D.l2i1 (s1.extBut _ o D.l2z e))) hy fun g4 e s4 he => ?_;obtain ⟨oe,B,F⟩:=he;have Z4:Nr g4 z T O .ellipsis:=s4 _ _ D.i2z.symm (s3.extBut _ _ D.TOz.symm (s2.extBut _ _ D.i1z.symm Z1));have ez:e≠z:=fun x=>by subst x;rw [Z4] at B;cases B;simp at F
   exact Il Z4 (by simp) fun g5 _ s5=>q g5 e (fun c o Y c2 Z c4 x=>s5.extBut _ _ Y (s4 _ _ c4 (s3.extBut _ _ c2 (s2.extBut _ _ Z (s1.extBut _ _ Y x))))) ⟨oe,s5.extBut _ _ ez B,F⟩
theorem nxt_item {z T O i j a b:Addr} {t u:Bool} {k:Nat} {xs ys:Array h6} {x y p r:h6} {Q:Option h6->hI->Prop} (D:Oy z T O i j a b)
 (B:Nr s.heap z T O .none) (G:Kl s.heap T (.ref i) (.ref j)) (J:Kl s.heap O p r)
 (hi:At t s.heap i a k) (L:At u s.heap j b k) (U:Sq t s.heap a xs) (Y:Sq u s.heap b ys) (hx:xs[k]? = some x) (Z:ys[k]? = some y)
 (q:∀ h',Nr h' z T O (Nv s.heap.objs.size)->Kl h' O x y->At t h' i a (k+1)->At u h' j b (k+1)->Kl h' s.heap.objs.size x y ->
   (∀ c o,c≠z->c≠O->c≠i->c≠j->s.heap.get? c=some o->h'.get? c=some o)->Q (some (.ref s.heap.objs.size)) { s with heap:=h' }) :
 Ht (model prog w) A (Lx (.ref z)) Q E s:=by
 have ty:s.TypeIs (.ref z) "zip" := ⟨_,B,rfl⟩;unfold Lx;exact gV (Km (Ij (name:=IP "__next__") ty Mv (Iq Mv ty Qe
  (Cp D B G J hi L U Y hx Z fun h' a1 a2 a3 a4 a5 a6=>r4 (q h' a1 a2 a3 a4 a5 a6)) (PR _))))
theorem nxt_end {z T O i j a b:Addr} {t u:Bool} {k:Nat} {xs ys:Array h6} {p r:h6} {Q:Option h6->hI->Prop} (J:A.handled=none) (D:Oy z T O i j a b)
 (G:Nr s.heap z T O .none) (L:Kl s.heap T (.ref i) (.ref j)) (U:Kl s.heap O p r)
 (hi:At t s.heap i a k) (Y:At u s.heap j b k) (Z:Sq t s.heap a xs) (hb:Sq u s.heap b ys) (B:xs[k]? = none∨ys[k]? = none)
 (q:∀ h',(∀ c o,c≠z->c≠O->c≠i->c≠j->s.heap.get? c=some o->h'.get? c=some o)->Q none { s with heap:=h' }):Ht (model prog w) A (Lx (.ref z)) Q E s:=by
 have ty:s.TypeIs (.ref z) "zip" := ⟨_,G,rfl⟩;unfold Lx;refine gV (Km (Ij (name:=IP "__next__") ty Mv (Iq Mv ty Qe
  (DX J D G L U hi Y Z hb B fun h' e hk he => ?_) (PR _))))
 obtain ⟨o,ho,hc⟩:=he;exact gV (JU (T := "StopIteration") (b:=true) ⟨o,ho,hc⟩ OC (r4 (q _ hk)))
noncomputable def itO (t:Bool) (l:Addr):Obj:=match t with | true => { cls := .type "tuple_iterator",data := .fields #[.ref l, .int 0 0] } | false => { cls := .type "list_iterator",data := .fields #[.ref l, .int 0 0] }
noncomputable def zH1 (h:Heap) (t:Bool) (a:Addr):Heap:=h.push (itO t a)
noncomputable def zH2 (h:Heap) (t u:Bool) (a b:Addr):Heap:=(zH1 h t a).push (itO u b)
noncomputable def zH3 (h:Heap) (t u:Bool) (a b:Addr):Heap:=(zH2 h t u a b).push { cls := .type "tuple",data := .seq #[.ref h.objs.size, .ref (zH1 h t a).objs.size] }
noncomputable def zH4 (h:Heap) (t u:Bool) (a b:Addr):Heap:=(zH3 h t u a b).push { cls := .type "tuple",data := .seq #[.none, .none] }
noncomputable def zH5 (h:Heap) (t u:Bool) (a b:Addr):Heap:=(zH4 h t u a b).push { cls := .type "zip",data := .fields #[.none, .bool false, .bool false, .ref (zH2 h t u a b).objs.size, .ref (zH3 h t u a b).objs.size] }
theorem uM (t u:Bool) (a b:Addr) (xs ys:Array h6) :
 Meets (JZ.«zip.__new__» ⟨[.type "zip", .ref a, .ref b],[]⟩) (fun _ R s=>Sq t s.heap a xs/\Sq u s.heap b ys/\R (.ok (.ret (.ref (zH4 s.heap t u a b).objs.size))) { s with heap:=zH5 s.heap t u a b }) :=
 .of_wp fun prog w A R s h=>by
  obtain ⟨j,g,d,tk,os⟩:=s;obtain ⟨q,z,h⟩:=h;have hs:=sub_zip
  cases t <;> cases u
  ·have e1:OD (Kw ⟨j,g,d,tk,os⟩) a xs:=q;have e2:OD (Kw ⟨j.push { cls := .type "list_iterator",data := .fields #[.ref a, .int 0 0] },g,d,tk,os⟩) b ys:=Qf z _
   wp_walk using Jr e1,Jr e2
   exact ⟨_,rfl,h⟩
  ·have e1:OD (Kw ⟨j,g,d,tk,os⟩) a xs:=q;have e2:MJ (Kw ⟨j.push { cls := .type "list_iterator",data := .fields #[.ref a, .int 0 0] },g,d,tk,os⟩) b ys:=PU z _
   wp_walk using Jr e1,Jj e2
   exact ⟨_,rfl,h⟩
  ·have e1:MJ (Kw ⟨j,g,d,tk,os⟩) a xs:=q;have e2:OD (Kw ⟨j.push { cls := .type "tuple_iterator",data := .fields #[.ref a, .int 0 0] },g,d,tk,os⟩) b ys:=Qf z _
   wp_walk using Jj e1,Jr e2
   exact ⟨_,rfl,h⟩
  ·have e1:MJ (Kw ⟨j,g,d,tk,os⟩) a xs:=q;have e2:MJ (Kw ⟨j.push { cls := .type "tuple_iterator",data := .fields #[.ref a, .int 0 0] },g,d,tk,os⟩) b ys:=PU z _
   wp_walk using Jj e1,Jj e2
   exact ⟨_,rfl,h⟩
theorem at_new {t:Bool} {h:Heap} {i l:Addr} (e:h.get? i=some (itO t l)):At t h i l 0:=by
 cases t <;> exact ⟨_,e,rfl,rfl⟩
theorem call_zip {t u:Bool} {a b:Addr} {xs ys:Array h6} {Q:h6->hI->Prop} (ha:Sq t s.heap a xs) (hb:Sq u s.heap b ys)
 (q:∀ h',Nr h' (s.heap.objs.size+4) (s.heap.objs.size+2) (s.heap.objs.size+3) .none->Kl h' (s.heap.objs.size+2) (.ref s.heap.objs.size) (.ref (s.heap.objs.size+1)) ->
   Kl h' (s.heap.objs.size+3) .none .none->At t h' s.heap.objs.size a 0->At u h' (s.heap.objs.size+1) b 0->h'.objs.size=s.heap.objs.size+5 ->
   (∀ c o,s.heap.get? c=some o->h'.get? c=some o)->Q (.ref (s.heap.objs.size+4)) { s with heap:=h' }) :
 Ht (model prog w) A (call (.type "zip") [.ref a, .ref b]) Q E s:=by
 refine callType_new F.called_zip (by decide) (F.typeCall_zip_2 _ _) (F.newCall_zip_2 _ _) (fun obj=>F.args_object_init_3 obj _ _) F.entry_zip_new (uM t u a b xs ys) ⟨ha,hb, ?_⟩
 have B:(zH1 s.heap t a).objs.size=s.heap.objs.size+1:=Jh ..;have G:(zH2 s.heap t u a b).objs.size=s.heap.objs.size+2:=by unfold zH2;rw [Jh,B]
 have J:(zH3 s.heap t u a b).objs.size=s.heap.objs.size+3:=by unfold zH3;rw [Jh,G]
 have L:(zH4 s.heap t u a b).objs.size=s.heap.objs.size+4:=by unfold zH4;rw [Jh,J]
 have z5:(zH5 s.heap t u a b).objs.size=s.heap.objs.size+5:=by unfold zH5;rw [Jh,L]
 have j:∀ {c o},(zH4 s.heap t u a b).get? c=some o->(zH5 s.heap t u a b).get? c=some o:=fun e=>h7 _ e;have z:∀ {c o},(zH3 s.heap t u a b).get? c=some o->(zH4 s.heap t u a b).get? c=some o:=fun e=>h7 _ e;have O:∀ {c o},(zH2 s.heap t u a b).get? c=some o->(zH3 s.heap t u a b).get? c=some o:=fun e=>h7 _ e;have Y:∀ {c o},(zH1 s.heap t a).get? c=some o->(zH2 s.heap t u a b).get? c=some o:=fun e=>h7 _ e;have k1:∀ {c o},s.heap.get? c=some o->(zH1 s.heap t a).get? c=some o:=fun e=>h7 _ e;have f:∀ t l,(itO t l).isFreed=false:=fun t l=>by cases t <;> rfl
 have U:(zH5 s.heap t u a b).get? (zH4 s.heap t u a b).objs.size=some _:=Hm _ rfl;have Z:(zH5 s.heap t u a b).get? (zH3 s.heap t u a b).objs.size=some _:=j (Hm _ rfl);have g3:(zH5 s.heap t u a b).get? (zH2 s.heap t u a b).objs.size=some _:=j (z (Hm _ rfl));have g2:(zH5 s.heap t u a b).get? (zH1 s.heap t a).objs.size=some _:=j (z (O (Hm _ (f u b))));have g1:(zH5 s.heap t u a b).get? s.heap.objs.size=some _:=j (z (O (Y (Hm _ (f t a)))));show _/\_;rw [G,J,L] at U;rw [B,G] at g3;rw [J] at Z;rw [B] at g2;rw [L];exact ⟨⟨_,U,rfl⟩,q _ U g3 Z (at_new g1) (at_new g2) z5 fun c o x=>j (z (O (Y (k1 x))))⟩
end
end Zp
end L2
namespace L2
open PySem PySem.Spec PyProof.Rows
section
section
variable {X:Cx} {pins:List (Addr×Obj)} {σ:St} {H:Hp} {s:hI} {h':Heap}
theorem Inv.turnedL {t':Nat} {fp:List Addr} (I:Inv X pins σ H s) (hf:∀ b∈fp,cB X pins H b) (k:∀ b o,b∉fp->s.heap.get? b=some o->h'.get? b=some o):Inv X pins σ H { s with heap:=h',toks:=t' }:=by
 have nit:∀ b u,H b=some u->b∉fp:=fun b u e z=>by rw [(hf b z).1] at e;cases e
 refine I.step (g':=s.gens) (d':=s.drawn) (ch:=fp) (fun b B => ?_) (fun b o _ _ j e _=>k b o j e) (fun b o _ _ j e _=>⟨o.slots,k b o j e⟩) (fun _ _ _ _ n=>n)
  (fun b o j e=>⟨o,k b o j e⟩) (fun _ _ e=>e) (fun _ _ _ e=>e) (fun b ps e=>⟨#[],by rw [e];simp⟩) (fun m hm => ?_) (fun b u e => ?_) I.bare
 ·obtain ⟨_,f1,_,F,f4,G⟩:=hf b B;exact ⟨F,f1,f4,G⟩
 ·obtain ⟨o,es,ep,ho,r⟩:=hm;exact ⟨o,es,ep,k _ o (fun z=>(hf _ z).2.1 rfl) ho,r⟩
 ·refine (I.hok b u e).stay (fun c v j q=>k c v ?_ q) (fun _ q=>q) fun _ _ q=>q
  rcases j with z | z
  ·rw [z];exact nit b u e
  ·exact nit c _ z
end
def SqV (K:Frag) (t:Bool) (H:Hp) (a:Addr) (xs:List V):Prop:=match t with | true=>SqT K H a xs | false=>SqL K H a xs
theorem Inv.sqv {X:Cx} {pins:List (Addr×Obj)} {σ:St} {H:Hp} {s:hI} {t:Bool} {a:Addr} {xs:List V} (I:Inv X pins σ H s) (h:SqV X.K t H a xs):∃ its:List h6,Vals xs its/\Zp.Sq t s.heap a its.toArray:=by
 cases t with
 | true=>obtain ⟨its,r,p,_⟩:=I.tuple h;exact ⟨its,r,p⟩
 | false=>obtain ⟨its,r,p,_⟩:=I.list h;exact ⟨its,r,p.isList⟩
theorem Inv.sqv_inj {X:Cx} {pins:List (Addr×Obj)} {σ:St} {H:Hp} {s:hI} {t:Bool} {a:Addr} {xs ys:List V} (I:Inv X pins σ H s) (h:SqV X.K t H a xs) (h':SqV X.K t H a ys):xs=ys:=by
 cases t with
 | true=>exact I.tuple_inj h h'
 | false=>exact I.list_inj h h'
noncomputable def Itz (K:Frag) (t u:Bool) (a b:Addr):It :=
 ⟨fun i H => ∃ xs ys x y,SqV K t H a xs/\SqV K u H b ys/\xs[i]? = some x/\ys[i]? = some y,
  fun i H v H' => ∃ p x y,H p=none/\v = .ref p/\H'=upd H p (.tup [x,y]) /\ ∀ xs ys,SqV K t H a xs->SqV K u H b ys->xs[i]? = some x/\ys[i]? = some y,
  fun i H => ∃ xs ys,SqV K t H a xs/\SqV K u H b ys/\(xs.length<=i∨ys.length<=i)⟩
theorem xK {P:HK} {w:Ie} {K:Frag} {elts:List Expr} {cx} {pos:Pos} {t u:Bool} {z T O i j a b:Addr} (D:Oy z T O i j a b) :
 gn P w K (.Tuple elts cx pos) (Itz K t u a b) [z,T,O,i,j] z (fun k h=>Nr h z T O .none/\Kl h T (.ref i) (.ref j)/\(∃ p r,Kl h O p r)/\Zp.At t h i a k/\Zp.At u h j b k) where
 mem:=by simp
 obj:=fun k h ⟨B,F,⟨p,r,G⟩,hi,J⟩ c q=>by
  simp only [Ho,HZ,or_false] at q
  rcases q with rfl | rfl | rfl | rfl | rfl
  ·exact ⟨_,B,fun v e=>by cases e⟩
  ·exact ⟨_,F,fun v e=>by cases e⟩
  ·exact ⟨_,G,fun v e=>by cases e⟩
  ·exact hi.lt
  ·exact J.lt
 keep:=fun k h h' ⟨B,F,⟨p,r,G⟩,hi,J⟩ kk=>⟨kk z (by simp) _ B,kk T (by simp) _ F,⟨p,r,kk O (by simp) _ G⟩,hi.up fun o e=>kk i (by simp) o e,J.up fun o e=>kk j (by simp) o e⟩
 item:=by
  intro X Y hw Z q k pins s σ H E I hf st hg;subst Y hw Z;obtain ⟨B,F,⟨p,r,G⟩,hi,J⟩:=st;obtain ⟨xs,ys,x,y,qx,qy,ex,ey⟩:=hg;obtain ⟨is,rx,px⟩:=I.sqv qx;obtain ⟨js,ry,py⟩:=I.sqv qy;obtain ⟨ux,F5,rux⟩:=rx.get ex;obtain ⟨uy,F6,ruy⟩:=ry.get ey;refine Zp.nxt_item D B F G hi J px py (by simpa using F5) (by simpa using F6) fun h1 z1 o1 i1 j1 p1 U=>⟨_,rfl, ?_⟩
  refine wpAny_letOwnedTupleGo_zip (s := { s with heap:=h1 }) z1 fun h2 z2 s2 => ?_
  have lt:∀ {c o},s.heap.get? c=some o->c≠s.heap.objs.size:=fun e=>HV (Hq e);have nz:s.heap.objs.size≠z:=(lt B).symm;have F7:∃ o,s.heap.get? i=some o:=hi.lt.imp fun _ h=>h.1;have F8:∃ o,s.heap.get? j=some o:=J.lt.imp fun _ h=>h.1;have up:∀ c o,c≠z->h1.get? c=some o->h2.get? c=some o:=fun c o n e=>s2.extBut _ _ n e;have IL:Inv X pins σ (upd H s.heap.objs.size (.tup [x,y])) { s with heap:=s.heap.push { cls := .type "tuple",data := .seq #[ux,uy] },toks:=s.toks } :=
   I.laid (fun b o e=>h7 _ e) (Hr _) ⟨by rw [tv];simp,[ux,uy], .cons rux (.cons ruy .nil),MU _ _⟩
  have fr:∀ c∈[z,T,O,i,j],c≠s.heap.objs.size:=fun c q=>by
   simp only [Ho,HZ,or_false] at q
   rcases q with rfl | rfl | rfl | rfl | rfl
   ·exact lt B
   ·exact lt F
   ·exact lt G
   ·obtain ⟨o,e⟩:=F7;exact lt e
   ·obtain ⟨o,e⟩:=F8;exact lt e
  have un:∀ c∈[z,T,O,i,j],upd H s.heap.objs.size (.tup [x,y]) c=none:=fun c q=>by
   rw [am (fr c q)];exact (hf c q).1
  have kk:∀ c o,c∉[z,T,O,i,j]->(s.heap.push { cls := .type "tuple",data := .seq #[ux,uy] }).get? c=some o->h2.get? c=some o:=fun c o q e=>by
   simp only [Ho,HZ,or_false,not_or] at q
   rcases OE e with ⟨rfl,rfl⟩ | e
   ·exact up _ _ nz p1
   ·exact up _ _ q.1 (U c o q.1 q.2.2.1 q.2.2.2.1 q.2.2.2.2 e)
  have I2:Inv X pins σ (upd H s.heap.objs.size (.tup [x,y])) { s with heap:=h2,toks:=s.toks } :=
   (Inv.turnedL (s := { s with heap:=s.heap.push { cls := .type "tuple",data := .seq #[ux,uy] },toks:=s.toks }) (h':=h2) (t':=s.toks) (fp := [z,T,O,i,j]) IL (fun c q=>⟨un c q,(hf c q).2⟩) kk)
  refine ⟨.ref s.heap.objs.size,_,I2,rfl,⟨_,x,y,I.hok.fresh (Hr _),rfl,rfl,fun xs' ys' q1 q2 => ?_⟩,⟨z2,up _ _ D.TIz (U _ _ D.TIz D.TITO D.TIi1 D.TIi2 F),⟨_,_,up _ _ D.TOz o1⟩,i1.up fun o e=>up _ o D.i1z e,j1.up fun o e=>up _ o D.i2z e⟩,un⟩;rw [I.sqv_inj q1 qx,I.sqv_inj q2 qy];exact ⟨ex,ey⟩
 done:=by
  intro X Y hw Z q k pins s σ H E I hf st hg;subst Y hw Z;obtain ⟨B,F,⟨p,r,G⟩,hi,J⟩:=st;obtain ⟨xs,ys,qx,qy,L⟩:=hg;obtain ⟨is,rx,px⟩:=I.sqv qx;obtain ⟨js,ry,py⟩:=I.sqv qy;have lx:=rx.length;have ly:=ry.length;refine Zp.nxt_end (I.ok.hd q) D B F G hi J px py (L.imp (fun e=>by simp;lia) (fun e=>by simp;lia)) fun h1 U=>⟨rfl,I.turnedL (t':=s.toks) hf fun c o q e => ?_⟩
  simp only [Ho,HZ,or_false,not_or] at q;exact U c o q.1 q.2.2.1 q.2.2.2.1 q.2.2.2.2 e
 self:=fun A k s Q E st h=>Qg st.1 h
section
variable {X:Cx}
noncomputable def EU (K:Frag) (ta:TA):TI:=fun σ H R=>ta σ H fun vs H1 => ∃ a b t u xs ys,vs=[.ref a, .ref b]/\SqV K t H1 a xs/\SqV K u H1 b ys/\R (Itz K t u a b) H1
theorem Cq {elts:List Expr} {cx} {pos p pos':Pos} {a b:Expr} {ta:TA} (G:Gl X "zip") (hm:X.mg "zip" = none) (J:PA X [a,b] ta) (hs:HP [a,b] X.env=[(false,eval a X.env),(false,eval b X.env)]) (j:HP [b] X.env=[(false,eval b X.env)]) :
 PI X (.Tuple elts cx pos) (.Call (.Name "zip" p) [a,b] [] pos') (EU X.K ta):=by
 intro pins s σ H R I h;refine Call_ (dz I G hm (u := .type "zip") (by decide +kernel) (J1 (thn (J pos' pins s σ H _ I h) fun us s1 ⟨vs,H1,z,L,O⟩ => ?_) (by rw [hs,j]) (by rw [j];rfl)))
 obtain ⟨a',b',t,u,xs,ys,rfl,qx,qy,q⟩:=O
 cases L with
 | cons r rr =>
   cases rr with
   | cons r' rr =>
     cases rr
     cases r
     cases r'
     obtain ⟨is,rx,px⟩:=z.sqv qx;obtain ⟨js,ry,py⟩:=z.sqv qy;refine Zp.call_zip px py fun h1 B t1 U Y Z sz k1 => ?_;refine Qg B ?_;have la:a' < s1.heap.objs.size:=by cases t <;> (obtain ⟨o,e,_⟩:=px;exact Hq e)
     have lb:b' < s1.heap.objs.size:=by cases u <;> (obtain ⟨o,e,_⟩:=py;exact Hq e)
     have D:Oy (s1.heap.objs.size+4) (s1.heap.objs.size+2) (s1.heap.objs.size+3) s1.heap.objs.size (s1.heap.objs.size+1) a' b':=by constructor <;> (intro e;subst_vars;first | lia | (simp only [Addr] at *;lia))
     refine ⟨_,_,_,_,H1,rfl,z.kept (t':=s1.toks) k1,xK (t:=t) (u:=u) D,⟨B,t1,⟨_,_,U⟩,Y,Z⟩,fun c F => ?_,q⟩;have hle:s1.heap.objs.size<=c:=by
      simp only [Ho,HZ,or_false] at F
      rcases F with rfl | rfl | rfl | rfl | rfl <;> lia
     exact z.fpOk hle (z.hok.fresh hle)
end
end
end L2
namespace L2
namespace Zp
open PySem PySem.Spec PyProof.Rows
end Zp
open PySem PySem.Spec PyProof.Rows
end L2
namespace L2
namespace En
open PySem PySem.Spec PyProof.Rows
section
variable {prog:HK} {w:Ie} {A:Io} {E:h6->hI->Prop} {s:hI}
open Builtin.SmallTypes Zp in
theorem Cr {z i a:Addr} {t:Bool} {k:Nat} {xs:Array h6} {x old:h6} {Q:h6->hI->Prop} (U:O6 s.heap z i k old) (hi:At t s.heap i a k) (ha:Sq t s.heap a xs) (hx:xs[k]? = some x) (j:z≠i)
 (q:∀ h',Qh h' z i ((k:Int)+1) x s.heap.objs.size->At t h' i a (k+1)->h'.get? s.heap.objs.size=some { cls := .type "tuple",data := .seq #[.int k s.toks,x] } ->
   (∀ b o,b≠z->b≠i->s.heap.get? b=some o->h'.get? b=some o)->Q (.ref s.heap.objs.size) { s with heap:=h',toks:=s.toks+1 }) :
 Ht (model prog w) A (JZ.«enumerate.__next__» ⟨[.ref z],[]⟩) (fun fin s' => ∃ v,fin = .done (.ret v)/\Q v s') E s:=by
 obtain ⟨B,g,d,tk,os⟩:=s;refine gV (m:=field (.ref z) 2) (Iz U rfl (x := .ref i) rfl (gV (nx_item hi ha hx fun g1 i1 s1 => ?_)));have S1:J6 i B g1:=s1;clear s1;have Y:O6 g1 z i k old:=(S1.2 z j).trans U;refine gV (m:=field (.ref z) 3) (Iz (s:=⟨g1,g,d,tk,os⟩) Y rfl (x:=Nv k) rfl ?_);refine gV (m:=field (.ref z) 4) (Iz (s:=⟨g1,g,d,tk,os⟩) Y rfl (x := .none) rfl ?_);refine gV (m:=mkInt k) (wpAny_mkInt ?_);refine gV (m:=setField (.ref z) 3 (Nv ((k:Int)+1))) (Il (s:=⟨g1,g,d,tk+1,os⟩) Y (by simp) fun g2 Z s2 => ?_)
 have S2:J6 z g1 g2:=s2;have Z2:O6 g2 z i ((k:Int)+1) old:=Z;clear s2 Z;refine gV (m:=setField (.ref z) 4 .none) (Il (s:=⟨g2,g,d,tk+1,os⟩) Z2 (by simp) fun g3 z3 s3 => ?_)
 have S3:J6 z g2 g3:=s3;have Z3:O6 g3 z i ((k:Int)+1) old:=z3;clear s3 z3;refine gV (m:=newTuple [.int k tk,x]) (OB ?_);have G:O6 (g3.push { cls := .type "tuple",data := .seq #[.int k tk,x] }) z i ((k:Int)+1) old:=h7 _ Z3;have sz:g3.objs.size=B.objs.size:=by rw [S3.1,S2.1,S1.1]
 have zl:z < B.objs.size:=Hq U;have T4:(g3.push { cls := .type "tuple",data := .seq #[.int k tk,x] }).get? B.objs.size=some { cls := .type "tuple",data := .seq #[.int k tk,x] }:=by rw [<- sz];exact Hm _ rfl
 have K4:∀ b o,b≠z->b≠i->B.get? b=some o->(g3.push { cls := .type "tuple",data := .seq #[.int k tk,x] }).get? b=some o:=fun b o bz bi e =>
  h7 _ (S3.extBut b o bz (S2.extBut b o bz (S1.extBut b o bi e)))
 have I4:At t (g3.push { cls := .type "tuple",data := .seq #[.int k tk,x] }) i a (k+1):=i1.up fun o e=>h7 _ (S3.extBut i o j.symm (S2.extBut i o j.symm e));rw [sz];generalize g3.push { cls := .type "tuple",data := .seq #[.int k tk,x] }=F at G T4 K4 I4;refine gV (m:=ownedTupleIsFree (.ref z)) ?_;unfold ownedTupleIsFree;refine gV (Iz (s:=⟨F,g,d,tk+1,os⟩) G rfl (x := .none) rfl (r4 ?_));simp only [if_true];refine gV (Jq (gV (Iz (s:=⟨F,g,d,tk+1,os⟩) G rfl (x:=old) rfl (gV (Il (s:=⟨F,g,d,tk+1,os⟩) G (by simp) fun J z5 s5 => ?_)))))
 have S5:J6 z F J:=s5;have Z5:O6 J z i ((k:Int)+1) x:=z5;clear s5 z5;refine gV (m:=ownedTupleHandOut (.ref z) (.ref B.objs.size)) ?_;unfold ownedTupleHandOut;refine gV (Il (s:=⟨J,g,d,tk+1,os⟩) Z5 (by simp) fun L z6 s6 => ?_)
 have S6:J6 z J L:=s6;have Z6:Qh L z i ((k:Int)+1) x B.objs.size:=z6;clear s6 z6;refine Il (s:=⟨L,g,d,tk+1,os⟩) Z6 (by simp) fun O z7 s7 => ?_
 have S7:J6 z L O:=s7;have Z7:Qh O z i ((k:Int)+1) x B.objs.size:=z7;clear s7 z7;have up:∀ b o,b≠z->F.get? b=some o->O.get? b=some o:=fun b o bz e=>S7.extBut b o bz (S6.extBut b o bz (S5.extBut b o bz e));exact gV (OA (r4 ⟨_,rfl,q O Z7 (I4.up fun o e=>up i o j.symm e) (up _ _ (JP zl) T4) fun b o bz bi e=>up b o bz (K4 b o bz bi e)⟩))
theorem nxt_item {z i a:Addr} {t:Bool} {k:Nat} {xs:Array h6} {x old:h6} {Q:Option h6->hI->Prop} (B:O6 s.heap z i k old) (hi:Zp.At t s.heap i a k) (G:Zp.Sq t s.heap a xs) (hx:xs[k]? = some x) (j:z≠i)
 (q:∀ h',Qh h' z i ((k:Int)+1) x s.heap.objs.size->Zp.At t h' i a (k+1)->h'.get? s.heap.objs.size=some { cls := .type "tuple",data := .seq #[.int k s.toks,x] } ->
   (∀ b o,b≠z->b≠i->s.heap.get? b=some o->h'.get? b=some o)->Q (some (.ref s.heap.objs.size)) { s with heap:=h',toks:=s.toks+1 }) :
 Ht (model prog w) A (Lx (.ref z)) Q E s:=by
 have ty:s.TypeIs (.ref z) "enumerate" := ⟨_,B,rfl⟩;unfold Lx;exact gV (Km (Ij (name:=IP "__next__") ty KU (Iq KU ty O7
  (Cr B hi G hx j fun h' a1 a2 J L=>r4 (q h' a1 a2 J L)) (NL _))))
theorem nxt_end {z i a:Addr} {t:Bool} {k:Nat} {xs:Array h6} {old:h6} {Q:Option h6->hI->Prop} (B:A.handled=none) (j:O6 s.heap z i k old) (hi:Zp.At t s.heap i a k) (G:Zp.Sq t s.heap a xs) (hx:xs[k]? = none)
 (q:∀ h',Qy i s.heap h'->Q none { s with heap:=h' }):Ht (model prog w) A (Lx (.ref z)) Q E s:=by
 have ty:s.TypeIs (.ref z) "enumerate" := ⟨_,j,rfl⟩;unfold Lx;refine gV (Km (Ij (name:=IP "__next__") ty KU (Iq KU ty O7 ?_ (NL _))));refine gV (m:=field (.ref z) 2) (Iz j rfl (x := .ref i) rfl (gV (Zp.nx_end B hi G hx fun h' x he hs => ?_)));obtain ⟨o,ho,J⟩:=hs;exact gV (JU (T := "StopIteration") (b:=true) ⟨o,ho,J⟩ OC (r4 (q _ he)))
open AutoSeq1 (wpAny_loadPart') in
theorem Aq (l:Addr) (items:Array h6) (n:Nat) (dct:Option Addr) (sl:Array (Option h6)) :
 Meets (JZ.«enumerate.__new__» ⟨[.type "enumerate", .ref l],[]⟩) (fun _ R s=>s.heap.get? l=some { cls := .type "tuple",dict:=dct,data := .seq items n,slots:=sl } /\
  R (.ok (.ret (.ref (s.heap.push (Zp.itO true l)).objs.size))) { s with heap:=(s.heap.push (Zp.itO true l)).push { cls := .type "enumerate",data := .fields #[.none, .bool false, .ref s.heap.objs.size,Nv 0, .none, .none] } }) :=
 .of_wp fun prog w A R s h=>by
  obtain ⟨B,g,d,tk,os⟩:=s;obtain ⟨j,h⟩:=h;have q:=sub_enumerate;have z:MJ (Kw ⟨B,g,d,tk,os⟩) l items:=⟨_,j,rfl,n,rfl⟩
  wp_walk using KR j
  refine wpAny_stack_any fun st=>r4 ?_
  split
  ·rename_i c _ _ _ _ _
   cases (c==IZ "enumerate") <;> (wp_walk using KR j,Jj z;exact ⟨_,rfl,h⟩)
  ·wp_walk using KR j,Jj z
   exact ⟨_,rfl,h⟩
theorem call_enum {t:Bool} {l:Addr} {items:Array h6} {Q:h6->hI->Prop} (B:Zp.Sq t s.heap l items)
 (q:∀ h',O6 h' (s.heap.objs.size+1) s.heap.objs.size 0 .none->Zp.At t h' s.heap.objs.size l 0->(∀ b o,s.heap.get? b=some o->h'.get? b=some o)->Q (.ref (s.heap.objs.size+1)) { s with heap:=h' }) :
 Ht (model prog w) A (call (.type "enumerate") [.ref l]) Q E s:=by
 cases t with
 | false=>exact call_enumerate_list B fun h' a b _ k=>q h' a b k
 | true =>
   obtain ⟨⟨c,dct,dt,sl⟩,J,L,n,hd⟩:=B;have j:c = .type "tuple" := L;have z:dt = .seq items n:=hd;subst j z;refine callType_new F.called_enumerate (by decide) (F.typeCall_enumerate_1 _) (F.newCall_enumerate_1 _) (fun obj=>F.args_object_init_2 obj _) F.entry_enumerate_new (Aq l items n dct sl) ⟨J, ?_⟩
   have G:(s.heap.push (Zp.itO true l)).objs.size=s.heap.objs.size+1:=Jh ..;have e:((s.heap.push (Zp.itO true l)).push { cls := .type "enumerate",data := .fields #[.none, .bool false, .ref s.heap.objs.size,Nv 0, .none, .none] }).get? (s.heap.push (Zp.itO true l)).objs.size=some _:=Hm _ rfl;rw [G] at e;show _/\_;rw [G];exact ⟨⟨_,e,rfl⟩,q _ e (Zp.at_new (h7 _ (Hm _ rfl))) fun b o x=>h7 _ (h7 _ x)⟩
end
end En
open PySem PySem.Spec PyProof.Rows
noncomputable def Ite (K:Frag) (t:Bool) (a:Addr):It :=
 ⟨fun i H => ∃ xs x,SqV K t H a xs/\xs[i]? = some x,
  fun i H v H' => ∃ p x,H p=none/\v = .ref p/\H'=upd H p (.tup [.int (i:Nat),x]) /\ ∀ xs,SqV K t H a xs->xs[i]? = some x,
  fun i H => ∃ xs,SqV K t H a xs/\xs.length<=i⟩
theorem uN {P:HK} {w:Ie} {K:Frag} {elts:List Expr} {cx} {pos:Pos} {t:Bool} {z i a:Addr} (B:z≠i) :
 gn P w K (.Tuple elts cx pos) (Ite K t a) [z,i] z (fun k h=>(∃ old,O6 h z i k old)/\Zp.At t h i a k) where
 mem:=by simp
 obj:=fun k h ⟨⟨old,q⟩,hi⟩ c j=>by
  simp only [Ho,HZ,or_false] at j
  rcases j with rfl | rfl
  ·exact ⟨_,q,fun v e=>by cases e⟩
  ·exact hi.lt
 keep:=fun k h h' ⟨⟨old,q⟩,hi⟩ kk=>⟨⟨old,kk z (by simp) _ q⟩,hi.up fun o e=>kk i (by simp) o e⟩
 item:=by
  intro X F hw G j k pins s σ H E I hf st hg;subst F hw G;obtain ⟨⟨old,q⟩,hi⟩:=st;obtain ⟨xs,x,qx,ex⟩:=hg;obtain ⟨is,rx,px⟩:=I.sqv qx;obtain ⟨ux,J,rux⟩:=rx.get ex;refine En.nxt_item q hi px (by simpa using J) B fun h1 Y Z p1 L=>⟨_,rfl, ?_⟩
  refine wpAny_letOwnedTupleGo_enum (s := { s with heap:=h1,toks:=s.toks+1 }) Y fun h2 z2 s2 => ?_
  have lt:∀ {c o},s.heap.get? c=some o->c≠s.heap.objs.size:=fun e=>HV (Hq e);have nz:s.heap.objs.size≠z:=(lt q).symm;have O:∃ o,s.heap.get? i=some o:=hi.lt.imp fun _ h=>h.1;have up:∀ c o,c≠z->h1.get? c=some o->h2.get? c=some o:=fun c o n e=>s2.extBut _ _ n e;have IL:Inv X pins σ (upd H s.heap.objs.size (.tup [.int (k:Nat),x])) { s with heap:=s.heap.push { cls := .type "tuple",data := .seq #[.int k s.toks,ux] },toks:=s.toks+1 } :=
   I.laid (fun b o e=>h7 _ e) (Hr _) ⟨by rw [tv];simp,[.int k s.toks,ux], .cons ⟨_,rfl⟩ (.cons rux .nil),MU _ _⟩
  have fr:∀ c∈[z,i],c≠s.heap.objs.size:=fun c j=>by
   simp only [Ho,HZ,or_false] at j
   rcases j with rfl | rfl
   ·exact lt q
   ·obtain ⟨o,e⟩:=O;exact lt e
  have un:∀ c∈[z,i],upd H s.heap.objs.size (.tup [.int (k:Nat),x]) c=none:=fun c j=>by
   rw [am (fr c j)];exact (hf c j).1
  have kk:∀ c o,c∉[z,i]->(s.heap.push { cls := .type "tuple",data := .seq #[.int k s.toks,ux] }).get? c=some o->h2.get? c=some o:=fun c o j e=>by
   simp only [Ho,HZ,or_false,not_or] at j
   rcases OE e with ⟨rfl,rfl⟩ | e
   ·exact up _ _ nz p1
   ·exact up _ _ j.1 (L c o j.1 j.2 e)
  have I2:Inv X pins σ (upd H s.heap.objs.size (.tup [.int (k:Nat),x])) { s with heap:=h2,toks:=s.toks+1 } :=
   Inv.turnedL (s := { s with heap:=s.heap.push { cls := .type "tuple",data := .seq #[.int k s.toks,ux] },toks:=s.toks+1 }) (h':=h2) (t':=s.toks+1) (fp := [z,i]) IL (fun c j=>⟨un c j,(hf c j).2⟩) kk
  refine ⟨.ref s.heap.objs.size,_,I2,rfl,⟨_,x,I.hok.fresh (Hr _),rfl,rfl,fun xs' q1 => ?_⟩,⟨⟨ux,by simpa using z2⟩,Z.up fun o e=>up _ o B.symm e⟩,un⟩
  rw [I.sqv_inj q1 qx];exact ex
 done:=by
  intro X F hw G j k pins s σ H E I hf st hg;subst F hw G;obtain ⟨⟨old,q⟩,hi⟩:=st;obtain ⟨xs,qx,U⟩:=hg;obtain ⟨is,rx,px⟩:=I.sqv qx;have lx:=rx.length;refine En.nxt_end (I.ok.hd j) q hi px (by simp;lia) fun h1 L=>⟨rfl,I.turnedL (t':=s.toks) hf fun c o j e => ?_⟩
  simp only [Ho,HZ,or_false,not_or] at j;exact L c o j.2 e
 self:=fun A k s Q E ⟨⟨old,q⟩,_⟩ h=>PV q h
section
variable {X:Cx}
noncomputable def DY (K:Frag) (ta:TA):TI:=fun σ H R=>ta σ H fun vs H1 => ∃ a t xs,vs=[.ref a]/\SqV K t H1 a xs/\R (Ite K t a) H1
theorem Ar {elts:List Expr} {cx} {pos p pos':Pos} {a:Expr} {ta:TA} (F:Gl X "enumerate") (hm:X.mg "enumerate" = none) (G:PA X [a] ta) (hs:HP [a] X.env=[(false,eval a X.env)]) :
 PI X (.Tuple elts cx pos) (.Call (.Name "enumerate" p) [a] [] pos') (DY X.K ta):=by
 intro pins s σ H R I h;refine Call_ (dz I F hm (u := .type "enumerate") boot_enumerate (J1 (thn (G pos' pins s σ H _ I h) fun us s1 ⟨vs,H1,j,J,L⟩ => ?_) hs rfl));obtain ⟨a',t,xs,rfl,qx,q⟩:=L
 cases J with
 | cons r rr =>
   cases rr
   cases r
   obtain ⟨is,rx,px⟩:=j.sqv qx;refine En.call_enum px fun h1 z O U => ?_;refine PV z ?_;refine ⟨_,_,_,_,H1,rfl,j.kept (t':=s1.toks) U,uN (t:=t) (a:=a') (by simp),⟨⟨_,z⟩,O⟩,fun c B => ?_,q⟩
   have hle:s1.heap.objs.size<=c:=by
    simp only [Ho,HZ,or_false] at B
    rcases B with rfl | rfl <;> lia
   exact j.fpOk hle (j.hok.fresh hle)
end
end L2
namespace L2
namespace Rv
open PySem PySem.Spec PyProof.Rows
end Rv
open PySem PySem.Spec PyProof.Rows
end L2
namespace L2
namespace Mi
open PySem PySem.Spec PyProof.Rows
section
inductive D where
 | non | bl (b:Bool) | int (i:Int) | str (x:Str) | tup (ds:List D) | con (ds:List D) | ref (a:Addr)
inductive O where
 | lst (ds:List D)
 | dct (t:Bool) (kvs:List (D×D))
 | fdc (kvs:List (D×D))
noncomputable abbrev Mem:=Addr->Option O
noncomputable def fz:Option O->Bool
 | some (.lst _)=>false
 | some (.dct _ _)=>false
 | _=>true
noncomputable abbrev au:=List (Option D)
noncomputable def ag (M:Mem) (a:Addr) (o:O):Mem:=fun b=>if b=a then some o else M b
theorem aa {M:Mem} {a:Addr} {o:O}:ag M a o a=some o:=by unfold ag;rw [if_pos rfl]
theorem aj {M:Mem} {a b:Addr} {o:O} (h:b≠a):ag M a o b=M b:=by unfold ag;rw [if_neg h]
def SqF (K:Frag) (H:Hp) (a:Addr) (xs:List V):Prop :=
 (∃ o,H a=some (.frz o (.lst xs))) ∨
  ∃ (o:Obj) (its:Array h6) (n:Nat),K.lookup a=some o/\o.cls = .type "list" /\ o.dict=none/\o.data = .seq its n/\its.size<=Hj/\Vals xs its.toList
theorem SqF.sq {K:Frag} {H:Hp} {a:Addr} {xs:List V} (h:SqF K H a xs):SqL K H a xs:=by
 rcases h with ⟨o,h⟩ | h
 ·exact .inl (.inr ⟨o,h⟩)
 ·exact .inr h
noncomputable def fk2:Bool:=false
noncomputable def fk:List D->Bool
 | [.int _, .int _, .int _] => true
 | [.tup _,_] => true
 | [.int _,_] => fk2
 | _=>false
def TupR (K:Frag) (H:Hp) (ds:List D) (a:Addr) (vs:List V):Prop:=H a=some (.tup vs)∨(fk ds=false/\SqT K H a vs)
theorem TupR.sq {K:Frag} {H:Hp} {ds:List D} {a:Addr} {vs:List V} (h:TupR K H ds a vs):SqT K H a vs:=h.elim SqT.of (·.2)
mutual
noncomputable def RD (K:Frag) (H:Hp):D->V->Prop
 | .non,v=>v = .non
 | .bl b,v=>v = .bl b
 | .int i,v=>v = .int i
 | .str x,v=>v = .str x
 | .tup ds,v => ∃ a vs,v = .ref a/\TupR K H ds a vs/\RDs K H ds vs
 | .con ds,v => ∃ a vs,v = .ref a/\SqF K H a vs/\RDs K H ds vs
 | .ref a,v=>v = .ref a
noncomputable def RDs (K:Frag) (H:Hp):List D->List V->Prop
 | [],vs=>vs=[]
 | d::ds,vs => ∃ v r,vs=v::r/\RD K H d v/\RDs K H ds r
end
structure Stab (H H':Hp):Prop where
 tup:∀ a xs,H a=some (.tup xs)->H' a=some (.tup xs)
 frz:∀ a o u,H a=some (.frz o u)->H' a=some (.frz o u)
theorem Stab.sqT {K:Frag} {H H':Hp} (st:Stab H H') {a:Addr} {xs:List V} (h:SqT K H a xs):SqT K H' a xs:=by
 rcases h with (h | ⟨o,h⟩) | h
 ·exact .inl (.inl (st.tup _ _ h))
 ·exact .inl (.inr ⟨o,st.frz _ _ _ h⟩)
 ·exact .inr h
theorem Stab.sqF {K:Frag} {H H':Hp} (st:Stab H H') {a:Addr} {xs:List V} (h:SqF K H a xs):SqF K H' a xs:=by
 rcases h with ⟨o,h⟩ | h
 ·exact .inl ⟨o,st.frz _ _ _ h⟩
 ·exact .inr h
mutual
theorem RD.mono {K:Frag} {H H':Hp} (st:Stab H H'):∀ {d:D} {v:V},RD K H d v->RD K H' d v
 | .non,_,h=>h
 | .bl _,_,h=>h
 | .int _,_,h=>h
 | .str _,_,h=>h
 | .tup ds,v,h=>by
  unfold RD at h ⊢;obtain ⟨a,vs,e,q,r⟩:=h;exact ⟨a,vs,e,q.imp (st.tup _ _) (fun z=>⟨z.1,st.sqT z.2⟩),RDs.mono st r⟩
 | .con ds,v,h=>by
  unfold RD at h ⊢;obtain ⟨a,vs,e,q,r⟩:=h;exact ⟨a,vs,e,st.sqF q,RDs.mono st r⟩
 | .ref _,_,h=>h
theorem RDs.mono {K:Frag} {H H':Hp} (st:Stab H H'):∀ {ds:List D} {vs:List V},RDs K H ds vs->RDs K H' ds vs
 | [],_,h=>h
 | d::ds,vs,h=>by
   unfold RDs at h ⊢;obtain ⟨v,r,e,h1,h2⟩:=h;exact ⟨v,r,e,RD.mono st h1,RDs.mono st h2⟩
end
section
variable {K:Frag} {H H':Hp}
theorem Rh {i:Int} {v:V}:RD K H (.int i) v↔v = .int i:=by unfold RD;exact QP
theorem Rk {b:Bool} {v:V}:RD K H (.bl b) v↔v = .bl b:=by unfold RD;exact QP
theorem Rp {v:V}:RD K H .non v↔v = .non:=by unfold RD;exact QP
theorem Rq {x:Str} {v:V}:RD K H (.str x) v↔v = .str x:=by unfold RD;exact QP
theorem Ri {a:Addr} {v:V}:RD K H (.ref a) v↔v = .ref a:=by unfold RD;exact QP
theorem Rt {ds:List D} {v:V}:RD K H (.tup ds) v ↔ ∃ a vs,v = .ref a/\TupR K H ds a vs/\RDs K H ds vs:=by rw [RD]
theorem Ru {ds:List D} {v:V} (h:∃ a vs,v = .ref a/\H a=some (.tup vs)/\RDs K H ds vs):RD K H (.tup ds) v:=Rt.mpr (let ⟨a,vs,e,h,r⟩:=h; ⟨a,vs,e, .inl h,r⟩)
theorem Ro {ds:List D} {v:V} (h:RD K H (.tup ds) v):∃ a vs,v = .ref a/\SqT K H a vs/\RDs K H ds vs:=let ⟨a,vs,e,h,r⟩:=Rt.mp h; ⟨a,vs,e,h.sq,r⟩
theorem Rz {ds:List D} {v:V} (f:fk ds=true) (h:RD K H (.tup ds) v):∃ a vs,v = .ref a/\H a=some (.tup vs)/\RDs K H ds vs:=let ⟨a,vs,e,h,r⟩:=Rt.mp h; ⟨a,vs,e,h.elim id fun z=>(by rw [f] at z;cases z.1),r⟩
theorem Rm {ds:List D} {v:V}:RD K H (.con ds) v ↔ ∃ a vs,v = .ref a/\SqF K H a vs/\RDs K H ds vs:=by rw [RD]
theorem RDs.nil_iff {vs:List V}:RDs K H [] vs↔vs=[]:=by rw [RDs]
theorem Rj {d:D} {ds:List D} {vs:List V}:RDs K H (d::ds) vs ↔ ∃ v r,vs=v::r/\RD K H d v/\RDs K H ds r:=by rw [RDs]
theorem RDs.nil:RDs K H [] []:=RDs.nil_iff.mpr rfl
theorem RDs.cons {d:D} {ds:List D} {v:V} {vs:List V} (h:RD K H d v) (r:RDs K H ds vs):RDs K H (d::ds) (v::vs):=Rj.mpr ⟨v,vs,rfl,h,r⟩
theorem RDs.length:∀ {ds:List D} {vs:List V},RDs K H ds vs->vs.length=ds.length
 | [],_,h=>by rw [RDs.nil_iff.mp h];rfl
 | d::ds,_,h=>by
   obtain ⟨v,r,rfl,_,h2⟩:=Rj.mp h;simp [RDs.length h2]
theorem RDs.get:∀ {ds:List D} {vs:List V} {i:Nat} {d:D},RDs K H ds vs->ds[i]? = some d -> ∃ v,vs[i]? = some v/\RD K H d v
 | [],_,_,_,_,e=>by simp at e
 | d::ds,_,0,d',h,e=>by
   obtain ⟨v,r,rfl,h1,h2⟩:=Rj.mp h;simp at e;subst e;exact ⟨v,rfl,h1⟩
 | d::ds,_,i+1,d',h,e=>by
   obtain ⟨v,r,rfl,h1,h2⟩:=Rj.mp h;obtain ⟨u,j,q⟩:=RDs.get (i:=i) (d:=d') h2 (by simpa using e)
   exact ⟨u,by simpa using j,q⟩
theorem RDs.getV {ds:List D} {vs:List V} {i:Nat} {v:V} (h:RDs K H ds vs) (e:vs[i]? = some v):∃ d,ds[i]? = some d/\RD K H d v:=by
 have z:=h.length;have hi:i < vs.length:=(HC.mp e).1;obtain ⟨d,hd⟩:∃ d,ds[i]? = some d:=⟨ds[i]'(by lia),z4 (by lia)⟩
 obtain ⟨u,j,q⟩:=h.get hd;rw [e] at j;cases j;exact ⟨d,hd,q⟩
theorem RDs.append:∀ {ds es:List D} {vs us:List V},RDs K H ds vs->RDs K H es us->RDs K H (ds++es) (vs++us)
 | [],_,_,_,h,q=>by rw [RDs.nil_iff.mp h];exact q
 | d::ds,_,_,_,h,q=>by
   obtain ⟨v,r,rfl,h1,h2⟩:=Rj.mp h;exact RDs.cons h1 (RDs.append h2 q)
theorem RDs.take:∀ {ds:List D} {vs:List V} (n:Nat),RDs K H ds vs->RDs K H (ds.take n) (vs.take n)
 | [],_,n,h=>by rw [RDs.nil_iff.mp h];simp;exact RDs.nil
 | _::_,_,0,h=>by simp;exact RDs.nil
 | d::ds,_,n+1,h=>by
   obtain ⟨v,r,rfl,h1,h2⟩:=Rj.mp h;exact RDs.cons h1 (RDs.take n h2)
theorem RDs.drop:∀ {ds:List D} {vs:List V} (n:Nat),RDs K H ds vs->RDs K H (ds.drop n) (vs.drop n)
 | [],_,n,h=>by rw [RDs.nil_iff.mp h];simp;exact RDs.nil
 | d::ds,_,0,h=>h
 | d::ds,_,n+1,h=>by
   obtain ⟨v,r,rfl,h1,h2⟩:=Rj.mp h;exact RDs.drop n h2
theorem RDs.set:∀ {ds:List D} {vs:List V} (n:Nat) {d:D} {v:V},RD K H d v->RDs K H ds vs->RDs K H (ds.set n d) (vs.set n v)
 | [],_,n,_,_,_,h=>by rw [RDs.nil_iff.mp h];exact RDs.nil
 | d::ds,_,0,_,_,q,h=>by
   obtain ⟨v,r,rfl,h1,h2⟩:=Rj.mp h;exact RDs.cons q h2
 | d::ds,_,n+1,_,_,q,h=>by
   obtain ⟨v,r,rfl,h1,h2⟩:=Rj.mp h;exact RDs.cons h1 (RDs.set n q h2)
theorem RDs.rep {ds:List D} {vs:List V} (h:RDs K H ds vs):∀ k:Nat,RDs K H (HB k ds).flatten (HB k vs).flatten
 | 0=>RDs.nil
 | k+1=>by
   rw [IX,IX,IJ,IJ];exact h.append (h.rep k)
theorem RDs.ints:∀ (ns:List Int),RDs K H (ns.map D.int) (ns.map V.int)
 | [] => RDs.nil
 | n::ns=>RDs.cons (Rh.mpr rfl) (RDs.ints ns)
end
mutual
noncomputable def D.eqb:D->D->Bool
 | .non, .non=>true
 | .bl a, .bl b=>a==b
 | .int a, .int b=>decide (a=b)
 | .str a, .str b=>decide (a=b)
 | .tup a, .tup b=>D.eqbs a b
 | .con a, .con b=>D.eqbs a b
 | .ref a, .ref b=>decide (a=b)
 | _,_=>false
noncomputable def D.eqbs:List D->List D->Bool
 | [],[] => true
 | a::r,b::s=>D.eqb a b&&D.eqbs r s
 | _,_=>false
end
mutual
theorem RE:∀ (a b:D),D.eqb a b=true->a=b
 | .non, .non,_=>rfl
 | .bl a, .bl b,h=>by simp [D.eqb] at h;rw [h]
 | .int a, .int b,h=>by simp [D.eqb] at h;rw [h]
 | .str a, .str b,h=>by simp [D.eqb] at h;rw [h]
 | .tup a, .tup b,h=>by simp [D.eqb] at h;rw [Rx a b h]
 | .con a, .con b,h=>by simp [D.eqb] at h;rw [Rx a b h]
 | .ref a, .ref b,h=>by simp [D.eqb] at h;rw [h]
 | .non, .bl _,h=>by simp [D.eqb] at h
 | .non, .int _,h=>by simp [D.eqb] at h
 | .non, .str _,h=>by simp [D.eqb] at h
 | .non, .tup _,h=>by simp [D.eqb] at h
 | .non, .con _,h=>by simp [D.eqb] at h
 | .non, .ref _,h=>by simp [D.eqb] at h
 | .bl _, .non,h=>by simp [D.eqb] at h
 | .bl _, .int _,h=>by simp [D.eqb] at h
 | .bl _, .str _,h=>by simp [D.eqb] at h
 | .bl _, .tup _,h=>by simp [D.eqb] at h
 | .bl _, .con _,h=>by simp [D.eqb] at h
 | .bl _, .ref _,h=>by simp [D.eqb] at h
 | .int _, .non,h=>by simp [D.eqb] at h
 | .int _, .bl _,h=>by simp [D.eqb] at h
 | .int _, .str _,h=>by simp [D.eqb] at h
 | .int _, .tup _,h=>by simp [D.eqb] at h
 | .int _, .con _,h=>by simp [D.eqb] at h
 | .int _, .ref _,h=>by simp [D.eqb] at h
 | .str _, .non,h=>by simp [D.eqb] at h
 | .str _, .bl _,h=>by simp [D.eqb] at h
 | .str _, .int _,h=>by simp [D.eqb] at h
 | .str _, .tup _,h=>by simp [D.eqb] at h
 | .str _, .con _,h=>by simp [D.eqb] at h
 | .str _, .ref _,h=>by simp [D.eqb] at h
 | .tup _, .non,h=>by simp [D.eqb] at h
 | .tup _, .bl _,h=>by simp [D.eqb] at h
 | .tup _, .int _,h=>by simp [D.eqb] at h
 | .tup _, .str _,h=>by simp [D.eqb] at h
 | .tup _, .con _,h=>by simp [D.eqb] at h
 | .tup _, .ref _,h=>by simp [D.eqb] at h
 | .con _, .non,h=>by simp [D.eqb] at h
 | .con _, .bl _,h=>by simp [D.eqb] at h
 | .con _, .int _,h=>by simp [D.eqb] at h
 | .con _, .str _,h=>by simp [D.eqb] at h
 | .con _, .tup _,h=>by simp [D.eqb] at h
 | .con _, .ref _,h=>by simp [D.eqb] at h
 | .ref _, .non,h=>by simp [D.eqb] at h
 | .ref _, .bl _,h=>by simp [D.eqb] at h
 | .ref _, .int _,h=>by simp [D.eqb] at h
 | .ref _, .str _,h=>by simp [D.eqb] at h
 | .ref _, .tup _,h=>by simp [D.eqb] at h
 | .ref _, .con _,h=>by simp [D.eqb] at h
theorem Rx:∀ (a b:List D),D.eqbs a b=true->a=b
 | [],[],_=>rfl
 | a::r,b::s,h=>by
   simp [D.eqbs] at h;rw [RE a b h.1,Rx r s h.2]
 | [],_::_,h=>by simp [D.eqbs] at h
 | _::_,[],h=>by simp [D.eqbs] at h
end
mutual
theorem RB:∀ (a:D),D.eqb a a=true
 | .non=>rfl
 | .bl _=>by simp [D.eqb]
 | .int _=>by simp [D.eqb]
 | .str _=>by simp [D.eqb]
 | .tup a=>by simp [D.eqb,Rw a]
 | .con a=>by simp [D.eqb,Rw a]
 | .ref _=>by simp [D.eqb]
theorem Rw:∀ (a:List D),D.eqbs a a=true
 | [] => rfl
 | a::r=>by simp [D.eqbs,RB a,Rw r]
end
noncomputable instance:DecidableEq D:=fun a b=>if h:D.eqb a b=true then isTrue (RE a b h) else isFalse fun e=>h (by rw [e];exact RB b)
noncomputable def RKey:D->Key->Prop
 | .int i,k=>k = .inl i
 | .str x,k=>k = .inr x
 | _,_=>False
noncomputable def RKeys:D->List Key->Prop
 | .tup ds,ks=>Ig RKey ds ks
 | _,_=>False
noncomputable def dget (kvs:List (D×D)) (k:D):Option D:=(kvs.find? fun p=>decide (p.1=k)).map (·.2)
noncomputable def cJ (kvs:List (D×D)) (k v:D):List (D×D):=if (kvs.any fun p=>decide (p.1=k))=true then kvs.map (fun p=>if p.1=k then (p.1,v) else p) else kvs++[(k,v)]
noncomputable def fN:D->Bool
 | .int _=>true
 | .str _=>true
 | _=>false
noncomputable def cr:D->Bool
 | .tup ds=>ds.all fN&&fk ds
 | _=>false
noncomputable def i4 (t:Bool) (k:D):Bool:=if t then cr k else fN k
theorem nO {k:D} (h:fN k=true):∃ q,RKey k q:=by
 cases k <;> first | (simp [fN] at h;done) | exact ⟨_,rfl⟩
theorem qR:∀ {ds:List D},ds.all fN=true -> ∃ ks,Ig RKey ds ks
 | [],_=>⟨[], .nil⟩
 | d::ds,h=>by
   simp only [JB,hH] at h;obtain ⟨k,j⟩:=nO h.1;obtain ⟨ks,hs⟩:=qR h.2;exact ⟨k::ks, .cons j hs⟩
theorem kM {k:D} (h:cr k=true):∃ q,RKeys k q:=by
 cases k <;> first | (simp [cr] at h;done) | exact qR (OF.mp h).1
theorem kN {ds:List D} (h:cr (.tup ds)=true):fk ds=true:=(OF.mp h).2
noncomputable def RO (K:Frag) (H:Hp) (a:Addr):O->Prop
 | .lst ds => ∃ vs,H a=some (.lst vs)/\RDs K H ds vs
 | .dct false kvs => ∃ ps,H a=some (.dK ps)/\Ig (fun (p:D×D) (q:Key×V)=>RKey p.1 q.1/\RD K H p.2 q.2) kvs ps
 | .dct true kvs => ∃ ps,H a=some (.dT ps)/\Ig (fun (p:D×D) (q:List Key×V)=>RKeys p.1 q.1/\RD K H p.2 q.2) kvs ps
 | .fdc kvs => ∃ o ps,H a=some (.frz o (.dT ps))/\Ig (fun (p:D×D) (q:List Key×V)=>RKeys p.1 q.1/\RD K H p.2 q.2) kvs ps
def RM (K:Frag) (M:Mem) (H:Hp):Prop := ∀ a o,M a=some o->RO K H a o
def RS (K:Frag) (H:Hp) (σ:St) (ρ:au):Prop := σ.length = ρ.length /\ ∀ (i:Nat) (d:D), ρ[i]? = some (some d) -> ∃ v, σ[i]? = some (some v)/\RD K H d v
structure Ext (M:Mem) (H:Hp) (M':Mem) (H':Hp):Prop where
 kp:∀ a o,fz (M a)=true->H a=some o->H' a=some o
 nw:∀ a o,fz (M a)=true->H a=some o->M' a=M a
section
variable {K:Frag} {M M' M'':Mem} {H H' H'':Hp}
theorem Ext.keep (x:Ext M H M' H') (a:Addr) (o:HO) (n:M a=none) (e:H a=some o):H' a=some o:=x.kp a o (by rw [n];rfl) e
theorem Ext.new (x:Ext M H M' H') (a:Addr) (o:HO) (n:M a=none) (e:H a=some o):M' a=none:=(x.nw a o (by rw [n];rfl) e).trans n
theorem Ext.refl:Ext M H M H:=⟨fun _ _ _ h=>h,fun _ _ _ _=>rfl⟩
theorem Ext.trans (a:Ext M H M' H') (b:Ext M' H' M'' H''):Ext M H M'' H'' :=
 ⟨fun c o n h=>b.kp c o (by rw [a.nw c o n h];exact n) (a.kp c o n h),fun c o n h=>(b.nw c o (by rw [a.nw c o n h];exact n) (a.kp c o n h)).trans (a.nw c o n h)⟩
theorem RM.mut (r:RM K M H) {a:Addr} {o:O} (h:M a=some o):∃ ho,H a=some ho/\(∀ xs,ho ≠ .tup xs)/\(fz (some o)=false->Mut (some ho) /\ ∀ ob u,ho ≠ .frz ob u):=by
 have q:=r a o h
 cases o with
 | lst ds =>
   obtain ⟨vs,e,_⟩:=q;exact ⟨_,e,fun _ z=>(by cases z),fun _=>⟨trivial,fun _ _ z=>(by cases z)⟩⟩
 | dct t kvs =>
   cases t with
   | false=>obtain ⟨ps,e,_⟩:=q;exact ⟨_,e,fun _ z=>(by cases z),fun _=>⟨trivial,fun _ _ z=>(by cases z)⟩⟩
   | true=>obtain ⟨ps,e,_⟩:=q;exact ⟨_,e,fun _ z=>(by cases z),fun _=>⟨trivial,fun _ _ z=>(by cases z)⟩⟩
 | fdc kvs=>obtain ⟨ob,ps,e,_⟩:=q;exact ⟨_,e,fun _ z=>(by cases z),fun z=>(by cases z)⟩
theorem RM.fzT (r:RM K M H) {a:Addr} {xs:List V} (e:H a=some (.tup xs)):M a=none:=by
 cases q:M a with
 | none=>rfl
 | some o =>
   obtain ⟨ho,j,z,_⟩:=r.mut q;rw [e] at j;cases j;exact absurd rfl (z xs)
theorem RM.fzF (r:RM K M H) {a:Addr} {ob:Obj} {u:HO} (e:H a=some (.frz ob u)):fz (M a)=true:=by
 cases q:M a with
 | none=>rfl
 | some o =>
   obtain ⟨ho,j,_,B⟩:=r.mut q;rw [e] at j;cases j
   cases z:fz (some o) with
   | true=>rfl
   | false=>exact absurd rfl ((B z).2 ob u)
theorem RM.out (r:RM K M H) {a:Addr} (h:H a=none):M a=none:=by
 cases e:M a with
 | none=>rfl
 | some o =>
   obtain ⟨ho,q,_⟩:=r.mut e;rw [h] at q;cases q
theorem Ext.stab (r:RM K M H) (x:Ext M H M' H'):Stab H H' where
 tup:=fun a xs e=>x.keep a _ (r.fzT e) e
 frz:=fun a o u e=>x.kp a _ (r.fzF e) e
theorem RS.mono (st:Stab H H') {σ:St} {ρ:au} (h:RS K H σ ρ):RS K H' σ ρ :=
 ⟨h.1,fun i d e=>let ⟨v,q,r⟩:=h.2 i d e; ⟨v,q,r.mono st⟩⟩
theorem RS.set {σ:St} {ρ:au} (h:RS K H σ ρ) (i:Nat) {d:D} {v:V} (r:RD K H d v):RS K H (σ.set i (some v)) (ρ.set i (some d)):=by
 refine ⟨by simp [h.1],fun j e q => ?_⟩
 by_cases hij:i=j
 ·subst hij;have hi:i < ρ.length:=by
   have:=(HC.mp q).1;simpa using this
  rw [Kx hi] at q
  cases q
  exact ⟨v,by rw [Kx (by rw [h.1];exact hi)],r⟩
 ·rw [Mo hij] at q ⊢;exact h.2 j e q
noncomputable def kP (fr:List (Option Nat)) (ρ:au):au:=fr.map fun o=>o.bind fun j=>(ρ[j]?).join
theorem RS.inh {σ:St} {ρ:au} (h:RS K H σ ρ) (fr:List (Option Nat)):RS K H (inh fr σ) (kP fr ρ):=by
 refine ⟨by simp [L2.inh,kP],fun i d e => ?_⟩
 unfold kP at e;unfold L2.inh;rw [HM] at e ⊢
 cases q:fr[i]? with
 | none=>rw [q] at e;cases e
 | some o =>
   rw [q] at e
   cases o with
   | none=>cases e
   | some j =>
     have e':some ((ρ[j]?).join)=some (some d):=e
     cases q' : ρ[j]? with
     | none=>rw [q'] at e';cases e'
     | some w =>
       rw [q'] at e'
       cases e'
       obtain ⟨v,v1,v2⟩:=h.2 j d q';exact ⟨v,by simp [v1],v2⟩
theorem RO.mono (st:Stab H H') {a:Addr} {o:O} (h:RO K H a o) (e:∀ ho,H a=some ho->H' a=some ho):RO K H' a o:=by
 cases o with
 | lst ds=>obtain ⟨vs,q,r⟩:=h;exact ⟨vs,e _ q,r.mono st⟩
 | dct t kvs =>
   cases t with
   | false=>obtain ⟨ps,q,r⟩:=h;exact ⟨ps,e _ q,Rl r fun _ _ z=>⟨z.1,z.2.mono st⟩⟩
   | true=>obtain ⟨ps,q,r⟩:=h;exact ⟨ps,e _ q,Rl r fun _ _ z=>⟨z.1,z.2.mono st⟩⟩
 | fdc kvs=>obtain ⟨ob,ps,q,r⟩:=h;exact ⟨ob,ps,e _ q,Rl r fun _ _ z=>⟨z.1,z.2.mono st⟩⟩
theorem RM.new {p:Addr} {ho:HO} (r:RM K M H) (n:H p=none):RM K M (upd H p ho):=fun a o e=>by
 have ne:a≠p:=fun z=>by subst z;obtain ⟨_,q,_⟩:=r.mut e;rw [n] at q;cases q
 refine (r a o e).mono ⟨fun b xs q => ?_,fun b o u q => ?_⟩ fun j q=>by rw [am ne];exact q
 ·rw [am (bm q n)];exact q
 ·rw [am (bm q n)];exact q
theorem Rr {p:Addr} {ho:HO} (n:H p=none):Ext M H M (upd H p ho):=⟨fun a o _ e=>by rw [am (bm e n)];exact e,fun _ _ _ _=>rfl⟩
theorem RM.lay {p:Addr} {ho:HO} {o:O} (r:RM K M H) (n:H p=none) (h:RO K (upd H p ho) p o):RM K (ag M p o) (upd H p ho):=fun a o' e=>by
 by_cases z:a=p
 ·subst z;rw [aa] at e;cases e;exact h
 ·rw [aj z] at e;exact r.new n a o' e
theorem Ext.lay {p:Addr} {ho:HO} {o:O} (n:H p=none):Ext M H (ag M p o) (upd H p ho) :=
 ⟨fun a u _ e=>by rw [am (bm e n)];exact e,fun a u m e=>by rw [aj (bm e n)]⟩
theorem RM.put {p:Addr} {ho:HO} {o o0:O} (r:RM K M H) (m:M p=some o0) (h:RO K (upd H p ho) p o) (w:fz (some o0)=false:=by rfl):RM K (ag M p o) (upd H p ho):=fun a o' e=>by
 by_cases z:a=p
 ·subst z;rw [aa] at e;cases e;exact h
 ·rw [aj z] at e;obtain ⟨J,j,B,F⟩:=r.mut m;refine (r a o' e).mono ⟨fun b xs q => ?_,fun b o u q => ?_⟩ fun G q=>by rw [am z];exact q
  ·rw [am (fun z=>by subst z;rw [j] at q;cases q;exact B xs rfl)];exact q
  ·rw [am (fun z=>by subst z;rw [j] at q;cases q;exact (F w).2 o u rfl)];exact q
theorem Ext.put {p:Addr} {ho:HO} {o o0:O} (m:M p=some o0) (w:fz (some o0)=false:=by rfl):Ext M H (ag M p o) (upd H p ho) :=
 ⟨fun a u n e=>by rw [am (fun z=>by subst z;rw [m,w] at n;cases n)];exact e,fun a u n e=>aj (fun z=>by subst z;rw [m,w] at n;cases n)⟩
theorem RM.stabPut {p:Addr} {ho:HO} {o0:O} (r:RM K M H) (m:M p=some o0) (w:fz (some o0)=false:=by rfl):Stab H (upd H p ho):=(Ext.put (o:=o0) (ho:=ho) m w).stab r
end
noncomputable abbrev QD:=D->Mem->Prop
noncomputable abbrev TEd:=au->Mem->QD->Prop
noncomputable abbrev TTd:=au->Mem->(Bool->Mem->Prop)->Prop
noncomputable abbrev TAd:=au->Mem->(List D->Mem->Prop)->Prop
structure bM where
 nx:au->Mem->Prop
 rt:QD
 bk:au->Mem->Prop:=fun _ _=>False
 ct:au->Mem->Prop:=fun _ _=>False
noncomputable abbrev TSd:=bM->au->Mem->Prop
def ae (T:TEd):Prop := ∀ ρ M Q Q',(∀ d M',Q d M'->Q' d M')->T ρ M Q->T ρ M Q'
def aJ (T:TTd):Prop := ∀ ρ M Q Q',(∀ d M',Q d M'->Q' d M')->T ρ M Q->T ρ M Q'
def bJ (T:TAd):Prop := ∀ ρ M Q Q',(∀ d M',Q d M'->Q' d M')->T ρ M Q->T ρ M Q'
structure LeD (a b:bM):Prop where
 nx:∀ ρ M,a.nx ρ M->b.nx ρ M
 rt:∀ d M,a.rt d M->b.rt d M
 bk:∀ ρ M,a.bk ρ M->b.bk ρ M
 ct:∀ ρ M,a.ct ρ M->b.ct ρ M
def aK (T:TSd):Prop := ∀ a b ρ M,LeD a b->T a ρ M->T b ρ M
noncomputable def KE' (K:Frag) (M:Mem) (H:Hp) (Q:VK):QD:=fun d M' => ∀ v H',Ext M H M' H'->RM K M' H'->RD K H' d v->Q v H'
noncomputable def KT' (K:Frag) (M:Mem) (H:Hp) (Q:Bool->Hp->Prop):Bool->Mem->Prop:=fun b M' => ∀ H',Ext M H M' H'->RM K M' H'->Q b H'
noncomputable def KA' (K:Frag) (M:Mem) (H:Hp) (Q:List V->Hp->Prop):List D->Mem->Prop:=fun ds M' => ∀ vs H',Ext M H M' H'->RM K M' H'->RDs K H' ds vs->Q vs H'
noncomputable def lE (K:Frag) (T:TEd):TE:=fun σ H Q => ∃ ρ M,RS K H σ ρ /\ RM K M H/\T ρ M (KE' K M H Q)
noncomputable def lT (K:Frag) (T:TTd):TT:=fun σ H Q => ∃ ρ M,RS K H σ ρ /\ RM K M H/\T ρ M (KT' K M H Q)
noncomputable def lA (K:Frag) (T:TAd):TA:=fun σ H Q => ∃ ρ M,RS K H σ ρ /\ RM K M H/\T ρ M (KA' K M H Q)
structure Link (K:Frag) (M:Mem) (H:Hp) (a:bM) (b:bS):Prop where
 nx:∀ ρ M' σ H',Ext M H M' H'->RS K H' σ ρ -> RM K M' H'->a.nx ρ M'->b.nx σ H'
 rt:∀ d M' v H',Ext M H M' H'->RM K M' H'->RD K H' d v->a.rt d M'->b.rt v H'
 bk:∀ ρ M' σ H',Ext M H M' H'->RS K H' σ ρ -> RM K M' H'->a.bk ρ M'->b.bk σ H'
 ct:∀ ρ M' σ H',Ext M H M' H'->RS K H' σ ρ -> RM K M' H'->a.ct ρ M'->b.ct σ H'
noncomputable def lS (K:Frag) (T:TSd):TS:=fun D σ H => ∃ ρ M A,RS K H σ ρ /\ RM K M H/\Link K M H A D/\T A ρ M
theorem Link.ext {K:Frag} {M M':Mem} {H H':Hp} {a:bM} {b:bS} (l:Link K M H a b) (x:Ext M H M' H'):Link K M' H' a b :=
 ⟨fun ρ M2 σ H2 y=>l.nx ρ M2 σ H2 (x.trans y),fun d M2 v H2 y=>l.rt d M2 v H2 (x.trans y),fun ρ M2 σ H2 y=>l.bk ρ M2 σ H2 (x.trans y),fun ρ M2 σ H2 y=>l.ct ρ M2 σ H2 (x.trans y)⟩
theorem PE.imp {X:Cx} {e:Expr} {t t':TE} (h:PE X e t) (i:∀ σ H Q,t' σ H Q->t σ H Q):PE X e t':=fun pins s σ H Q I q=>h pins s σ H Q I (i _ _ _ q)
theorem PT.imp {X:Cx} {e:Expr} {t t':TT} (h:PT X e t) (i:∀ σ H Q,t' σ H Q->t σ H Q):PT X e t':=fun pins s σ H Q I q=>h pins s σ H Q I (i _ _ _ q)
theorem PW.imp {X:Cx} {e:Expr} {t t':TT} (h:PW X e t) (i:∀ σ H Q,t' σ H Q->t σ H Q):PW X e t':=fun wh pins s σ H Q I q=>h wh pins s σ H Q I (i _ _ _ q)
theorem PA.imp {X:Cx} {e:List Expr} {t t':TA} (h:PA X e t) (i:∀ σ H Q,t' σ H Q->t σ H Q):PA X e t':=fun p pins s σ H Q I q=>h p pins s σ H Q I (i _ _ _ q)
theorem PS.imp {X:Cx} {e:Stmt} {t t':TS} (h:PS X e t) (i:∀ D σ H,t' D σ H->t D σ H):PS X e t':=fun pins s σ H D I q=>h pins s σ H D I (i _ _ _ q)
theorem PSs.imp {X:Cx} {e:List Stmt} {t t':TS} (h:PSs X e t) (i:∀ D σ H,t' D σ H->t D σ H):PSs X e t':=fun pins s σ H D I q=>h pins s σ H D I (i _ _ _ q)
end
section
theorem KE'.ext {K:Frag} {M M2 M':Mem} {H H2:Hp} {Q:VK} {d:D} (x:Ext M H M2 H2) (h:KE' K M H Q d M'):KE' K M2 H2 Q d M':=fun v H' y=>h v H' (x.trans y)
theorem KT'.ext {K:Frag} {M M2 M':Mem} {H H2:Hp} {Q:Bool->Hp->Prop} {d:Bool} (x:Ext M H M2 H2) (h:KT' K M H Q d M'):KT' K M2 H2 Q d M':=fun H' y=>h H' (x.trans y)
noncomputable abbrev R2d:=D->D->Mem->QD->Prop
noncomputable abbrev R1d:=D->Mem->QD->Prop
noncomputable abbrev RAd:=List D->Mem->QD->Prop
def be (r:R2d):Prop := ∀ x y M Q Q',(∀ d M',Q d M'->Q' d M')->r x y M Q->r x y M Q'
def sF (r:R1d):Prop := ∀ x M Q Q',(∀ d M',Q d M'->Q' d M')->r x M Q->r x M Q'
def bh (r:RAd):Prop := ∀ x M Q Q',(∀ d M',Q d M'->Q' d M')->r x M Q->r x M Q'
noncomputable def l2 (K:Frag) (rd:R2d):R2:=fun v u H Q => ∃ x y M,RM K M H/\RD K H x v/\RD K H y u/\rd x y M (KE' K M H Q)
noncomputable def l1 (K:Frag) (rd:R1d):V->Hp->VK->Prop:=fun v H Q => ∃ x M,RM K M H/\RD K H x v/\rd x M (KE' K M H Q)
noncomputable def lR (K:Frag) (rd:RAd):List V->Hp->VK->Prop:=fun vs H Q => ∃ ds M,RM K M H/\RDs K H ds vs/\rd ds M (KE' K M H Q)
noncomputable def lMt (K:Frag) (rd:D->List D->Mem->QD->Prop):V->List V->Hp->VK->Prop:=fun v vs H Q => ∃ x ds M,RM K M H/\RD K H x v/\RDs K H ds vs/\rd x ds M (KE' K M H Q)
noncomputable def bD (i:Nat):TEd:=fun ρ M Q => ∃ d, ρ[i]? = some (some d)/\Q d M
noncomputable def wC (d:D):TEd:=fun _ M Q=>Q d M
noncomputable def wOp (rd:R2d) (ta tb:TEd):TEd:=fun ρ M Q=>ta ρ M fun x M1=>tb ρ M1 fun y M2=>rd x y M2 Q
noncomputable def wUn (rd:R1d) (ta:TEd):TEd:=fun ρ M Q=>ta ρ M fun x M1=>rd x M1 Q
noncomputable def bI:TAd:=fun _ M Q=>Q [] M
noncomputable def aH (ta:TEd) (tr:TAd):TAd:=fun ρ M Q=>ta ρ M fun x M1=>tr ρ M1 fun xs M2=>Q (x::xs) M2
noncomputable def wAr (rd:RAd) (t:TAd):TEd:=fun ρ M Q=>t ρ M fun ds M1=>rd ds M1 Q
theorem xL {i:Nat}:ae (bD i):=fun _ _ _ _ h ⟨d,e,q⟩=>⟨d,e,h _ _ q⟩
theorem jJ {d:D}:ae (wC d):=fun _ _ _ _ h q=>h _ _ q
theorem fe {rd:R2d} {ta tb:TEd} (j:be rd) (z:ae ta) (B:ae tb):ae (wOp rd ta tb):=fun ρ M Q Q' h q =>
 z _ _ _ _ (fun x J F=>B _ _ _ _ (fun y M2 G=>j _ _ _ _ _ h G) F) q
theorem As {rd:R1d} {ta:TEd} (j:sF rd) (z:ae ta):ae (wUn rd ta):=fun ρ M Q Q' h q=>z _ _ _ _ (fun x F B=>j _ _ _ _ h B) q
theorem ax:bJ bI:=fun _ _ _ _ h q=>h _ _ q
theorem ar {ta:TEd} {tr:TAd} (j:ae ta) (z:bJ tr):bJ (aH ta tr):=fun ρ M Q Q' h q =>
 j _ _ _ _ (fun x G B=>z _ _ _ _ (fun xs M2 F=>h _ _ F) B) q
theorem i5 {rd:RAd} {t:TAd} (j:bh rd) (z:bJ t):ae (wAr rd t):=fun ρ M Q Q' h q=>z _ _ _ _ (fun ds F B=>j _ _ _ _ h B) q
section
variable {X:Cx} {a b:Expr} {ta tb:TEd} {pos:Pos}
theorem Ct {i:Nat} {x:Str} (B:X.N[i]? = some x) (j:Vis X.env.scope x) (hd:(x==("__debug__":Str))=false) (z:(x==("__classdict__":Str))=false):PE X (.Name x pos) (lE X.K (bD i)):=by
 refine PE.imp (BM B j hd z) fun σ H Q h => ?_;obtain ⟨ρ,M,rs,rm,d,e,q⟩:=h;obtain ⟨v,j,rd⟩:=rs.2 i d e;exact ⟨v,j,q v H Ext.refl rm rd⟩
theorem Cu {i:Int} {j:Nat}:PE X (.Constant (.int i) j pos) (lE X.K (wC (.int i))) :=
 PE.imp BN fun σ H Q ⟨ρ,M,rs,rm,q⟩=>q _ H Ext.refl rm (Rh.mpr rfl)
theorem DZ {i:Bool} {j:Nat}:PE X (.Constant (.bool i) j pos) (lE X.K (wC (.bl i))) :=
 PE.imp DG fun σ H Q ⟨ρ,M,rs,rm,q⟩=>q _ H Ext.refl rm (Rk.mpr rfl)
theorem Cv {j:Nat}:PE X (.Constant .none j pos) (lE X.K (wC .non)) :=
 PE.imp BO fun σ H Q ⟨ρ,M,rs,rm,q⟩=>q _ H Ext.refl rm (Rp.mpr rfl)
theorem i6 {K:Frag} {rd:R2d} (L:be rd) (ma:ae ta) (mb:ae tb) (σ:St) (H:Hp) (Q:VK) (h:lE K (wOp rd ta tb) σ H Q):tOp (l2 K rd) (lE K ta) (lE K tb) σ H Q:=by
 obtain ⟨ρ,M,rs,rm,q⟩:=h;refine ⟨ρ,M,rs,rm,ma _ _ _ _ (fun x O U v H1 G j z => ?_) q⟩;refine ⟨ρ,O,rs.mono (G.stab rm),j,mb _ _ _ _ (fun y M2 Y u H2 J B F => ?_) U⟩;exact ⟨x,y,M2,B,z.mono (J.stab j),F,L _ _ _ _ _ (fun d M' k=>k.ext (G.trans J)) Y⟩
theorem E1 {op:Pw} {rd:R2d} (ho:OpR X (Jg op) (l2 X.K rd)) (j:be rd) (ma:ae ta) (mb:ae tb) (q:PE X a (lE X.K ta)) (z:PE X b (lE X.K tb)):PE X (.BinOp a op b pos) (lE X.K (wOp rd ta tb)) :=
 PE.imp (DO ho q z) (i6 j ma mb)
theorem Cw {op:CmpOp} {rd:R2d} (ho:OpR X (Jm op) (l2 X.K rd)) (j:be rd) (ma:ae ta) (mb:ae tb) (q:PE X a (lE X.K ta)) (z:PE X b (lE X.K tb)) (hm:Ld op b=false) :
 PE X (.Compare a [op] [b] pos) (lE X.K (wOp rd ta tb)):=PE.imp (Ai ho q z hm) (i6 j ma mb)
noncomputable def iV (t:TEd):TTd:=fun ρ M Q=>t ρ M fun x M1 => ∃ k,x = .bl k/\Q k M1
theorem xM {t:TEd} (h:ae t):aJ (iV t):=fun ρ M Q Q' i q=>h _ _ _ _ (fun x z ⟨k,e,j⟩=>⟨k,e,i _ _ j⟩) q
theorem xN {K:Frag} {t:TEd} (m:ae t) (σ:St) (H:Hp) (Q:Bool->Hp->Prop) (h:lT K (iV t) σ H Q):zA (lE K t) σ H Q:=by
 obtain ⟨ρ,M,rs,rm,q⟩:=h;refine ⟨ρ,M,rs,rm,m _ _ _ _ (fun x G ⟨k,e,B⟩ v H1 F j z => ?_) q⟩;subst e;exact ⟨k,Rk.mp z,B H1 F j⟩
theorem Cy {op:CmpOp} {rd:R2d} (ho:OpR X (Jm op) (l2 X.K rd)) (j:be rd) (ma:ae ta) (mb:ae tb) (q:PE X a (lE X.K ta)) (z:PE X b (lE X.K tb)) (hm:Ld op b=false) :
 PT X (.Compare a [op] [b] pos) (lT X.K (iV (wOp rd ta tb))) :=
 PT.imp (Aj ho q z hm) fun σ H Q h=>by
  have h1:=xN (fe j ma mb) σ H Q h;exact i6 j ma mb σ H _ h1
theorem E2 {op:UnaryOp} {rd:R1d} (ho:UnR X (unaryOp op) (l1 X.K rd)) (B:sF rd) (ma:ae ta) (F:PE X a (lE X.K ta)):PE X (.UnaryOp op a pos) (lE X.K (wUn rd ta)) :=
 PE.imp (DP ho F) fun σ H Q ⟨ρ,M,rs,rm,q⟩=>⟨ρ,M,rs,rm,ma _ _ _ _ (fun x G J v H1 L j z=>⟨x,G,j,z,B _ _ _ _ (fun d M' k=>k.ext L) J⟩) q⟩
theorem E3 {rd:R2d} (ho:IxR X (l2 X.K rd)) (j:be rd) (ma:ae ta) (mb:ae tb) (q:PE X a (lE X.K ta)) (z:PE X b (lE X.K tb)) (hs:kI b):PE X (.Subscript a b pos) (lE X.K (wOp rd ta tb)) :=
 PE.imp (DV ho q z hs) (i6 j ma mb)
theorem eG:PA X [] (lA X.K bI):=PA.imp jy fun σ H Q ⟨ρ,M,rs,rm,q⟩=>q _ H Ext.refl rm RDs.nil
theorem uO {K:Frag} {tr:TAd} (ma:ae ta) (mr:bJ tr) (σ:St) (H:Hp) (Q:List V->Hp->Prop) (h:lA K (aH ta tr) σ H Q):zB (lE K ta) (lA K tr) σ H Q:=by
 obtain ⟨ρ,M,rs,rm,q⟩:=h;refine ⟨ρ,M,rs,rm,ma _ _ _ _ (fun x L O v H1 G j z => ?_) q⟩;refine ⟨ρ,L,rs.mono (G.stab rm),j,mr _ _ _ _ (fun xs M2 U vs H2 J B F => ?_) O⟩;exact U (v::vs) H2 (G.trans J) B (RDs.cons (z.mono (J.stab j)) F)
theorem cg {e:Expr} {es:List Expr} {tr:TAd} (ma:ae ta) (mr:bJ tr) (j:PE X e (lE X.K ta)) (q:PA X es (lA X.K tr)) (hs:HP (e::es) X.env=(false,eval e X.env)::HP es X.env) :
 PA X (e::es) (lA X.K (aH ta tr)):=PA.imp (df j q hs) (uO ma mr)
theorem bT {K:Frag} {rd:RAd} {t:TAd} (B:bh rd) (mt:bJ t) (σ:St) (H:Hp) (Q:VK) (h:lE K (wAr rd t) σ H Q):tCB (lR K rd) (lA K t) σ H Q:=by
 obtain ⟨ρ,M,rs,rm,q⟩:=h;exact ⟨ρ,M,rs,rm,mt _ _ _ _ (fun ds F G vs H1 J j z=>⟨ds,F,j,z,B _ _ _ _ (fun d M' k=>k.ext J) G⟩) q⟩
noncomputable def nP:RAd:=fun ds M Q=>ds.length<=Hj/\Q (.tup ds) M
noncomputable def nQ:RAd:=fun ds M Q=>ds.length<=Hj /\ ∀ p,M p=none->Q (.ref p) (ag M p (.lst ds))
theorem uP:bh nP:=fun _ _ _ _ h ⟨z,q⟩=>⟨z,h _ _ q⟩
theorem uQ:bh nQ:=fun _ _ _ _ h ⟨z,q⟩=>⟨z,fun p n=>h _ _ (q p n)⟩
theorem dY {K:Frag} {M:Mem} {H:Hp} {Q:VK} {ds:List D} {vs:List V} {p:Addr} (rm:RM K M H) (rd:RDs K H ds vs) (q:KE' K M H Q (.tup ds) M) (n:H p=none):Q (.ref p) (upd H p (.tup vs)):=by
 have x:Ext M H M (upd H p (.tup vs)):=Rr n;exact q (.ref p) _ x (rm.new n) (Ru ⟨p,vs,rfl,az,rd.mono (x.stab rm)⟩)
theorem cO {K:Frag} {M:Mem} {H:Hp} {Q:VK} {ds:List D} {vs:List V} {p:Addr} (rm:RM K M H) (rd:RDs K H ds vs) (q:∀ p,M p=none->KE' K M H Q (.ref p) (ag M p (.lst ds))) (n:H p=none):Q (.ref p) (upd H p (.lst vs)):=by
 have x:Ext M H (ag M p (.lst ds)) (upd H p (.lst vs)):=Ext.lay n;have x0:Ext M H M (upd H p (.lst vs)):=Rr n;exact q p (rm.out n) (.ref p) _ x (rm.lay n ⟨vs,az,rd.mono (x0.stab rm)⟩) (Ri.mpr rfl)
theorem Cz {es:List Expr} {t:TAd} {k:Nat} (mt:bJ t) (h:PA X es (lA X.K t)):PE X (.Tuple es k pos) (lE X.K (wAr nP t)) :=
 PE.imp (uw h) fun σ H Q ⟨ρ,M,rs,rm,q⟩=>⟨ρ,M,rs,rm,mt _ _ _ _ (fun ds J ⟨z,F⟩ vs H1 G B j=>⟨by rw [j.length];exact z,fun p n=>dY B j (F.ext G) n⟩) q⟩
theorem CA {es:List Expr} {t:TAd} (mt:bJ t) (h:PA X es (lA X.K t)):PE X (.List es pos) (lE X.K (wAr nQ t)) :=
 PE.imp (Ce h) fun σ H Q ⟨ρ,M,rs,rm,q⟩=>⟨ρ,M,rs,rm,mt _ _ _ _ (fun ds J ⟨z,F⟩ vs H1 G B j=>⟨by rw [j.length];exact z,fun p n=>cO B j (fun p' n'=>(F p' n').ext G) n⟩) q⟩
end
end
end Mi
end L2
namespace L2
open PySem PySem.Spec PyProof.Rows
section
section
variable {X:Cx}
theorem gC:∀ {ns:List Int} {ys:List h6},CarriedAll ys (ns.map PyData.int)->Vals (ns.map V.int) ys
 | [],ys,h=>by cases h;exact .nil
 | n::ns,ys,h=>by
   rw [HE] at h
   cases h with
   | cons h1 h2 =>
     refine .cons ?_ (gC h2)
     cases h1
     exact ⟨_,rfl⟩
theorem Au {e:Expr} {te:TE} {p p2 pos j:Pos} (O:X.calm=true) (he:PE X e te) (U:Gl X "list") (hm:X.mg "list" = none) (G:Gl X "range") (J:X.mg "range" = none)
 (hs:HP [e] X.env=[(false,eval e X.env)]) :
 PE X (.Call (.Name "list" p) [.Call (.Name "range" p2) [e] [] j] [] pos) (fun σ H Q=>te σ H fun x H1 => ∃ n:Nat,x = .int (n:Nat)/\n<=1000000 /\ ∀ q,H1 q=none->Q (.ref q) (upd H1 q (.lst ((Hz n).map fun i=>V.int (i:Nat))))):=by
 intro pins s σ H Q I h;refine JW (dz I U hm (u := .type "list") (by decide +kernel) ?_ (by decide) (by decide))
 refine J1 ?_ rfl rfl;refine Kz ?_;refine JW (dz I G J (u := .type "range") boot_range ?_ (by decide) (by decide))
 refine J1 ?_ (by rw [hs];rfl) rfl
 rw [hs];refine Kz (thn (he pins s σ H _ I h) fun u s1 ⟨x,H1,B,Y,Z⟩ => ?_);obtain ⟨n,rfl,hn,q⟩:=Z;obtain ⟨t,rfl⟩:=Y;refine LB ?_;refine call_range_1 (LB ?_);have I2:Inv X pins σ H1 { s1 with heap:=s1.heap.push { cls := .type "range",data := .fields #[.int 0 s1.toks, .int (n:Nat) t, .int 1 (s1.toks+1)] },toks:=s1.toks+1+1 }:=B.kept (t':=s1.toks+1+1) fun b ob q=>h7 _ q
 obtain ⟨m,F⟩:=I2.fr;have hsz:Ls 0 (n:Nat) 1=((n:Nat):Int):=by
  unfold Ls;rw [if_pos (by decide)]
  by_cases h0:(0:Int) < (n:Nat)
  ·rw [if_pos h0];lia
  ·rw [if_neg h0];lia
 refine list_rangeD (news := []) (B.ok.hd O) F (fun _ hp=>by cases hp) (Hm _ rfl) ?_ hsz (by lia) fun h' tk ys _ _ kp _ _ np car => ?_
 ·unfold Builtin.Range.small;rw [hsz];have f:∀ z:Int,0<=z->z<=1000001->MK z=true:=fun z h1 h2=>by
   unfold MK;simp only [hH,decide_eq_true_eq];lia
  rw [f 0 (by lia) (by lia),f (n:Nat) (by lia) (by lia),f 1 (by lia) (by lia),if_pos (by decide),f ((n:Nat)+(1 - 1)) (by lia) (by lia)]
  simp
 ·have L:=gC car;have er:(rangeInts 0 1 n).map V.int=(Hz n).map fun i=>V.int (i:Nat):=by
   unfold rangeInts;rw [Ip];exact IE fun i _=>by simp
  rw [er] at L;obtain ⟨⟨c',e'⟩,_⟩:=np;have e2:(s1.heap.push { cls := .type "range",data := .fields #[.int 0 s1.toks, .int (n:Nat) t, .int 1 (s1.toks+1)] }).objs.size=s1.heap.objs.size+1:=Jh ..;have kp':∀ b o,s1.heap.get? b=some o->h'.get? b=some o:=fun b o e=>kp b o (h7 _ e);refine ⟨.ref (s1.heap.push { cls := .type "range",data := .fields #[.int 0 s1.toks, .int (n:Nat) t, .int 1 (s1.toks+1)] }).objs.size,_,B.laid (t':=tk) (o := .lst ((Hz n).map fun i=>V.int (i:Nat))) kp' (by rw [e2];lia) ?_,rfl,q _ (B.hok.fresh (by rw [e2];lia))⟩
  exact ⟨by rw [q7,HQ,tv];lia,ys,c',L,e'⟩
end
namespace Mi
section
variable {X:Cx}
noncomputable def jK (ta:TEd):TEd:=fun ρ M Q=>ta ρ M fun x M1 => ∃ n:Nat,x = .int (n:Nat)/\n<=1000000 /\ ∀ p,M1 p=none->Q (.ref p) (ag M1 p (.lst ((Hz n).map fun i=>D.int (i:Nat))))
theorem uR {ta:TEd} (h:ae ta):ae (jK ta):=fun ρ M Q Q' i q=>h _ _ _ _ (fun x z ⟨n,e,e1,j⟩=>⟨n,e,e1,fun p n=>i _ _ (j p n)⟩) q
theorem uS {K:Frag} {H:Hp} (n:Nat):RDs K H ((Hz n).map fun i=>D.int (i:Nat)) ((Hz n).map fun i=>V.int (i:Nat)):=by
 have:=RDs.ints (K:=K) (H:=H) ((Hz n).map fun i=>((i:Nat):Int));rw [Ip,Ip] at this;exact this
theorem Av {e:Expr} {ta:TEd} {p p2 pos j:Pos} (m:ae ta) (J:X.calm=true) (he:PE X e (lE X.K ta)) (L:Gl X "list") (hm:X.mg "list" = none) (B:Gl X "range") (F:X.mg "range" = none) (hs:HP [e] X.env=[(false,eval e X.env)]) :
 PE X (.Call (.Name "list" p) [.Call (.Name "range" p2) [e] [] j] [] pos) (lE X.K (jK ta)):=by
 refine PE.imp (Au J he L hm B F hs) fun σ H Q h => ?_;obtain ⟨ρ,M,rs,rm,q⟩:=h;refine ⟨ρ,M,rs,rm,m _ _ _ _ (fun x Z ⟨n,e,O,U⟩ v H1 Y G rd1 => ?_) q⟩;subst e
 cases Rh.mp rd1
 exact ⟨n,rfl,O,fun p z=>cO G (uS n) (fun p' n'=>(U p' n').ext Y) z⟩
end
end Mi
end
section
theorem iW:fillsNumberSlot (.type "tuple") "mul" = pure false :=
 PyProof.Rows.fillsNumberSlot_seq (id := "tuple.__mul__") (r:=some (.builtin "tuple.__rmul__")) F.slot_tuple_mul.lookup (by decide +kernel) F.slot_tuple_rmul.lookup (by decide +kernel)
theorem nR:seqRepeat? (.type "tuple")=pure (some (.builtin "tuple.__mul__")):=by
 unfold seqRepeat?;rw [NM (T := "tuple") (name := "__mul__") (id := "tuple.__mul__") F.slot_tuple_mul.lookup (by decide +kernel),NM (T := "tuple") (name := "__rmul__") (id := "tuple.__rmul__") F.slot_tuple_rmul.lookup (by decide +kernel)]
 rfl
theorem kQ (a:Int) (t:Tok) (l:Addr) (items:Array h6) (n:Nat) (d:Option Addr) (sl:Array (Option h6)) :
 Meets (JZ.«int.__rmul__» ⟨[.int a t, .ref l],[]⟩) (fun _ R s=>s.heap.get? l=some { cls := .type "tuple",dict:=d,data := .seq items n,slots:=sl }/\R (.ok (.ret Value.notImplemented)) s) :=
 .of_wp fun prog w A R s h=>by obtain ⟨j,g,d,tk,os⟩:=s;obtain ⟨q,h⟩:=h;wp_walk;exact ⟨_,rfl,h⟩
open AutoSeq1 (wpAny_loadPart') in
theorem uT (l:Addr) (items:Array h6) (n:Nat) (dd:Option Addr) (sl:Array (Option h6)) (x:Int) (u:Tok) (h1 : -(2 ^ 63)<=x) (h2:x < 2 ^ 63) (z:items.size*x.toNat<=Hj) :
 Meets (JZ.«tuple.__mul__» ⟨[.ref l, .int x u],[]⟩) (fun _ R s=>s.heap.get? l=some { cls := .type "tuple",dict:=dd,data := .seq items n,slots:=sl } /\
  (if items.isEmpty || x==1 then R (.ok (.ret (.ref l))) s else R (.ok (.ret (.ref s.heap.objs.size))) { s with heap:=s.heap.push { cls := .type "tuple",data := .seq ((HB x.toNat items).foldl (· ++ ·) #[]) } })) :=
 .of_wp fun prog w A R s h=>by
  obtain ⟨O,g,d,tk,os⟩:=s;obtain ⟨j,h⟩:=h;have f1:=AutoSeq1.idx_int;have B:(decide (x < -(2 ^ 63)) || decide (x≥2 ^ 63))=false:=by
   rw [decide_eq_false (by lia),decide_eq_false (by lia)];rfl
  wp_walk using KR j
  refine Of (decide_eq_false (by rw [B];decide)) ?_
  dsimp only
  by_cases e1:(items.isEmpty || x==1)=true
  ·rw [if_pos e1] at h
   wp_walk using KR j
   exact ⟨_,rfl,h⟩
  ·rw [if_neg e1] at h
   wp_walk using KR j
   simp only [Og,not_or] at e1
   by_cases e2:x<=0
   ·have q:(decide (x<=0) || items.isEmpty)=true:=by rw [decide_eq_true e2];rfl
    rw [if_pos q];have F:x.toNat=0:=by lia
    rw [F] at h
    wp_walk
    exact ⟨_,rfl,h⟩
   ·have q : ¬ (decide (x<=0) || items.isEmpty)=true:=by simp;exact ⟨by lia,by simpa using e1.1⟩
    rw [if_neg q];have hx:((items.size:Nat):Int)*x=((items.size*x.toNat:Nat):Int):=by
     rw [K7,IY (by lia)]
    have hs:Hj=16777216:=tv;have G : ¬ ((items.size:Nat):Int)*x > (2 ^ 63 - 1) / 8:=by rw [hx];lia
    rw [if_neg G];have J : ¬ N7 (((items.size:Nat):Int)*x)=true:=by
     rw [hx];unfold N7;intro L;have U:=of_decide_eq_true L;lia
    rw [if_neg J]
    wp_walk
    have hsz:((HB x.toNat items).foldl (· ++ ·) #[]).size<=Hj:=by
     have:∀ (k:Nat) (a:Array h6),((HB k items).foldl (· ++ ·) a).size=a.size+items.size*k:=by
      intro k;induction k with
      | zero=>intro a;simp
      | succ k ih=>intro a;rw [IX,Li,ih,KW,Nat.mul_succ];lia
     rw [this];simpa using z
    refine Of (decide_eq_false (QY.mpr hsz)) ?_
    wp_walk
    exact ⟨_,rfl,h⟩
end
section
section
variable {X:Cx}
noncomputable def zJ (K:Frag):R2:=fun x y H Q => ∃ l k xs,x = .ref l/\y = .int k/\SqT K H l xs /\ -(2 ^ 63)<=k/\k < 2 ^ 63/\xs.length*k.toNat<=Hj /\
 ((xs=[]∨k=1)->Q (.ref l) H)/\(¬ (xs=[]∨k=1) -> ∀ p,H p=none->Q (.ref p) (upd H p (.tup (HB k.toNat xs).flatten)))
theorem Aw:OpR X (Jg .Mult) (zJ X.K):=by
 intro pins s σ H x y v u Q I rx ry h;obtain ⟨l,k,xs,rfl,rfl,G,h1,h2,j,J,L⟩:=h
 cases rx
 obtain ⟨t,rfl⟩:=ry;obtain ⟨its,r,O,_⟩:=I.tuple G;have Y:=r.length;obtain ⟨⟨cls,dd,dat,sl⟩,e,B,n,hd⟩:=O;dsimp only at B hd;subst B hd;have hlen:its.toArray.size*k.toNat<=Hj:=by rw [Hl, <- Y];exact j
 have f0:∀ m:Nat,LV (fun Z x2=>Z++x2) #[] (HB m its.toArray)=(HB m its).flatten.toArray:=fun m=>by
  have:=gy its m [];rw [Ms] at this;exact this
 refine Ni (T := "tuple") (U := "int") (by decide) ⟨_,e,rfl⟩ (fun s'=>O0 s' k t) iW QJ Mt nR F.slot_int_index.lookup
  (KH Mt (O0 s k t) Qa (PN _ _) (kQ k t l its.toArray n dd sl)
    ⟨e,rfl,⟨_,e,rfl⟩,KH F.slot_tuple_mul ⟨_,e,rfl⟩ F.entry_tuple_mul (F.args_tuple_mul_2 _ _) (uT l its.toArray n dd sl k t h1 h2 hlen) ⟨e, ?_⟩⟩)
 have hi:(its.toArray.isEmpty || k==1)=true↔(xs=[]∨k=1):=by
  rw [<- r.nil_iff];simp
 split
 ·next c=>exact ⟨.ref l,H,I,rfl,J (hi.mp c)⟩
 ·next c =>
  rw [f0];refine ⟨.ref s.heap.objs.size,_,I.laid (t':=s.toks) (o := .tup (HB k.toNat xs).flatten) (fun b ob q=>h7 _ q) (Hr _) ?_,rfl,L (fun z=>c (hi.mpr z)) _ (I.hok.fresh (Hr _))⟩;exact ⟨by rw [qQ,MB];exact j,_,r.rep k.toNat,MU _ _⟩
end
end
section
section
variable {X:Cx}
theorem Ax:OpR X (Jg .Add) (fun x y H Q => ∃ a b ys,x = .ref a/\y = .ref b/\SqT X.K H a []/\SqT X.K H b ys/\Q (.ref b) H):=by
 intro pins s σ H x y v u Q I rx ry h;obtain ⟨a,b,ys,rfl,rfl,U,Y,q⟩:=h
 cases rx
 cases ry
 obtain ⟨its,Z,p1,_⟩:=I.tuple U;obtain ⟨j,r2,p2,_⟩:=I.tuple Y;have e0:its=[]:=Z.nil_iff.mpr rfl;obtain ⟨⟨cls,dd,data,sl⟩,ho,L,n,hd⟩:=id p1;obtain ⟨⟨O,G,data2,J⟩,z,B,n2,hd2⟩:=id p2;simp only at L hd B hd2;subst L hd B hd2;exact PF ⟨_,ho,rfl⟩ ⟨_,z,rfl⟩ NI OZ LF Lu (Lf _ _)
  (tuple_addW0 a b its.toArray j.toArray n n2 dd G sl J (by simp [e0])) ⟨ho,z,⟨.ref b,H,I,rfl,q⟩⟩
end
end
end L2
namespace L2
namespace Mi
open PySem PySem.Spec PyProof.Rows
section
def MulOk (i j:Int):Prop:=(-(2 ^ 64) < i/\i < 2 ^ 64)∨(-(2 ^ 64) < j/\j < 2 ^ 64)∨(OX i<=2 ^ 20/\OX j<=2 ^ 20)
theorem MulOk.ok {i j:Int} (h:MulOk i j):IntMulOk i j:=by
 rcases h with h | h | h
 ·exact IntMulOk.of_left (intBits_le_64 h.1 h.2)
 ·exact IntMulOk.of_right (intBits_le_64 h.1 h.2)
 ·exact IntMulOk.of_bits h.1 h.2
noncomputable def fO:R2d
 | .int i, .int j,M,Q=>Q (.int (i+j)) M
 | .tup a, .tup b,M,Q=>(a≠[]∨True)/\a.length+b.length<=Hj/\Q (.tup (a++b)) M
 | .ref a, .ref b,M,Q => ∃ xs ys,M a=some (.lst xs)/\M b=some (.lst ys)/\xs.length+ys.length<=Hj /\ ∀ p,M p=none->Q (.ref p) (ag M p (.lst (xs++ys)))
 | .str x, .str y,M,Q=>x.length+y.length<=Hj/\Q (.str (x++y)) M
 | _,_,_,_=>False
noncomputable def kR:R2d
 | .int i, .int j,M,Q=>Q (.int (i - j)) M
 | _,_,_,_=>False
noncomputable def iX:R2d
 | .int i, .int j,M,Q=>MulOk i j/\Q (.int (i*j)) M
 | .ref a, .int k,M,Q => ∃ xs,M a=some (.lst xs) /\ -(2 ^ 63)<=k/\k < 2 ^ 63/\xs.length*k.toNat<=Hj /\ ∀ p,M p=none->Q (.ref p) (ag M p (.lst (HB k.toNat xs).flatten))
 | .tup ds, .int k,M,Q => -(2 ^ 63)<=k/\k < 2 ^ 63/\ds.length*k.toNat<=Hj/\Q (.tup (HB k.toNat ds).flatten) M
 | _,_,_,_=>False
noncomputable def nk:R2d
 | .int i, .int j,M,Q => 0 < j/\j < 2 ^ 256/\Q (.int (i / j)) M
 | _,_,_,_=>False
noncomputable def sH:R2d
 | .int i, .int j,M,Q => 0 < j/\Q (.int (i % j)) M
 | _,_,_,_=>False
noncomputable def sJ:R2d
 | .int i, .int j,M,Q => 0<=j/\j<=1000000/\i.natAbs < 2 ^ 64/\Q (.int (i ^ j.toNat)) M
 | _,_,_,_=>False
theorem xO:be fO:=by
 intro x y M Q Q' h q
 cases x <;> cases y <;> first
  | exact q.elim
  | exact h _ _ q
  | exact ⟨q.1,h _ _ q.2⟩
  | exact ⟨q.1,q.2.1,h _ _ q.2.2⟩
  | (obtain ⟨xs,ys,e1,e2,z,q⟩:=q;exact ⟨xs,ys,e1,e2,z,fun p n=>h _ _ (q p n)⟩)
theorem xP:be kR:=by
 intro x y M Q Q' h q
 cases x <;> cases y <;> first | exact q.elim | exact h _ _ q
theorem xQ:be iX:=by
 intro x y M Q Q' h q
 cases x <;> cases y <;> first
  | exact q.elim
  | exact ⟨q.1,h _ _ q.2⟩
  | exact ⟨q.1,q.2.1,q.2.2.1,h _ _ q.2.2.2⟩
  | (obtain ⟨xs,e1,j,z,B,q⟩:=q;exact ⟨xs,e1,j,z,B,fun p n=>h _ _ (q p n)⟩)
theorem uU:be nk:=by
 intro x y M Q Q' h q
 cases x <;> cases y <;> first | exact q.elim | exact ⟨q.1,q.2.1,h _ _ q.2.2⟩
theorem xR:be sH:=by
 intro x y M Q Q' h q
 cases x <;> cases y <;> first | exact q.elim | exact ⟨q.1,h _ _ q.2⟩
theorem xS:be sJ:=by
 intro x y M Q Q' h q
 cases x <;> cases y <;> first | exact q.elim | exact ⟨q.1,q.2.1,q.2.2.1,h _ _ q.2.2.2⟩
section
variable {X:Cx}
theorem OpR.of {f:h6->h6->Sem h6} {r r':R2} (h:OpR X f r) (i:∀ v u H Q,r' v u H Q->r v u H Q):OpR X f r':=fun pins s σ H x y v u Q I rx ry q=>h pins s σ H x y v u Q I rx ry (i _ _ _ _ q)
theorem IxR.of {r r':R2} (h:IxR X r) (i:∀ v u H Q,r' v u H Q->r v u H Q):IxR X r':=fun a b pins s σ H x y v u Q I rx ry q=>h a b pins s σ H x y v u Q I rx ry (i _ _ _ _ q)
theorem CallR.of {f:h6} {r r':List V->Hp->VK->Prop} (h:CallR X f r) (i:∀ vs H Q,r' vs H Q->r vs H Q):CallR X f r':=fun pins s σ H xs us Q I rx q=>h pins s σ H xs us Q I rx (i _ _ _ q)
theorem E4 {K:Frag} {M:Mem} {H:Hp} {Q:VK} {a b:List D} {v u:V} (rm:RM K M H) (rx:RD K H (.tup a) v) (ry:RD K H (.tup b) u) (q:fO (.tup a) (.tup b) M (KE' K M H Q)):zD K v u H Q ∨ ∃ a b ys,v = .ref a/\u = .ref b/\SqT K H a []/\SqT K H b ys/\Q (.ref b) H:=by
 obtain ⟨a',vs,rfl,z,j⟩:=Ro rx;obtain ⟨b',us,rfl,B,F⟩:=Ro ry;obtain ⟨_,J,q⟩:=q;have l1:=j.length;have l2:=F.length
 by_cases G:a=[]
 ·subst G;have:vs=[]:=RDs.nil_iff.mp j;subst this;exact .inr ⟨a',b',us,rfl,rfl,z,B,q _ H Ext.refl rm ry⟩
 refine .inl ⟨a',b',vs,us,rfl,rfl,z,B,fun e=>G (I9.mp (by rw [<- l1,e];rfl)),by lia,fun e => ?_,fun _ p n=>dY rm (j.append F) q n⟩
 have eb:b=[]:=I9.mp (by rw [<- l2,e];rfl)
 subst eb;rw [IH] at q;exact q _ H Ext.refl rm rx
theorem xT:OpR X (Jg .Add) (l2 X.K fO):=by
 refine OpR.of (op_add.or ((op_catT.or Ax).or (op_cat.or so))) fun v u H Q h => ?_;obtain ⟨x,y,M,rm,rx,ry,q⟩:=h
 cases x <;> cases y <;> first
  | exact q.elim
  | (cases Rh.mp rx;cases Rh.mp ry;exact .inl ⟨_,_,rfl,rfl,q _ H Ext.refl rm (Rh.mpr rfl)⟩)
  | exact .inr (.inl (E4 rm rx ry q))
  | (cases Ri.mp rx;cases Ri.mp ry
     obtain ⟨xs,ys,e1,e2,z,q⟩:=q;obtain ⟨vs,h1,j⟩:=rm _ _ e1;obtain ⟨us,h2,B⟩:=rm _ _ e2;have l1:=j.length;have l2:=B.length;refine .inr (.inr (.inl ⟨_,_,vs,us,rfl,rfl,h1,h2,by lia,fun p n=>cO rm (j.append B) q n⟩)))
  | (cases Rq.mp rx;cases Rq.mp ry;exact .inr (.inr (.inr ⟨_,_,rfl,rfl,q.1,q.2 _ H Ext.refl rm (Rq.mpr rfl)⟩)))
theorem xU:OpR X (Jg .Sub) (l2 X.K kR):=by
 refine OpR.of C8 fun v u H Q h => ?_;obtain ⟨x,y,M,rm,rx,ry,q⟩:=h
 cases x <;> cases y <;> first
  | exact q.elim
  | (cases Rh.mp rx;cases Rh.mp ry;exact ⟨_,_,rfl,rfl,q _ H Ext.refl rm (Rh.mpr rfl)⟩)
theorem op_mul_i:OpR X (Jg .Mult) (rI MulOk fun i j => .int (i*j)):=opI fun _ _ _ _ _ _ _ z q=>mul_int q z.ok
theorem E5 {K:Frag} {M:Mem} {H:Hp} {Q:VK} {a:List D} {k:Int} {v u:V} (rm:RM K M H) (rx:RD K H (.tup a) v) (ry:RD K H (.int k) u) (q:iX (.tup a) (.int k) M (KE' K M H Q)):zJ K v u H Q:=by
 obtain ⟨a',vs,rfl,z,j⟩:=Ro rx
 cases Rh.mp ry
 obtain ⟨B,F,G,q⟩:=q;have l1:=j.length;refine ⟨a',k,vs,rfl,rfl,z,B,F,by rw [l1];exact G,fun e => ?_,fun _ p n=>dY rm (j.rep _) q n⟩
 have ea:(HB k.toNat a).flatten=a:=by
  rcases e with e | e
  ·have:a=[]:=I9.mp (by rw [<- l1,e];rfl)
   subst this;simp
  ·subst e;simp
 rw [ea] at q;exact q _ H Ext.refl rm rx
theorem xV:OpR X (Jg .Mult) (l2 X.K iX):=by
 refine OpR.of (op_mul_i.or (op_rep.or Aw)) fun v u H Q h => ?_;obtain ⟨x,y,M,rm,rx,ry,q⟩:=h
 cases x <;> cases y <;> first
  | exact q.elim
  | (cases Rh.mp rx;cases Rh.mp ry;exact .inl ⟨_,_,rfl,rfl,q.1,q.2 _ H Ext.refl rm (Rh.mpr rfl)⟩)
  | (cases Ri.mp rx;cases Rh.mp ry
     obtain ⟨xs,e1,z,B,F,q⟩:=q;obtain ⟨vs,h1,j⟩:=rm _ _ e1;have l1:=j.length;exact .inr (.inl ⟨_,_,vs,rfl,rfl,h1,z,B,by rw [l1];exact F,fun p n=>cO rm (j.rep _) q n⟩))
  | exact .inr (.inr (E5 rm rx ry q))
theorem xW:OpR X (Jg .FloorDiv) (rI (fun _ j => 0 < j/\j < 2 ^ 256) fun i j => .int (i / j)):=L2.opI fun i j _ _ _ _ _ z q=>by
 have h1:(0:Int) < j:=z.1;have h2:j < 2 ^ 256:=z.2;have B:j.natAbs.log2 < 256:=(Nat.log2_lt (by lia)).mpr (by lia)
 exact floordiv_int (by lia) (by rw [Int.fdiv_eq_ediv_of_nonneg i (by lia)];exact q) (.inl (PyProof.noPylong_of_log2 (by lia)))
theorem uV:OpR X (Jg .FloorDiv) (l2 X.K nk):=by
 refine OpR.of xW fun v u H Q h => ?_;obtain ⟨x,y,M,rm,rx,ry,q⟩:=h
 cases x <;> cases y <;> first
  | exact q.elim
  | (cases Rh.mp rx;cases Rh.mp ry;exact ⟨_,_,rfl,rfl,⟨q.1,q.2.1⟩,q.2.2 _ H Ext.refl rm (Rh.mpr rfl)⟩)
theorem xX:OpR X (Jg .Mod) (l2 X.K sH):=by
 refine OpR.of C9 fun v u H Q h => ?_;obtain ⟨x,y,M,rm,rx,ry,q⟩:=h
 cases x <;> cases y <;> first
  | exact q.elim
  | (cases Rh.mp rx;cases Rh.mp ry;exact ⟨_,_,rfl,rfl,q.1,q.2 _ H Ext.refl rm (Rh.mpr rfl)⟩)
theorem xY:OpR X (Jg .Pow) (l2 X.K sJ):=by
 refine OpR.of Ca fun v u H Q h => ?_;obtain ⟨x,y,M,rm,rx,ry,q⟩:=h
 cases x <;> cases y <;> first
  | exact q.elim
  | (cases Rh.mp rx;cases Rh.mp ry;exact ⟨_,_,rfl,rfl,⟨q.1,q.2.1,q.2.2.1⟩,q.2.2.2 _ H Ext.refl rm (Rh.mpr rfl)⟩)
noncomputable def sK:R1d
 | .int i,M,Q=>Q (.int (-i)) M
 | _,_,_=>False
theorem nS:sF sK:=by
 intro x M Q Q' h q
 cases x <;> first | exact q.elim | exact h _ _ q
theorem UnR.of {f:h6->Sem h6} {r r':V->Hp->VK->Prop} (h:UnR X f r) (i:∀ v H Q,r' v H Q->r v H Q):UnR X f r':=fun pins s σ H x v Q I rx q=>h pins s σ H x v Q I rx (i _ _ _ q)
theorem xZ:UnR X (unaryOp .USub) (l1 X.K sK):=by
 refine UnR.of Cb fun v H Q h => ?_;obtain ⟨x,M,rm,rx,q⟩:=h
 cases x <;> first
  | exact q.elim
  | (cases Rh.mp rx;exact ⟨_,rfl,q _ H Ext.refl rm (Rh.mpr rfl)⟩)
noncomputable def aD {α β:Type} (f : α -> Option β):List α -> Option (List β)
 | [] => some []
 | x::xs=>(f x).bind fun y=>(aD f xs).map (y :: ·)
noncomputable def rb:Nat->Mem->D->Option IU
 | _,_, .non=>some .none
 | _,_, .bl b=>some (.bool b)
 | _,_, .int i=>some (.int i)
 | _,_, .str x=>if PyData.strOk x=true then some (.str x) else none
 | n+1,M, .tup ds=>(aD (rb n M) ds).map PX
 | n+1,M, .con ds=>(aD (rb n M) ds).map QA
 | n+1,M, .ref a=>match M a with
   | some (.lst ds)=>(aD (rb n M) ds).map QA
   | _=>none
 | 0,_, .tup _=>none
 | 0,_, .con _=>none
 | 0,_, .ref _=>none
theorem dP {n:Nat} {M:Mem} (ih:∀ d p,rb n M d=some p->p.depth<=n/\p.canLay0=true):∀ {ds:List D} {ps:List IU},aD (rb n M) ds=some ps->JK ps<=n/\J2 ps=true
 | [],ps,h=>by
  simp [aD] at h;subst h;exact ⟨Jn _,rfl⟩
 | d::ds,ps,h=>by
   simp only [aD] at h
   cases e1:rb n M d with
   | none=>rw [e1] at h;cases h
   | some p =>
     rw [e1] at h
     cases e2:aD (rb n M) ds with
     | none=>simp [e2] at h
     | some qs =>
       simp [e2] at h;subst h;obtain ⟨a1,a2⟩:=ih d p e1;obtain ⟨b1,b2⟩:=dP ih e2;refine ⟨?_, ?_⟩
       ·show max p.depth (JK qs)<=n;lia
       ·show (p.canLay0&&J2 qs)=true;rw [a2,b2];rfl
theorem cK {M:Mem}:∀ (n:Nat) (d:D) (p:IU),rb n M d=some p->p.depth<=n/\p.canLay0=true
 | n, .non,p,h=>by simp [rb] at h;subst h;exact ⟨Jn _,rfl⟩
 | n, .bl b,p,h=>by simp [rb] at h;subst h;exact ⟨Jn _,rfl⟩
 | n, .int b,p,h=>by simp [rb] at h;subst h;exact ⟨Jn _,rfl⟩
 | n, .str x,p,h=>by
   simp [rb] at h;obtain ⟨h1,h2⟩:=h;subst h2;exact ⟨Jn _,h1⟩
 | 0, .tup _,p,h=>by simp [rb] at h
 | 0, .con _,p,h=>by simp [rb] at h
 | 0, .ref _,p,h=>by simp [rb] at h
 | n+1, .tup ds,p,h=>by
   simp only [rb] at h
   cases e:aD (rb n M) ds with
   | none=>rw [e] at h;cases h
   | some ps =>
     rw [e] at h;cases h;obtain ⟨a,b⟩:=dP (cK n) e;exact ⟨LU a,b⟩
 | n+1, .con ds,p,h=>by
   simp only [rb] at h
   cases e:aD (rb n M) ds with
   | none=>rw [e] at h;cases h
   | some ps =>
     rw [e] at h;cases h;obtain ⟨a,b⟩:=dP (cK n) e;exact ⟨LU a,b⟩
 | n+1, .ref a,p,h=>by
   simp only [rb] at h
   cases e0:M a with
   | none=>rw [e0] at h;cases h
   | some o =>
     rw [e0] at h
     cases o with
     | dct _ _=>cases h
     | fdc _=>cases h
     | lst ds =>
       simp only at h
       cases e:aD (rb n M) ds with
       | none=>rw [e] at h;cases h
       | some ps =>
         rw [e] at h;cases h;obtain ⟨a,b⟩:=dP (cK n) e;exact ⟨LU a,b⟩
theorem dQ {K:Frag} {H:Hp} {n:Nat} {M:Mem} {h:Heap} (ih:∀ d p v u,rb n M d=some p->RD K H d v->RelV v u -> ∃ as,LH h u p as) :
 ∀ {ds:List D} {ps:List IU} {vs:List V} {us:List h6},aD (rb n M) ds=some ps->RDs K H ds vs->Vals vs us -> ∃ as,OG h us ps as
 | [],ps,vs,us,hm,r,rv=>by
  simp [aD] at hm;subst hm;rw [RDs.nil_iff.mp r] at rv
  cases rv
  exact ⟨_, .nil⟩
 | d::ds,ps,vs,us,hm,r,rv=>by
   obtain ⟨v,vr,rfl,j,q⟩:=Rj.mp r
   cases rv with
   | cons z B =>
     simp only [aD] at hm
     cases e1:rb n M d with
     | none=>rw [e1] at hm;cases hm
     | some p =>
       rw [e1] at hm
       cases e2:aD (rb n M) ds with
       | none=>simp [e2] at hm
       | some qs =>
         simp [e2] at hm;subst hm;obtain ⟨as,ra⟩:=ih d p v _ e1 j z;obtain ⟨bs,rbs⟩:=dQ ih e2 q B;exact ⟨_, .cons ra rbs⟩
theorem cu {pins:List (Addr×Obj)} {σ:St} {H:Hp} {s:hI} {M:Mem} (I:Inv X pins σ H s) (rm:RM X.K M H):∀ (n:Nat) (d:D) (p:IU) (v:V) (u:h6),rb n M d=some p->RD X.K H d v->RelV v u -> ∃ as,LH s.heap u p as
 | n, .non,p,v,u,h,r,q=>by simp [rb] at h;subst h;cases Rp.mp r;cases q;exact ⟨_, .none⟩
 | n, .bl b,p,v,u,h,r,q=>by simp [rb] at h;subst h;cases Rk.mp r;cases q;exact ⟨_, .bool b⟩
 | n, .int b,p,v,u,h,r,q=>by simp [rb] at h;subst h;cases Rh.mp r;obtain ⟨t,rfl⟩:=q;exact ⟨_, .int b t⟩
 | n, .str x,p,v,u,h,r,q=>by
   simp [rb] at h;obtain ⟨_,h2⟩:=h;subst h2;cases Rq.mp r;obtain ⟨t,rfl⟩:=q;exact ⟨_, .str x t⟩
 | 0, .tup _,p,_,_,h,_,_=>by simp [rb] at h
 | 0, .con _,p,_,_,h,_,_=>by simp [rb] at h
 | 0, .ref _,p,_,_,h,_,_=>by simp [rb] at h
 | n+1, .tup ds,p,v,u,h,r,q=>by
   simp only [rb] at h
   cases e:aD (rb n M) ds with
   | none=>rw [e] at h;cases h
   | some ps =>
     rw [e] at h;cases h;obtain ⟨a,vs,rfl,j,rs⟩:=Ro r
     cases q
     obtain ⟨its,rv,⟨o,ho,z,k,hd⟩,_⟩:=I.tuple j;obtain ⟨as,ra⟩:=dQ (cu I rm n) e rs rv;exact ⟨_, .tuple ho z hd (by simpa using ra)⟩
 | n+1, .con ds,p,v,u,h,r,q=>by
   simp only [rb] at h
   cases e:aD (rb n M) ds with
   | none=>rw [e] at h;cases h
   | some ps =>
     rw [e] at h;cases h;obtain ⟨a,vs,rfl,j,rs⟩:=Rm.mp r
     cases q
     obtain ⟨its,rv,⟨o,k,ho,z,_,hd⟩,_⟩:=I.list j.sq;obtain ⟨as,ra⟩:=dQ (cu I rm n) e rs rv;exact ⟨_, .list ho z hd (by simpa using ra)⟩
 | n+1, .ref a,p,v,u,h,r,q=>by
   simp only [rb] at h
   cases e0:M a with
   | none=>rw [e0] at h;cases h
   | some o =>
     rw [e0] at h
     cases o with
     | dct _ _=>cases h
     | fdc _=>cases h
     | lst ds =>
       simp only at h
       cases e:aD (rb n M) ds with
       | none=>rw [e] at h;cases h
       | some ps =>
         rw [e] at h;cases h
         cases Ri.mp r
         cases q
         obtain ⟨vs,j,rs⟩:=rm _ _ e0;obtain ⟨its,rv,⟨o,k,ho,z,_,hd⟩,_⟩:=I.list (SqL.of j);obtain ⟨as,ra⟩:=dQ (cu I rm n) e rs rv;exact ⟨_, .list ho z hd (by simpa using ra)⟩
noncomputable def wEq:R2d:=fun x y M Q => ∃ p q,rb 16 M x=some p/\rb 16 M y=some q/\Q (.bl (Im p q)) M
noncomputable def wNe:R2d:=fun x y M Q => ∃ p q,rb 16 M x=some p/\rb 16 M y=some q/\Q (.bl (!PyData.eqv p q)) M
theorem Ay:be wEq:=fun _ _ _ _ _ h ⟨p,q,a,b,c⟩=>⟨p,q,a,b,h _ _ c⟩
theorem Az:be wNe:=fun _ _ _ _ _ h ⟨p,q,a,b,c⟩=>⟨p,q,a,b,h _ _ c⟩
theorem AA (F:X.A.units+16 < K1):OpR X (Jm .Eq) (l2 X.K wEq):=by
 intro pins s σ H x y v u Q I rx ry h;obtain ⟨d,e,M,rm,rd,re,p,q,j,z,k⟩:=h;obtain ⟨as,ra⟩:=cu I rm _ _ _ _ _ j rd rx;obtain ⟨bs,rb'⟩:=cu I rm _ _ _ _ _ z re ry;obtain ⟨G,p2⟩:=cK _ _ _ j;obtain ⟨J,B⟩:=cK _ _ _ z;exact SeqAt.compareEq_reads ra rb' p2 B (by lia) ⟨.bl _,H,I,rfl,k _ H Ext.refl rm (Rk.mpr rfl)⟩
theorem AB (F:X.A.units+16 < K1):OpR X (Jm .NotEq) (l2 X.K wNe):=by
 intro pins s σ H x y v u Q I rx ry h;obtain ⟨d,e,M,rm,rd,re,p,q,j,z,k⟩:=h;obtain ⟨as,ra⟩:=cu I rm _ _ _ _ _ j rd rx;obtain ⟨bs,rb'⟩:=cu I rm _ _ _ _ _ z re ry;obtain ⟨G,p2⟩:=cK _ _ _ j;obtain ⟨J,B⟩:=cK _ _ _ z;exact SeqAt.compareNe_reads ra rb' p2 B (by lia) ⟨.bl _,H,I,rfl,k _ H Ext.refl rm (Rk.mpr rfl)⟩
noncomputable def wLt:R2d
 | .int i, .int j,M,Q=>Q (.bl (decide (i < j))) M
 | _,_,_,_=>False
noncomputable def wLe:R2d
 | .int i, .int j,M,Q=>Q (.bl (decide (i<=j))) M
 | _,_,_,_=>False
noncomputable def wGt:R2d
 | .int i, .int j,M,Q=>Q (.bl (decide (j < i))) M
 | _,_,_,_=>False
noncomputable def wGe:R2d
 | .int i, .int j,M,Q=>Q (.bl (decide (j<=i))) M
 | _,_,_,_=>False
theorem AC:be wLt:=by
 intro x y M Q Q' h q
 cases x <;> cases y <;> first | exact q.elim | exact h _ _ q
theorem AD:be wGt:=by
 intro x y M Q Q' h q
 cases x <;> cases y <;> first | exact q.elim | exact h _ _ q
theorem AE:be wGe:=by
 intro x y M Q Q' h q
 cases x <;> cases y <;> first | exact q.elim | exact h _ _ q
theorem AF:OpR X (Jm .Lt) (l2 X.K wLt):=by
 refine OpR.of DQ fun v u H Q h => ?_;obtain ⟨x,y,M,rm,rx,ry,q⟩:=h
 cases x <;> cases y <;> first
  | exact q.elim
  | (cases Rh.mp rx;cases Rh.mp ry;exact ⟨_,_,rfl,rfl,q _ H Ext.refl rm (Rk.mpr rfl)⟩)
theorem AG:OpR X (Jm .Gt) (l2 X.K wGt):=by
 refine OpR.of DR fun v u H Q h => ?_;obtain ⟨x,y,M,rm,rx,ry,q⟩:=h
 cases x <;> cases y <;> first
  | exact q.elim
  | (cases Rh.mp rx;cases Rh.mp ry;exact ⟨_,_,rfl,rfl,q _ H Ext.refl rm (Rk.mpr rfl)⟩)
theorem AH:OpR X (Jm .GtE) (l2 X.K wGe):=by
 refine OpR.of DS fun v u H Q h => ?_;obtain ⟨x,y,M,rm,rx,ry,q⟩:=h
 cases x <;> cases y <;> first
  | exact q.elim
  | (cases Rh.mp rx;cases Rh.mp ry;exact ⟨_,_,rfl,rfl,q _ H Ext.refl rm (Rk.mpr rfl)⟩)
end
end
section
noncomputable def wIx:R2d:=fun x y M Q=>match x with
 | .tup ds => ∃ i d,y = .int i/\atI ds i=some d/\Q d M
 | .con ds => ∃ i d,y = .int i/\atI ds i=some d/\Q d M
 | .ref a=>(∃ ds i d,M a=some (.lst ds)/\y = .int i/\atI ds i=some d/\Q d M)∨(∃ t kvs d,M a=some (.dct t kvs)/\i4 t y=true/\dget kvs y=some d/\Q d M) ∨ ∃ kvs d,M a=some (.fdc kvs)/\cr y=true/\dget kvs y=some d/\Q d M
 | _=>False
theorem qS:be wIx:=by
 intro x y M Q Q' h q
 cases x with
 | tup ds=>obtain ⟨i,d,e,e2,q⟩:=q;exact ⟨i,d,e,e2,h _ _ q⟩
 | con ds=>obtain ⟨i,d,e,e2,q⟩:=q;exact ⟨i,d,e,e2,h _ _ q⟩
 | ref a =>
   rcases q with ⟨ds,i,d,e1,e2,j,q⟩ | ⟨t,kvs,d,e1,e2,j,q⟩ | ⟨kvs,d,e1,e2,j,q⟩
   ·exact .inl ⟨ds,i,d,e1,e2,j,h _ _ q⟩
   ·exact .inr (.inl ⟨t,kvs,d,e1,e2,j,h _ _ q⟩)
   ·exact .inr (.inr ⟨kvs,d,e1,e2,j,h _ _ q⟩)
 | _=>exact q.elim
theorem nT {K:Frag} {H:Hp} {ds:List D} {vs:List V} {i:Int} {d:D} (r:RDs K H ds vs) (e:atI ds i=some d):∃ v,atI vs i=some v/\RD K H d v:=by
 unfold atI at e ⊢;rw [r.length]
 cases q:ixN ds.length i with
 | none=>rw [q] at e;cases e
 | some j =>
   rw [q] at e;exact r.get e
theorem kS {K:Frag} {H:Hp} {k:D} {q:Key} {v:V} (r:RKey k q) (h:RD K H k v):v=kV q:=by
 cases k <;> first
  | exact r.elim
  | (cases (show q=_ from r);first | exact Rh.mp h | exact Rq.mp h)
theorem fP {K:Frag} {H:Hp}:∀ {ds:List D} {ks:List Key} {vs:List V},Ig RKey ds ks->RDs K H ds vs->vs=ks.map kV
 | _,_,vs, .nil,h=>by rw [RDs.nil_iff.mp h];rfl
 | _,_,vs, .cons r t,h=>by
   obtain ⟨v,vr,rfl,h1,h2⟩:=Rj.mp h;rw [kS r h1,fP t h2];rfl
theorem RKey.inj {d e:D} {k:Key} (a:RKey d k) (b:RKey e k):d=e:=by
 cases d <;> first
  | exact a.elim
  | (cases e <;> first | exact b.elim | (cases (show k=_ from a);injection (show _=_ from b) with z;rw [z]) | (cases (show k=_ from a);cases (show _=_ from b)))
theorem RKeysP.inj:∀ {d e:List D} {k:List Key},Ig RKey d k->Ig RKey e k->d=e
 | _,_,_, .nil, .nil=>rfl
 | _,_,_, .cons r t, .cons r' t'=>by rw [r.inj r',RKeysP.inj t t']
theorem RKeys.inj {d e:D} {k:List Key} (a:RKeys d k) (b:RKeys e k):d=e:=by
 cases d <;> first
  | exact a.elim
  | (cases e <;> first | exact b.elim | exact congrArg D.tup (RKeysP.inj a b))
theorem RKey.fun {d:D} {k k':Key} (a:RKey d k) (b:RKey d k'):k=k':=by
 cases d <;> first
  | exact a.elim
  | (cases (show k=_ from a);cases (show k'=_ from b);rfl)
theorem RKeysP.fun:∀ {d:List D} {k k':List Key},Ig RKey d k->Ig RKey d k'->k=k'
 | _,_,_, .nil, .nil=>rfl
 | _,_,_, .cons r t, .cons r' t'=>by rw [r.fun r',RKeysP.fun t t']
theorem RKeys.fun {d:D} {k k':List Key} (a:RKeys d k) (b:RKeys d k'):k=k':=by
 cases d <;> first
  | exact a.elim
  | exact RKeysP.fun a b
section
variable {κ:Type} [DecidableEq κ] {K:Frag} {H:Hp} {RK:D -> κ -> Prop} (inj:∀ {d e:D} {k : κ},RK d k->RK e k->d=e) (fn:∀ {d:D} {k k' : κ},RK d k->RK d k'->k=k')
include inj fn
theorem fQ {k:D} {q : κ} (j:RK k q):∀ {kvs:List (D×D)} {ps:List (κ × V)},Ig (fun p r=>RK p.1 r.1/\RD K H p.2 r.2) kvs ps ->
 (∀ d,dget kvs k=some d -> ∃ v,cq ps q=some v/\RD K H d v)/\(dget kvs k=none->cq ps q=none)
 | _,_, .nil=>⟨fun d e=>by simp [dget] at e,fun _=>rfl⟩
 | _,_, .cons (a:=p) (b:=r) (l₂ := ps) B t=>by
   obtain ⟨F,G⟩:=fQ j t
   by_cases e:p.1=k
   ·have e':r.1=q:=by
     have h1:=B.1;rw [e] at h1;exact fn h1 j
    refine ⟨fun d he => ?_,fun he => ?_⟩
    ·simp [dget,Jv,e] at he;subst he;exact ⟨r.2,fL e',B.2⟩
    ·simp [dget,Jv,e] at he
   ·have e' : ¬ r.1=q:=fun z=>e (by
     have h1:=B.1;rw [z] at h1;exact inj h1 j)
    have eq1:∀ l:List (D×D),dget (p::l) k=dget l k:=fun l=>by simp [dget,Jv,e]
    have eq2:cq (r::ps) q=cq ps q:=fM e';refine ⟨fun d he => ?_,fun he => ?_⟩
    ·rw [eq1] at he;rw [eq2];exact F d he
    ·rw [eq1] at he;rw [eq2];exact G he
end
section
variable {X:Cx}
theorem uW {K:Frag} {H:Hp} {a:Addr} {ps:List (List Key×V)} {kvs:List (D×D)} {k:D} {v:V} (B:Rd H a (.dT ps)) (pr:Ig (fun (p:D×D) (q:List Key×V)=>RKeys p.1 q.1/\RD K H p.2 q.2) kvs ps) (ok:cr k=true) (rk:RD K H k v) :
 ∃ o,DGet H a v o/\(∀ d,dget kvs k=some d -> ∃ w,o=some w/\RD K H d w)/\(dget kvs k=none->o=none):=by
 obtain ⟨q,j⟩:=kM ok;obtain ⟨g1,g2⟩:=fQ (RK:=RKeys) RKeys.inj RKeys.fun j pr;refine ⟨cq ps q, ?_,g1,g2⟩
 cases k <;> first
  | exact j.elim
  | (obtain ⟨b,us,rfl,z,ru⟩:=Rz (kN ok) rk
     rw [fP j ru] at z;exact .inr ⟨ps,q,b,B,rfl,z,rfl⟩)
theorem qT {K:Frag} {M:Mem} {H:Hp} {a:Addr} {t:Bool} {kvs:List (D×D)} {k:D} {v:V} (rm:RM K M H) (e:M a=some (.dct t kvs)) (ok:i4 t k=true) (rk:RD K H k v) :
 ∃ o,DGet H a v o/\(∀ d,dget kvs k=some d -> ∃ w,o=some w/\RD K H d w)/\(dget kvs k=none->o=none):=by
 have ro:=rm a _ e
 cases t with
 | false =>
   obtain ⟨ps,j,pr⟩:=ro;obtain ⟨q,z⟩:=nO (show fN k=true from ok);obtain ⟨g1,g2⟩:=fQ (RK:=RKey) RKey.inj RKey.fun z pr;refine ⟨cq ps q, ?_,g1,g2⟩;rw [kS z rk];exact DGet.k j
 | true =>
   obtain ⟨ps,j,pr⟩:=ro;exact uW (.inl j) pr ok rk
theorem AI (j:X.A.units+1 < K1):IxR X (fun x y H Q => ∃ a v,x = .ref a/\DGet H a y (some v)/\Q v H):=by
 intro value slice pins s σ H x y v u Q I rx ry h hs;obtain ⟨a,w,rfl,g,q⟩:=h
 cases rx
 have hd:IsD H a:=by
  rcases g with ⟨kvs,k,e,_⟩ | ⟨kvs,k,b,e,_⟩
  ·exact .inl ⟨kvs,e⟩
  ·exact .inr ⟨kvs,e⟩
 obtain ⟨z,_⟩:=jD I hd;exact tail_any z PySem.F.slot_dict_getitem.lookup (uJ j I g ry fun w' s' I' r'=>⟨w,H,I',r',q⟩) hs
theorem EV (B:X.A.units+1 < K1):IxR X (l2 X.K wIx):=by
 refine IxR.of (ix_list.or (ix_tup.or (AI B))) fun v u H Q h => ?_;obtain ⟨x,y,M,rm,rx,ry,q⟩:=h
 cases x with
 | tup ds =>
   obtain ⟨i,d,rfl,e,q⟩:=q;obtain ⟨a,vs,rfl,j,rs⟩:=Ro rx
   cases Rh.mp ry
   obtain ⟨w,hw,rw'⟩:=nT rs e;exact .inr (.inl ⟨a,vs,i,w,rfl,rfl,j,hw,q w H Ext.refl rm rw'⟩)
 | con ds =>
   obtain ⟨i,d,rfl,e,q⟩:=q;obtain ⟨a,vs,rfl,j,rs⟩:=Rm.mp rx
   cases Rh.mp ry
   obtain ⟨w,hw,rw'⟩:=nT rs e;exact .inl ⟨a,vs,i,w,rfl,rfl,j.sq,hw,q w H Ext.refl rm rw'⟩
 | ref a =>
   cases Ri.mp rx
   rcases q with ⟨ds,i,d,e1,rfl,z,q⟩ | ⟨t,kvs,d,e1,e2,z,q⟩ | ⟨kvs,d,e1,e2,z,q⟩
   ·cases Rh.mp ry
    obtain ⟨vs,j,rs⟩:=rm _ _ e1;obtain ⟨w,hw,rw'⟩:=nT rs z;exact .inl ⟨a,vs,i,w,rfl,rfl,SqL.of j,hw,q w H Ext.refl rm rw'⟩
   ·obtain ⟨o,g,g1,_⟩:=qT rm e1 e2 ry;obtain ⟨w,rfl,rw'⟩:=g1 d z;exact .inr (.inr ⟨a,w,rfl,g,q w H Ext.refl rm rw'⟩)
   ·obtain ⟨ob,ps,F,pr⟩:=rm _ _ e1;obtain ⟨o,g,g1,_⟩:=uW (.inr ⟨ob,F⟩) pr e2 ry;obtain ⟨w,rfl,rw'⟩:=g1 d z;exact .inr (.inr ⟨a,w,rfl,g,q w H Ext.refl rm rw'⟩)
 | _=>exact q.elim
noncomputable def iY (M:Mem):D->Option Nat
 | .tup ds=>some ds.length
 | .con ds=>some ds.length
 | .ref a=>match M a with
  | some (.lst ds)=>some ds.length
  | _=>none
 | _=>none
noncomputable def fR:RAd:=fun xs M Q => ∃ x n,xs=[x]/\iY M x=some n/\Q (.int n) M
theorem nU:bh fR:=fun _ _ _ _ h ⟨x,n,e,l,q⟩=>⟨x,n,e,l,h _ _ q⟩
theorem RDs.one {K:Frag} {H:Hp} {d:D} {vs:List V} (h:RDs K H [d] vs):∃ v,vs=[v]/\RD K H d v:=by
 obtain ⟨v,r,rfl,h1,h2⟩:=Rj.mp h;rw [RDs.nil_iff.mp h2];exact ⟨v,rfl,h1⟩
theorem RDs.two {K:Frag} {H:Hp} {d e:D} {vs:List V} (h:RDs K H [d,e] vs):∃ v u,vs=[v,u]/\RD K H d v/\RD K H e u:=by
 obtain ⟨v,r,rfl,h1,h2⟩:=Rj.mp h;obtain ⟨u,rfl,j⟩:=RDs.one h2;exact ⟨v,u,rfl,h1,j⟩
theorem sL:CallR X (.builtin "len") (lR X.K fR):=by
 refine CallR.of xt fun vs H Q h => ?_;obtain ⟨ds,M,rm,rs,x,n,rfl,l,q⟩:=h;obtain ⟨v,rfl,r⟩:=rs.one;refine ⟨v,n,rfl, ?_,q _ H Ext.refl rm (Rh.mpr rfl)⟩
 cases x with
 | tup ds =>
   cases l
   obtain ⟨a,us,rfl,j,ru⟩:=Ro r;exact .inr ⟨us,j,ru.length.symm⟩
 | con ds =>
   cases l
   obtain ⟨a,us,rfl,j,ru⟩:=Rm.mp r;exact .inl ⟨us,j.sq,ru.length.symm⟩
 | ref a =>
   cases Ri.mp r
   simp only [iY] at l
   cases e:M a with
   | none=>rw [e] at l;cases l
   | some o =>
     rw [e] at l
     cases o with
     | dct _ _=>cases l
     | fdc _=>cases l
     | lst ds =>
       cases l
       obtain ⟨us,j,ru⟩:=rm _ _ e;exact .inl ⟨us,SqL.of j,ru.length.symm⟩
 | _=>cases l
noncomputable def nV:RAd:=fun xs M Q => ∃ i,xs=[.int i]/\Q (.int (if i < 0 then -i else i)) M
noncomputable def no:RAd:=fun xs M Q => ∃ i j,xs=[.int i, .int j]/\Q (.int (if j < i then j else i)) M
noncomputable def nW:RAd:=fun xs M Q=>(∃ i,xs=[.int i]/\Q (.int i) M) ∨ ∃ k,xs=[.bl k]/\Q (.int (if k then 1 else 0)) M
theorem nX:bh nV:=fun _ _ _ _ h ⟨i,e,q⟩=>⟨i,e,h _ _ q⟩
theorem mj:bh no:=fun _ _ _ _ h ⟨i,j,e,q⟩=>⟨i,j,e,h _ _ q⟩
theorem nY:bh nW:=fun _ _ _ _ h q=>q.elim (fun ⟨i,e,q⟩ => .inl ⟨i,e,h _ _ q⟩) fun ⟨i,e,q⟩ => .inr ⟨i,e,h _ _ q⟩
theorem sM:CallR X (.builtin "abs") (lR X.K nV):=by
 refine CallR.of xr fun vs H Q h => ?_;obtain ⟨ds,M,rm,rs,i,rfl,q⟩:=h;obtain ⟨v,rfl,r⟩:=rs.one
 cases Rh.mp r
 exact ⟨i,rfl,q _ H Ext.refl rm (Rh.mpr rfl)⟩
theorem qv (z:X.calm=true):CallR X (.builtin "min") (lR X.K no):=by
 refine CallR.of (uo z) fun vs H Q h => ?_;obtain ⟨ds,M,rm,rs,i,j,rfl,q⟩:=h;obtain ⟨v,u,rfl,B,F⟩:=rs.two
 cases Rh.mp B
 cases Rh.mp F
 exact ⟨i,j,rfl,q _ H Ext.refl rm (Rh.mpr rfl)⟩
theorem sN:CallR X (.type "int") (lR X.K nW):=by
 refine CallR.of uq fun vs H Q h => ?_;obtain ⟨ds,M,rm,rs,⟨i,rfl,q⟩ | ⟨i,rfl,q⟩⟩:=h
 ·obtain ⟨v,rfl,r⟩:=rs.one
  cases Rh.mp r
  exact .inl ⟨i,rfl,q _ H Ext.refl rm (Rh.mpr rfl)⟩
 ·obtain ⟨v,rfl,r⟩:=rs.one
  cases Rk.mp r
  exact .inr ⟨i,rfl,q _ H Ext.refl rm (Rh.mpr rfl)⟩
noncomputable def aw (M:Mem):D->Option (List D)
 | .tup ds=>some ds
 | .con ds=>some ds
 | .ref a=>match M a with
  | some (.lst ds)=>some ds
  | _=>none
 | _=>none
theorem nZ {K:Frag} {M:Mem} {H:Hp} {x:D} {ds:List D} {v:V} (rm:RM K M H) (r:RD K H x v) (e:aw M x=some ds):∃ p vs,v = .ref p/\(SqL K H p vs∨SqT K H p vs)/\RDs K H ds vs:=by
 cases x with
 | tup es =>
   cases e
   obtain ⟨a,us,rfl,j,ru⟩:=Ro r;exact ⟨a,us,rfl, .inr j,ru⟩
 | con es =>
   cases e
   obtain ⟨a,us,rfl,j,ru⟩:=Rm.mp r;exact ⟨a,us,rfl, .inl j.sq,ru⟩
 | ref a =>
   cases Ri.mp r
   simp only [aw] at e
   cases e0:M a with
   | none=>rw [e0] at e;cases e
   | some o =>
     rw [e0] at e
     cases o with
     | dct _ _=>cases e
     | fdc _=>cases e
     | lst es =>
       cases e
       obtain ⟨us,j,ru⟩:=rm _ _ e0;exact ⟨a,us,rfl, .inl (SqL.of j),ru⟩
 | _=>cases e
noncomputable def nr:RAd:=fun xs M Q => ∃ x ds,xs=[x]/\aw M x=some ds /\ ∀ p,M p=none->Q (.ref p) (ag M p (.lst ds))
noncomputable def og:RAd:=fun xs M Q => ∃ x ds,xs=[x]/\aw M x=some ds/\Q (.tup ds) M
theorem mn:bh nr:=fun _ _ _ _ h ⟨x,ds,e,l,q⟩=>⟨x,ds,e,l,fun p n=>h _ _ (q p n)⟩
theorem jL:bh og:=fun _ _ _ _ h ⟨x,ds,e,l,q⟩=>⟨x,ds,e,l,h _ _ q⟩
theorem qw:CallR X (.type "list") (lR X.K nr):=by
 refine CallR.of nH fun vs H Q h => ?_;obtain ⟨ds,M,rm,rs,x,es,rfl,l,q⟩:=h;obtain ⟨v,rfl,r⟩:=rs.one;obtain ⟨p,us,rfl,sq,ru⟩:=nZ rm r l;exact ⟨p,us,rfl,sq,fun l' n=>cO rm ru q n⟩
theorem oh:CallR X (.type "tuple") (lR X.K og):=by
 refine CallR.of n8 fun vs H Q h => ?_;obtain ⟨ds,M,rm,rs,x,es,rfl,l,q⟩:=h;obtain ⟨v,rfl,r⟩:=rs.one
 cases x with
 | tup ds' =>
   cases l
   obtain ⟨a,us,rfl,j,ru⟩:=Ro r;exact ⟨a,us,rfl, .inr ⟨j,q _ H Ext.refl rm r⟩⟩
 | con ds' =>
   cases l
   obtain ⟨a,us,rfl,j,ru⟩:=Rm.mp r;exact ⟨a,us,rfl, .inl ⟨j.sq,fun l' n=>dY rm ru q n⟩⟩
 | ref a =>
   cases Ri.mp r
   simp only [aw] at l
   cases e0:M a with
   | none=>rw [e0] at l;cases l
   | some o =>
     rw [e0] at l
     cases o with
     | dct _ _=>cases l
     | fdc _=>cases l
     | lst es' =>
       cases l
       obtain ⟨us,j,ru⟩:=rm _ _ e0;exact ⟨a,us,rfl, .inl ⟨SqL.of j,fun l' n=>dY rm ru q n⟩⟩
 | _=>cases l
end
end
section
section
variable {X:Cx}
theorem RDs.ints_eq {K:Frag} {H:Hp}:∀ {ns:List Int} {vs:List V},RDs K H (ns.map D.int) vs->vs=ns.map V.int
 | [],_,h=>RDs.nil_iff.mp h
 | n::ns,_,h=>by
   obtain ⟨v,r,rfl,h1,h2⟩:=Rj.mp h;rw [Rh.mp h1,RDs.ints_eq h2];rfl
noncomputable def y4 (M:Mem):D->Option Bool
 | .non=>some false
 | .bl b=>some b
 | .int i=>some (i != 0)
 | .tup ds=>some (!ds.isEmpty)
 | .con ds=>some (!ds.isEmpty)
 | .ref a=>match M a with
  | some (.lst ds)=>some (!ds.isEmpty)
  | _=>none
 | _=>none
noncomputable def oi (t:TEd):TTd:=fun ρ M Q=>t ρ M fun x M1 => ∃ b,y4 M1 x=some b/\Q b M1
theorem y7 {t:TEd} (h:ae t):aJ (oi t):=fun ρ M Q Q' i q=>h _ _ _ _ (fun x z ⟨k,e,j⟩=>⟨k,e,i _ _ j⟩) q
theorem CB {K:Frag} {M:Mem} {H:Hp} {x:D} {b:Bool} {v:V} (rm:RM K M H) (r:RD K H x v) (e:y4 M x=some b):xo K v H b:=by
 have emp:∀ {ds:List D} {vs:List V},RDs K H ds vs->(!ds.isEmpty) = !vs.isEmpty:=fun {ds vs} h=>by
  have l:=h.length
  cases ds <;> cases vs <;> first | rfl | (simp at l)
 cases x with
 | non=>cases e;cases Rp.mp r;rfl
 | bl k=>cases e;cases Rk.mp r;rfl
 | int i=>cases e;cases Rh.mp r;rfl
 | tup ds =>
   cases e
   obtain ⟨a,vs,rfl,j,rs⟩:=Ro r;exact .inr (.inl ⟨vs,j,emp rs⟩)
 | con ds =>
   cases e
   obtain ⟨a,vs,rfl,j,rs⟩:=Rm.mp r;exact .inl ⟨vs,j.sq,emp rs⟩
 | ref a =>
   cases Ri.mp r
   simp only [y4] at e
   cases e0:M a with
   | none=>rw [e0] at e;cases e
   | some o =>
     rw [e0] at e
     cases o with
     | dct _ _=>cases e
     | fdc _=>cases e
     | lst ds =>
       cases e
       obtain ⟨vs,j,rs⟩:=rm _ _ e0;exact .inl ⟨vs,SqL.of j,emp rs⟩
 | str _=>cases e
variable {a b:Expr} {ta tb:TEd} {pos:Pos}
theorem CC (m:ae ta) (B:PE X a (lE X.K ta)) (he:∀ whole,isTrue a X.env whole=(do let v <- whole;Np a.pos;holding [v] (truthy v))):PT X a (lT X.K (oi ta)):=by
 refine PT.imp (xq B he) fun σ H Q h => ?_;obtain ⟨ρ,M,rs,rm,q⟩:=h;exact ⟨ρ,M,rs,rm,m _ _ _ _ (fun x J ⟨k,e,F⟩ v H1 G j z=>⟨k,CB j z e,F H1 G j⟩) q⟩
noncomputable def jM (t:TTd):TTd:=fun ρ M Q=>t ρ M fun c M1=>Q (!c) M1
theorem uX {t:TTd} (h:aJ t):aJ (jM t):=fun ρ M Q Q' i q=>h _ _ _ _ (fun c z j=>i _ _ j) q
theorem CD {tA:TTd} (m:aJ tA) (j:PT X a (lT X.K tA)):PT X (.UnaryOp .Not a pos) (lT X.K (jM tA)):=by
 refine PT.imp (BR j) fun σ H Q h => ?_;obtain ⟨ρ,M,rs,rm,q⟩:=h;exact ⟨ρ,M,rs,rm,m _ _ _ _ (fun c B z=>z) q⟩
noncomputable def jN (t u:TTd):TTd:=fun ρ M Q=>t ρ M fun c M1=>if c=true then u ρ M1 Q else Q false M1
noncomputable def oj (t u:TTd):TTd:=fun ρ M Q=>t ρ M fun c M1=>if c=true then Q true M1 else u ρ M1 Q
theorem uY {t u:TTd} (h:aJ t) (k:aJ u):aJ (jN t u):=fun ρ M Q Q' i q=>h _ _ _ _ (fun c z j=>by
 cases c with
 | true=>rw [if_pos rfl] at j ⊢;exact k _ _ _ _ i j
 | false=>rw [if_neg Hi] at j ⊢;exact i _ _ j) q
theorem y8 {t u:TTd} (h:aJ t) (k:aJ u):aJ (oj t u):=fun ρ M Q Q' i q=>h _ _ _ _ (fun c z j=>by
 cases c with
 | true=>rw [if_pos rfl] at j ⊢;exact i _ _ j
 | false=>rw [if_neg Hi] at j ⊢;exact k _ _ _ _ i j) q
theorem AJ {tA:TTd} (j:PT X a (lT X.K tA)):PW X (.BoolOp .And [a] pos) (lT X.K tA):=Ad j
theorem CF {tA:TTd} (j:PT X a (lT X.K tA)):PW X (.BoolOp .Or [a] pos) (lT X.K tA):=BP j
theorem CG {tA tB:TTd} {rest:List Expr} (mA:aJ tA) (mB:aJ tB) (F:PT X a (lT X.K tA)) (G:PW X (.BoolOp .And (b::rest) pos) (lT X.K tB)):PW X (.BoolOp .And (a::b::rest) pos) (lT X.K (jN tA tB)):=by
 refine PW.imp (BQ F G) fun σ H Q h => ?_;obtain ⟨ρ,M,rs,rm,q⟩:=h;refine ⟨ρ,M,rs,rm,mA _ _ _ _ (fun c J z H1 B j => ?_) q⟩
 cases c with
 | true=>rw [if_pos rfl] at z ⊢;exact ⟨ρ,J,rs.mono (B.stab rm),j,mB _ _ _ _ (fun d M2 k=>k.ext B) z⟩
 | false=>rw [if_neg Hi] at z ⊢;exact z H1 B j
theorem E6 {tA tB:TTd} {rest:List Expr} (mA:aJ tA) (mB:aJ tB) (F:PT X a (lT X.K tA)) (G:PW X (.BoolOp .Or (b::rest) pos) (lT X.K tB)):PW X (.BoolOp .Or (a::b::rest) pos) (lT X.K (oj tA tB)):=by
 refine PW.imp (DH F G) fun σ H Q h => ?_;obtain ⟨ρ,M,rs,rm,q⟩:=h;refine ⟨ρ,M,rs,rm,mA _ _ _ _ (fun c J z H1 B j => ?_) q⟩
 cases c with
 | true=>rw [if_pos rfl] at z ⊢;exact z H1 B j
 | false=>rw [if_neg Hi] at z ⊢;exact ⟨ρ,J,rs.mono (B.stab rm),j,mB _ _ _ _ (fun d M2 k=>k.ext B) z⟩
noncomputable def jO (ta tb:TEd):TEd:=fun ρ M Q=>ta ρ M fun x M1 => ∃ c,x = .bl c/\if c=true then tb ρ M1 Q else Q (.bl false) M1
noncomputable def oo (ta tb:TEd):TEd:=fun ρ M Q=>ta ρ M fun x M1 => ∃ c,x = .bl c/\if c=true then Q (.bl true) M1 else tb ρ M1 Q
noncomputable def jP (ta:TEd):TEd:=fun ρ M Q=>ta ρ M fun x M1 => ∃ c,x = .bl c/\Q (.bl (!c)) M1
theorem uZ (h:ae ta) (k:ae tb):ae (jO ta tb):=fun ρ M Q Q' i q=>h _ _ _ _ (fun x z ⟨c,e,j⟩=>⟨c,e,by
 cases c with
 | true=>rw [if_pos rfl] at j ⊢;exact k _ _ _ _ i j
 | false=>rw [if_neg Hi] at j ⊢;exact i _ _ j⟩) q
theorem y9 (h:ae ta) (k:ae tb):ae (oo ta tb):=fun ρ M Q Q' i q=>h _ _ _ _ (fun x z ⟨c,e,j⟩=>⟨c,e,by
 cases c with
 | true=>rw [if_pos rfl] at j ⊢;exact i _ _ j
 | false=>rw [if_neg Hi] at j ⊢;exact k _ _ _ _ i j⟩) q
theorem v6 (h:ae ta):ae (jP ta):=fun ρ M Q Q' i q=>h _ _ _ _ (fun x z ⟨c,e,j⟩=>⟨c,e,i _ _ j⟩) q
theorem v7 {op:BoolOp} {t:TEd} (h:PE X a (lE X.K t)):PE X (.BoolOp op [a] pos) (lE X.K t):=BS h
theorem CH {rest:List Expr} (ma:ae ta) (mb:ae tb) (G:PE X a (lE X.K ta)) (J:PE X (.BoolOp .And (b::rest) pos) (lE X.K tb)):PE X (.BoolOp .And (a::b::rest) pos) (lE X.K (jO ta tb)):=by
 refine PE.imp (BU G J) fun σ H Q h => ?_;obtain ⟨ρ,M,rs,rm,q⟩:=h;refine ⟨ρ,M,rs,rm,ma _ _ _ _ (fun x L ⟨c,e,z⟩ v H1 B j F => ?_) q⟩;subst e;refine ⟨c,Rk.mp F, ?_⟩
 cases c with
 | true=>rw [if_pos rfl] at z ⊢;exact ⟨ρ,L,rs.mono (B.stab rm),j,mb _ _ _ _ (fun d M2 k=>k.ext B) z⟩
 | false=>rw [if_neg Hi] at z ⊢;exact z _ H1 B j (Rk.mpr rfl)
theorem E7 {rest:List Expr} (ma:ae ta) (mb:ae tb) (G:PE X a (lE X.K ta)) (J:PE X (.BoolOp .Or (b::rest) pos) (lE X.K tb)):PE X (.BoolOp .Or (a::b::rest) pos) (lE X.K (oo ta tb)):=by
 refine PE.imp (DK G J) fun σ H Q h => ?_;obtain ⟨ρ,M,rs,rm,q⟩:=h;refine ⟨ρ,M,rs,rm,ma _ _ _ _ (fun x L ⟨c,e,z⟩ v H1 B j F => ?_) q⟩;subst e;refine ⟨c,Rk.mp F, ?_⟩
 cases c with
 | true=>rw [if_pos rfl] at z ⊢;exact z _ H1 B j (Rk.mpr rfl)
 | false=>rw [if_neg Hi] at z ⊢;exact ⟨ρ,L,rs.mono (B.stab rm),j,mb _ _ _ _ (fun d M2 k=>k.ext B) z⟩
theorem CI (ma:ae ta) (B:PE X a (lE X.K ta)):PE X (.UnaryOp .Not a pos) (lE X.K (jP ta)):=by
 refine PE.imp (BV B) fun σ H Q h => ?_;obtain ⟨ρ,M,rs,rm,q⟩:=h;refine ⟨ρ,M,rs,rm,ma _ _ _ _ (fun x J ⟨c,e,F⟩ v H1 G j z => ?_) q⟩;subst e;exact ⟨c,Rk.mp z,F _ H1 G j (Rk.mpr rfl)⟩
noncomputable def wIf (t:TTd) (ta tb:TEd):TEd:=fun ρ M Q=>t ρ M fun c M1=>if c=true then ta ρ M1 Q else tb ρ M1 Q
theorem AK {t:TTd} (h:aJ t) (z:ae ta) (B:ae tb):ae (wIf t ta tb):=fun ρ M Q Q' i q=>h _ _ _ _ (fun c F j=>by
 cases c with
 | true=>rw [if_pos rfl] at j ⊢;exact z _ _ _ _ i j
 | false=>rw [if_neg Hi] at j ⊢;exact B _ _ _ _ i j) q
theorem E8 {c:Expr} {t:TTd} (mt:aJ t) (ma:ae ta) (mb:ae tb) (G:PT X c (lT X.K t)) (J:PE X a (lE X.K ta)) (L:PE X b (lE X.K tb)):PE X (.IfExp c a b pos) (lE X.K (wIf t ta tb)):=by
 refine PE.imp (xc G J L) fun σ H Q h => ?_;obtain ⟨ρ,M,rs,rm,q⟩:=h;refine ⟨ρ,M,rs,rm,mt _ _ _ _ (fun x F z H1 B j => ?_) q⟩
 cases x with
 | true=>rw [if_pos rfl] at z ⊢;exact ⟨ρ,F,rs.mono (B.stab rm),j,ma _ _ _ _ (fun d M2 k=>k.ext B) z⟩
 | false=>rw [if_neg Hi] at z ⊢;exact ⟨ρ,F,rs.mono (B.stab rm),j,mb _ _ _ _ (fun d M2 k=>k.ext B) z⟩
noncomputable def iZ (xs:List D) (lo hi:Option Int):List D:=(xs.drop (HT.sIx xs.length 0 lo)).take (HT.sIx xs.length xs.length hi - HT.sIx xs.length 0 lo)
theorem ot {K:Frag} {H:Hp} {ds:List D} {vs:List V} (r:RDs K H ds vs) (lo hi:Option Int):RDs K H (iZ ds lo hi) (gx vs lo hi):=by
 unfold iZ gx;rw [r.length];exact (r.drop _).take _
noncomputable abbrev TOd:=au->Mem->(Option Int->Mem->Prop)->Prop
def fS (T:TOd):Prop := ∀ ρ M Q Q',(∀ d M',Q d M'->Q' d M')->T ρ M Q->T ρ M Q'
noncomputable def ff:TOd:=fun _ M Q=>Q none M
noncomputable def jQ (t:TEd):TOd:=fun ρ M Q=>t ρ M fun x M1 => ∃ i,x = .int i/\Q (some i) M1
theorem qz:fS ff:=fun _ _ _ _ h q=>h _ _ q
theorem v8 (h:ae ta):fS (jQ ta):=fun ρ M Q Q' i q=>h _ _ _ _ (fun x z ⟨c,e,j⟩=>⟨c,e,i _ _ j⟩) q
noncomputable def lO (K:Frag) (T:TOd):TO:=fun σ H Q => ∃ ρ M,RS K H σ ρ /\ RM K M H/\T ρ M (fun o M' => ∀ H',Ext M H M' H'->RM K M' H'->Q o H')
theorem AL:PO X none (lO X.K ff):=fun pins s σ H Q I h=>by
 obtain ⟨ρ,M,rs,rm,q⟩:=h;exact An pins s σ H Q I (q H Ext.refl rm)
theorem AM {e:Expr} (m:ae ta) (h:PE X e (lE X.K ta)):PO X (some e) (lO X.K (jQ ta)):=fun pins s σ H Q I hq=>by
 obtain ⟨ρ,M,rs,rm,q⟩:=hq;refine Ao h pins s σ H Q I ⟨ρ,M,rs,rm,m _ _ _ _ (fun x G ⟨i,e,B⟩ v H1 F j z => ?_) q⟩;subst e;exact ⟨i,Rh.mp z,B H1 F j⟩
noncomputable def dA:D->Option Int->Option Int->Mem->QD->Prop:=fun x lo hi M Q=>match x with
 | .tup ds=>Q (.tup (iZ ds lo hi)) M
 | .ref a => ∃ ds,M a=some (.lst ds) /\ ∀ p,M p=none->Q (.ref p) (ag M p (.lst (iZ ds lo hi)))
 | .con ds => ∀ p,M p=none->Q (.ref p) (ag M p (.lst (iZ ds lo hi)))
 | _=>False
noncomputable def wSl (te:TEd) (tl th:TOd):TEd:=fun ρ M Q=>te ρ M fun x M1=>tl ρ M1 fun l M2=>th ρ M2 fun u M3=>dA x l u M3 Q
theorem sP {x:D} {lo hi:Option Int} {M:Mem} {Q Q':QD} (h:∀ d M',Q d M'->Q' d M') (q:dA x lo hi M Q):dA x lo hi M Q':=by
 cases x with
 | tup ds=>exact h _ _ q
 | ref a=>obtain ⟨ds,e,q⟩:=q;exact ⟨ds,e,fun p n=>h _ _ (q p n)⟩
 | con ds=>exact fun p n=>h _ _ (q p n)
 | _=>exact q.elim
theorem AN {tl th:TOd} (m:ae ta) (ml:fS tl) (mh:fS th):ae (wSl ta tl th):=fun ρ M Q Q' i q =>
 m _ _ _ _ (fun x F j=>ml _ _ _ _ (fun l M2 z=>mh _ _ _ _ (fun u G B=>sP i B) z) j) q
theorem E9 {e:Expr} {lo hi:Option Expr} {tl th:TOd} {p2:Pos} (m:ae ta) (ml:fS tl) (mh:fS th) (he:PE X e (lE X.K ta)) (hl:PO X lo (lO X.K tl)) (hu:PO X hi (lO X.K th)) :
 PE X (.Subscript e (.Slice lo hi none p2) pos) (lE X.K (wSl ta tl th)):=by
 refine PE.imp (xx (sl_tup.or (sl_list.or xD)) he hl hu) fun σ H Q h => ?_;obtain ⟨ρ,M,rs,rm,q⟩:=h;refine ⟨ρ,M,rs,rm,m _ _ _ _ (fun x M1 q1 v H1 O G U => ?_) q⟩;refine ⟨ρ,M1,rs.mono (O.stab rm),G,ml _ _ _ _ (fun l M2 q2 H2 Y L => ?_) q1⟩;refine ⟨ρ,M2,(rs.mono (O.stab rm)).mono (Y.stab G),L,mh _ _ _ _ (fun u M3 z H3 Z j => ?_) q2⟩;have B:=O.trans (Y.trans Z);have F:=(U.mono (Y.stab G)).mono (Z.stab L)
 cases x with
 | tup ds =>
   obtain ⟨a,vs,rfl,J,r⟩:=Ro F
   by_cases hw:HT.sIx vs.length 0 l=0/\HT.sIx vs.length vs.length u=vs.length
   ·refine .inr (.inr ⟨a,vs,rfl,J,hw, ?_⟩);have e:iZ ds l u=ds:=by
     unfold iZ;rw [<- r.length,hw.1,hw.2,r.length];simp
    simp only [dA] at z;rw [e] at z;exact z.ext B _ H3 Ext.refl j F
   ·simp only [dA] at z;exact .inl ⟨a,vs,rfl,J,hw,fun p n=>dY j (ot r l u) (z.ext B) n⟩
 | ref a =>
   cases Ri.mp F
   obtain ⟨ds,e,z⟩:=z;obtain ⟨vs,J,r⟩:=j _ _ e;exact .inr (.inl ⟨a,vs,rfl,SqL.of J,fun p n=>cO j (ot r l u) (fun p' n'=>(z p' n').ext B) n⟩)
 | con ds =>
   obtain ⟨a,vs,rfl,J,r⟩:=Rm.mp F;exact .inr (.inl ⟨a,vs,rfl,J.sq,fun p n=>cO j (ot r l u) (fun p' n'=>(z p' n').ext B) n⟩)
 | _=>exact z.elim
end
end
section
section
variable {X:Cx}
noncomputable def tyN (M:Mem):D->Option String
 | .non=>some "NoneType"
 | .bl _=>some "bool"
 | .int _=>some "int"
 | .str _=>some "str"
 | .tup _=>some "tuple"
 | .ref a=>match M a with
  | some (.lst _)=>some "list"
  | some (.dct _ _)=>some "dict"
  | _=>none
 | .con _=>none
noncomputable def eI (T t:String):Bool:=t==T || (t == "bool" && T == "int")
theorem zK {K:Frag} {M:Mem} {H:Hp} {x:D} {t:String} {v:V} (rm:RM K M H) (r:RD K H x v) (e:tyN M x=some t):cC K H v (.type t):=by
 cases x with
 | non=>cases e;cases Rp.mp r;exact .non
 | bl k=>cases e;cases Rk.mp r;exact .bl k
 | int i=>cases e;cases Rh.mp r;exact .int i
 | str i=>cases e;cases Rq.mp r;exact .str i
 | tup ds =>
   cases e
   obtain ⟨a,vs,rfl,j,rs⟩:=Ro r;exact .tup j
 | con ds=>cases e
 | ref a =>
   cases Ri.mp r
   simp only [tyN] at e
   cases e0:M a with
   | none=>rw [e0] at e;cases e
   | some o =>
     rw [e0] at e
     cases o with
     | lst ds =>
       cases e
       obtain ⟨vs,j,rs⟩:=rm _ _ e0;exact .lst j
     | dct t kvs =>
       cases e
       have ro:=rm _ _ e0
       cases t with
       | false=>obtain ⟨ps,j,_⟩:=ro;exact .dK j
       | true=>obtain ⟨ps,j,_⟩:=ro;exact .dT j
     | fdc kvs=>cases e
noncomputable def cP:List String := ["NoneType", "bool", "int", "str", "tuple", "list", "dict"]
theorem kT (K:Frag):∀ T∈["bool", "int", "str", "tuple", "list", "dict"], ∀ t∈cP,PySem.W.kitOne K (.type t) (.type T)=some (eI T t):=by
 intro T j t q;simp only [cP,Ho,HZ,or_false] at j q
 rcases j with rfl | rfl | rfl | rfl | rfl | rfl <;> rcases q with rfl | rfl | rfl | rfl | rfl | rfl | rfl <;> rfl
noncomputable def jR (T:String) (ta:TEd):TEd:=fun ρ M Q=>ta ρ M fun x M1 => ∃ t,tyN M1 x=some t/\Q (.bl (eI T t)) M1
theorem v9 {T:String} {ta:TEd} (h:ae ta):ae (jR T ta):=fun ρ M Q Q' i q=>h _ _ _ _ (fun x z ⟨t,e,j⟩=>⟨t,e,i _ _ j⟩) q
theorem qU {M:Mem} {x:D} {t:String} (e:tyN M x=some t):t∈cP:=by
 cases x with
 | ref a =>
   simp only [tyN] at e
   cases e0:M a with
   | none=>rw [e0] at e;cases e
   | some o=>rw [e0] at e;cases o <;> cases e <;> simp [cP]
 | con _=>cases e
 | _=>cases e;simp [cP]
theorem va (T:String) (j:T∈["bool", "int", "str", "tuple", "list", "dict"]):CallR X (.builtin "isinstance") (fun vs H Q => ∃ v t,vs=[v, .ty T]/\cC X.K H v (.type t)/\t∈cP/\Q (.bl (eI T t)) H):=by
 intro pins s σ H xs us Q I r h;obtain ⟨v,t,rfl,ty,z,q⟩:=h;obtain ⟨u,c,rfl,ru,rc⟩:=nh r
 cases rc
 exact uu I ru ty (kT X.K T j t z) fun tk=>⟨.bl _,H,I.tok tk,rfl,q⟩
theorem AO {e:Expr} {ta:TEd} {T:String} {y:Str} {p p2 pos:Pos} (L:T∈["bool", "int", "str", "tuple", "list", "dict"]) (m:ae ta) (he:PE X e (lE X.K ta)) (O:Gl X "isinstance") (hm:X.mg "isinstance" = none)
 (z:Gl X y) (B:X.mg y=none) (U:JO y=some (.type T)) (Y:y ≠ "__name__") (F:(y==("__debug__":Str))=false)
 (hs:HP [e, .Name y p2] X.env=(false,eval e X.env)::HP [.Name y p2] X.env) (G:(Lb pos (HP [.Name y p2] X.env)).any (·.1)=false) :
 PE X (.Call (.Name "isinstance" p) [e, .Name y p2] [] pos) (lE X.K (jR T ta)):=by
 have h2:PE X (.Name y p2) (tC (.ty T)):=kG z B U rfl Y F;refine PE.imp (cn (va T L) O hm (by decide +kernel) (df he (df h2 jy rfl) hs) (by decide) (by decide) hs G) fun σ H Q h => ?_
 obtain ⟨ρ,M,rs,rm,q⟩:=h;exact ⟨ρ,M,rs,rm,m _ _ _ _ (fun x M1 ⟨t,e,Z⟩ v H1 x1 j J=>⟨v,t,rfl,zK j J e,qU e,Z _ H1 x1 j (Rk.mpr rfl)⟩) q⟩
noncomputable def wBM (rd:D->List D->Mem->QD->Prop) (to:TEd) (t:TAd):TEd:=fun ρ M Q=>to ρ M fun x M1=>(∃ a xs,x = .ref a/\M1 a=some (.lst xs))/\t ρ M1 fun ds M2=>rd x ds M2 Q
def cT (rd:D->List D->Mem->QD->Prop):Prop := ∀ x ds M Q Q',(∀ d M',Q d M'->Q' d M')->rd x ds M Q->rd x ds M Q'
theorem kU {rd:D->List D->Mem->QD->Prop} {to:TEd} {t:TAd} (j:cT rd) (mo:ae to) (mt:bJ t):ae (wBM rd to t):=fun ρ M Q Q' i q =>
 mo _ _ _ _ (fun x F ⟨e,z⟩=>⟨e,mt _ _ _ _ (fun ds M2 B=>j _ _ _ _ _ i B) z⟩) q
theorem zL {K:Frag} {M:Mem} {H:Hp} {x:D} {v:V} (rm:RM K M H) (r:RD K H x v) (h:∃ a xs,x = .ref a/\M a=some (.lst xs)):tyV K "list" v H:=by
 obtain ⟨a,xs,rfl,e⟩:=h
 cases Ri.mp r
 obtain ⟨vs,j,_⟩:=rm _ _ e;exact .inl ⟨rfl,vs,SqL.of j⟩
theorem fg {K:Frag} {rd:D->List D->Mem->QD->Prop} {r:V->List V->Hp->VK->Prop} {to:TEd} {t:TAd} (L:cT rd) (mo:ae to) (mt:bJ t)
 (O:∀ v vs H Q,lMt K rd v vs H Q->r v vs H Q) (σ:St) (H:Hp) (Q:VK) (h:lE K (wBM rd to t) σ H Q):tBM K "list" r (lE K to) (lA K t) σ H Q:=by
 obtain ⟨ρ,M,rs,rm,q⟩:=h;refine ⟨ρ,M,rs,rm,mo _ _ _ _ (fun x U ⟨e,Y⟩ v H1 G j z=>⟨zL j z e, ?_⟩) q⟩;refine ⟨ρ,U,rs.mono (G.stab rm),j,mt _ _ _ _ (fun ds M2 Z vs H2 J B F => ?_) Y⟩;exact O v vs H2 Q ⟨x,ds,M2,B,z.mono (J.stab j),F,L _ _ _ _ _ (fun d M' k=>k.ext (G.trans J)) Z⟩
theorem ya {K:Frag} {rd:D->List D->Mem->QD->Prop} {r:V->List V->Hp->VK->Prop} {to:TEd} (B:cT rd) (mo:ae to)
 (F:∀ v vs H Q,lMt K rd v vs H Q->r v vs H Q) (σ:St) (H:Hp) (Q:VK) (h:lE K (wBM rd to bI) σ H Q):Ch K "list" r (lE K to) σ H Q:=by
 obtain ⟨ρ,M,rs,rm,q⟩:=h;refine ⟨ρ,M,rs,rm,mo _ _ _ _ (fun x G ⟨e,J⟩ v H1 L j z=>⟨zL j z e, ?_⟩) q⟩;exact F v [] H1 Q ⟨x,[],G,j,z,RDs.nil,B _ _ _ _ _ (fun d M' k=>k.ext L) J⟩
noncomputable def kW:D->List D->Mem->QD->Prop:=fun x ds M Q => ∃ a xs y,x = .ref a/\ds=[y]/\M a=some (.lst xs)/\xs.length < Hj/\Q .non (ag M a (.lst (xs++[y])))
noncomputable def kX:D->List D->Mem->QD->Prop:=fun x ds M Q => ∃ a b xs ys,x = .ref a/\ds=[.ref b]/\M a=some (.lst xs)/\M b=some (.lst ys)/\xs.length+ys.length<=Hj/\Q .non (ag M a (.lst (xs++ys)))
noncomputable def ou:D->List D->Mem->QD->Prop:=fun x ds M Q => ∃ a xs,x = .ref a/\ds=[]/\M a=some (.lst xs)/\Q .non (ag M a (.lst []))
theorem iN:cT kW:=fun _ _ _ _ _ h ⟨a,xs,y,e1,e2,j,z,q⟩=>⟨a,xs,y,e1,e2,j,z,h _ _ q⟩
theorem iO:cT kX:=fun _ _ _ _ _ h ⟨a,b,xs,y,e1,e2,j,B,z,q⟩=>⟨a,b,xs,y,e1,e2,j,B,z,h _ _ q⟩
theorem jS:cT ou:=fun _ _ _ _ _ h ⟨a,xs,e1,e2,j,q⟩=>⟨a,xs,e1,e2,j,h _ _ q⟩
theorem fh {K:Frag} {M:Mem} {H:Hp} {Q:VK} {d:D} {v:V} {a:Addr} {o0:O} {ds:List D} {vs:List V} (rm:RM K M H) (m:M a=some o0) (rd:RDs K H ds vs) (r:RD K H d v) (q:KE' K M H Q d (ag M a (.lst ds))) (w:fz (some o0)=false:=by rfl) :
 Q v (upd H a (.lst vs)):=by
 have st:Stab H (upd H a (.lst vs)):=rm.stabPut m w;exact q v _ (Ext.put m w) (rm.put m ⟨vs,az,rd.mono st⟩ w) (r.mono st)
theorem yb {K:Frag} (v:V) (vs:List V) (H:Hp) (Q:VK) (h:lMt K kW v vs H Q):qO v vs H Q:=by
 obtain ⟨x,ds,M,rm,rx,rs,a,xs,y,rfl,rfl,e,z,q⟩:=h
 cases Ri.mp rx
 obtain ⟨w,rfl,rw'⟩:=rs.one;obtain ⟨us,j,ru⟩:=rm _ _ e;exact ⟨a,us,w,rfl,rfl,j,by rw [ru.length];exact z,fh rm e (ru.append (RDs.cons rw' RDs.nil)) (Rp.mpr rfl) q⟩
theorem yc {K:Frag} (v:V) (vs:List V) (H:Hp) (Q:VK) (h:lMt K kX v vs H Q):qP v vs H Q:=by
 obtain ⟨x,ds,M,rm,rx,rs,a,b,xs,y,rfl,rfl,e,e2,z,q⟩:=h
 cases Ri.mp rx
 obtain ⟨w,rfl,rw'⟩:=rs.one
 cases Ri.mp rw'
 obtain ⟨us,B,ru⟩:=rm _ _ e;obtain ⟨ws,F,j⟩:=rm _ _ e2;have l1:=ru.length;have l2:=j.length;exact ⟨a,b,us,ws,rfl,rfl,B,F,by lia,fh rm e (ru.append j) (Rp.mpr rfl) q⟩
theorem AQ {K:Frag} (v:V) (vs:List V) (H:Hp) (Q:VK) (h:lMt K ou v vs H Q):uG v vs H Q:=by
 obtain ⟨x,ds,M,rm,rx,rs,a,xs,rfl,rfl,e,q⟩:=h
 cases Ri.mp rx
 obtain ⟨us,j,ru⟩:=rm _ _ e;exact ⟨a,us,rfl,RDs.nil_iff.mp rs,j,fh rm e RDs.nil (Rp.mpr rfl) q⟩
noncomputable abbrev BT:=D->au->Option au
noncomputable abbrev BTs:=List D->au->Option au
noncomputable def bn (i:Nat):BT:=fun d ρ => some (ρ.set i (some d))
noncomputable def fT:BTs:=fun ds ρ => match ds with | [] => some ρ | _=>none
noncomputable def bX (b:BT) (bs:BTs):BTs:=fun ds ρ => match ds with | d::r=>(b d ρ).bind fun ρ'=>bs r ρ' | [] => none
noncomputable def kY (bs:BTs):BT:=fun d ρ => match d with | .tup ds=>bs ds ρ | _=>none
noncomputable def lG (K:Frag) (b:BT):TG:=fun v σ H Q => ∃ d ρ ρ',RD K H d v/\RS K H σ ρ /\ b d ρ = some ρ' /\ ∀ σ',RS K H σ' ρ'->Q σ' H
noncomputable def lGs (K:Frag) (b:BTs):TGs:=fun vs σ H Q => ∃ ds ρ ρ',RDs K H ds vs/\RS K H σ ρ /\ b ds ρ = some ρ' /\ ∀ σ',RS K H σ' ρ'->Q σ' H
theorem PG.imp {e:Expr} {t t':TG} (h:PG X e t) (i:∀ v σ H Q,t' v σ H Q->t v σ H Q):PG X e t':=fun pins s σ H v u Q I r q=>h pins s σ H v u Q I r (i _ _ _ _ q)
theorem PGs.imp {e:List Expr} {t t':TGs} (h:PGs X e t) (i:∀ v σ H Q,t' v σ H Q->t v σ H Q):PGs X e t':=fun pins s σ H v u Q I r q=>h pins s σ H v u Q I r (i _ _ _ _ q)
theorem AR {i:Nat} {x:Str} {pos:Pos} (j:X.N.Nodup) (hi:X.N[i]? = some x) (hx:Loc X.env.scope x) (hf:X.fn x=true∨X.env.scope.names.lookup x=some .local):PG X (.Name x pos) (lG X.K (bn i)) :=
 PG.imp (qL j hi hx hf) fun v σ H Q ⟨d, ρ, ρ',r,rs,e,q⟩=>by
  cases e
  exact q _ (rs.set i r)
theorem AS:PGs X [] (lGs X.K fT):=PGs.imp Ah fun vs σ H Q ⟨ds, ρ, ρ',r,rs,e,q⟩=>by
 cases ds with
 | nil=>cases e;exact ⟨RDs.nil_iff.mp r,q σ rs⟩
 | cons _ _=>cases e
theorem yd {e:Expr} {es:List Expr} {b:BT} {bs:BTs} (h1:PG X e (lG X.K b)) (h2:PGs X es (lGs X.K bs)) (hs:(IS (e::es) X.env).map (·.2)=assign e X.env::(IS es X.env).map (·.2)) :
 PGs X (e::es) (lGs X.K (bX b bs)):=PGs.imp (xh h1 h2 hs) fun vs σ H Q ⟨ds, ρ, ρ',r,rs,e,q⟩=>by
 cases ds with
 | nil=>cases e
 | cons d ds =>
   obtain ⟨v,vr,rfl,j,z⟩:=Rj.mp r;simp only [bX] at e
   cases e1:b d ρ with
   | none=>rw [e1] at e;cases e
   | some ρ1 =>
     rw [e1] at e;exact ⟨v,vr,rfl,d, ρ, ρ1,j,rs,e1,fun σ' rs'=>⟨ds, ρ1, ρ',z,rs',e,q⟩⟩
theorem CJ {es:List Expr} {k:Nat} {bs:BTs} {n:Nat} {pos:Pos} (z:X.calm=true) (hlen:∀ ds ρ ρ',bs ds ρ = some ρ'->ds.length=n) (h:PGs X es (lGs X.K bs)) (B:(IS es X.env).length=n) (j:(IS es X.env).findIdx? (·.1)=none) :
 PG X (.Tuple es k pos) (lG X.K (kY bs)):=PG.imp (C1 z h B j) fun v σ H Q ⟨d, ρ, ρ',r,rs,e,q⟩=>by
 cases d with
 | tup ds =>
   obtain ⟨a,vs,rfl,F,rv⟩:=Ro r;exact ⟨a,vs,rfl,F,by rw [rv.length];exact hlen _ _ _ e,ds, ρ, ρ',rv,rs,e,q⟩
 | _=>cases e
noncomputable abbrev TId:=au->Mem->(List D->(Mem->Prop)->Mem->Prop)->Prop
def cH (T:TId):Prop := ∀ ρ M Q Q',(∀ xs c M',Q xs c M'->Q' xs c M')->T ρ M Q->T ρ M Q'
def Yl (H H':Hp):Prop:=H'=H ∨ ∃ q vs,H q=none/\H'=upd H q (.tup vs)
def gD (K:Frag) (H1:Hp) (xs:List D) (chk:Mem->Prop) (J:It):Prop := ∀ M H,Stab H1 H->RM K M H->chk M -> ∀ i,(xs.length<=i->J.stop i H)/\(i < xs.length->J.go i H /\
 ∀ x H',J.yld i H x H'->Yl H H' /\ ∃ d,xs[i]? = some d/\RD K H' d x)
noncomputable def lI (K:Frag) (T:TId):TI:=fun σ H R => ∃ ρ M,RS K H σ ρ /\ RM K M H/\T ρ M (fun xs chk M1 => ∀ J H1,Ext M H M1 H1->RM K M1 H1->gD K H1 xs chk J->R J H1)
theorem PI.imp {tg e:Expr} {t t':TI} (h:PI X tg e t) (i:∀ σ H Q,t' σ H Q->t σ H Q):PI X tg e t':=fun pins s σ H Q I q=>h pins s σ H Q I (i _ _ _ q)
theorem Yl.ext {K:Frag} {M:Mem} {H H':Hp} (rm:RM K M H) (y:Yl H H'):Ext M H M H'/\RM K M H':=by
 rcases y with rfl | ⟨q,vs,n,rfl⟩
 ·exact ⟨Ext.refl,rm⟩
 ·exact ⟨Rr n,rm.new n⟩
noncomputable def EW (K:Frag) (tl:TE):TI:=fun σ H R=>tl σ H fun x H1 => ∃ a,x = .ref a/\(((∃ xs,SqL K H1 a xs)/\R (Itl K a) H1)∨((∃ xs,SqT K H1 a xs)/\R (Itt K a) H1))
theorem CK {tg l:Expr} {tl:TE} (F:PE X l tl):PI X tg l (EW X.K tl):=by
 intro pins s σ H R I h;refine thn (F pins s σ H _ I h) fun v s1 ⟨x,H1,j,G,J⟩ => ?_;obtain ⟨a,e,q⟩:=J;subst e
 cases G
 rcases q with ⟨⟨xs,z⟩,q⟩ | ⟨⟨xs,z⟩,q⟩
 ·obtain ⟨its,rv,p,L⟩:=j.list z;refine Jr p.isList ?_;refine ⟨s1.heap.objs.size,[s1.heap.objs.size],_,_,H1,rfl,j.kept (t':=s1.toks) fun b o e=>h7 _ e,uj a _,⟨_,Hm _ rfl,rfl,rfl⟩,fun b B => ?_,q⟩;have e:b=s1.heap.objs.size:=by simpa using B
  subst e;exact j.fpOk (Hr _) (j.hok.fresh (Hr _))
 ·obtain ⟨its,rv,p,L⟩:=j.tuple z;refine Jj (show s1.heap.IsTuple a its.toArray from p) ?_;refine ⟨s1.heap.objs.size,[s1.heap.objs.size],_,_,H1,rfl,j.kept (t':=s1.toks) fun b o e=>h7 _ e,sj a _,⟨_,Hm _ rfl,rfl,rfl⟩,fun b B => ?_,q⟩;have e:b=s1.heap.objs.size:=by simpa using B
  subst e;exact j.fpOk (Hr _) (j.hok.fresh (Hr _))
noncomputable def ow (ta:TEd):TId:=fun ρ M R=>ta ρ M fun x M1 => ∃ ds,aw M1 x=some ds/\R ds (fun M=>aw M x=some ds) M1
theorem ye {ta:TEd} (h:ae ta):cH (ow ta):=fun ρ M Q Q' i q=>h _ _ _ _ (fun x z ⟨ds,e,j⟩=>⟨ds,e,i _ _ _ j⟩) q
theorem vc {K:Frag} {H1:Hp} {a:Addr} {ds:List D} {chk:Mem->Prop} (h:∀ M H,Stab H1 H->RM K M H->chk M -> ∃ vs,SqL K H a vs/\RDs K H ds vs):gD K H1 ds chk (Itl K a):=fun M H st rm c i=>by
 obtain ⟨vs,sq,r⟩:=h M H st rm c;have l:=r.length;refine ⟨fun hi=>⟨vs,sq,by lia⟩,fun hi=>⟨⟨vs,vs[i]'(by lia),sq,z4 (by lia)⟩,fun x H' y => ?_⟩⟩
 obtain ⟨e,y⟩:=y;subst e;exact ⟨.inl rfl,r.getV (y vs sq)⟩
theorem CL {K:Frag} {H1:Hp} {a:Addr} {ds:List D} {chk:Mem->Prop} (h:∀ M H,Stab H1 H->RM K M H->chk M -> ∃ vs,SqT K H a vs/\RDs K H ds vs):gD K H1 ds chk (Itt K a):=fun M H st rm c i=>by
 obtain ⟨vs,sq,r⟩:=h M H st rm c;have l:=r.length;refine ⟨fun hi=>⟨vs,sq,by lia⟩,fun hi=>⟨⟨vs,vs[i]'(by lia),sq,z4 (by lia)⟩,fun x H' y => ?_⟩⟩
 obtain ⟨e,y⟩:=y;subst e;exact ⟨.inl rfl,r.getV (y vs sq)⟩
theorem CM {tg l:Expr} {ta:TEd} (m:ae ta) (G:PE X l (lE X.K ta)):PI X tg l (lI X.K (ow ta)):=by
 refine PI.imp (CK G) fun σ H R h => ?_;obtain ⟨ρ,M,rs,rm,q⟩:=h;refine ⟨ρ,M,rs,rm,m _ _ _ _ (fun x L ⟨ds,e,B⟩ v H1 F j rd1 => ?_) q⟩
 cases x with
 | tup es =>
   cases e
   obtain ⟨a,vs,rfl,z,rv⟩:=Ro rd1;exact ⟨a,rfl, .inr ⟨⟨vs,z⟩,B _ H1 F j (CL fun M' H' st _ _=>⟨vs,st.sqT z,rv.mono st⟩)⟩⟩
 | con es =>
   cases e
   obtain ⟨a,vs,rfl,z,rv⟩:=Rm.mp rd1;exact ⟨a,rfl, .inl ⟨⟨vs,z.sq⟩,B _ H1 F j (vc fun M' H' st _ _=>⟨vs,(st.sqF z).sq,rv.mono st⟩)⟩⟩
 | ref a =>
   cases Ri.mp rd1
   have get:∀ {M':Mem} {es:List D},aw M' (.ref a)=some es->M' a=some (.lst es):=fun {M' es} e=>by
    simp only [aw] at e
    cases e0:M' a with
    | none=>rw [e0] at e;cases e
    | some o =>
      rw [e0] at e
      cases o with
      | dct _ _=>cases e
      | fdc _=>cases e
      | lst es'=>cases e;rfl
   obtain ⟨vs,z,rv⟩:=j _ _ (get e);exact ⟨a,rfl, .inl ⟨⟨vs,SqL.of z⟩,B _ H1 F j (vc fun M' H' st rm' c=>by
    obtain ⟨us,J,ru⟩:=rm' _ _ (get c);exact ⟨us,SqL.of J,ru⟩)⟩⟩
 | _=>cases e
noncomputable def cv (lo:Int) (n:Nat):List D:=(Hz n).map fun i => .int (lo+(i:Nat))
theorem CN {K:Frag} {H1:Hp} {lo:Int} {n:Nat}:gD K H1 (cv lo n) (fun _=>True) (Itr lo n):=fun M H st rm c i=>by
 have l:(cv lo n).length=n:=by simp [cv]
 refine ⟨fun hi=>by show n<=i;lia,fun hi=>⟨by show i < n;lia,fun x H' y => ?_⟩⟩
 obtain ⟨e,y⟩:=y;subst e y;refine ⟨.inl rfl, .int (lo+i), ?_,Rh.mpr rfl⟩;simp only [cv,HM,Mz (show i < n by lia),KQ]
noncomputable def jT (ta:TAd):TId:=fun ρ M R=>ta ρ M fun ds M1 => ∃ j:Int,ds=[.int j] /\ -(2 ^ 62)<=j/\j < 2 ^ 62/\R (cv 0 j.toNat) (fun _=>True) M1
theorem vd {ta:TAd} (h:bJ ta):cH (jT ta):=fun ρ M Q Q' i q=>h _ _ _ _ (fun x B ⟨j,e,a,b,z⟩=>⟨j,e,a,b,i _ _ _ z⟩) q
theorem AT {tg a:Expr} {ta:TAd} {p pos:Pos} (m:bJ ta) (B:Gl X "range") (hm:X.mg "range" = none) (F:PA X [a] (lA X.K ta)) (hs:HP [a] X.env=[(false,eval a X.env)]):PI X tg (.Call (.Name "range" p) [a] [] pos) (lI X.K (jT ta)):=by
 refine PI.imp (uk B hm F hs) fun σ H R h => ?_;obtain ⟨ρ,M,rs,rm,q⟩:=h;refine ⟨ρ,M,rs,rm,m _ _ _ _ (fun ds U ⟨j,e,G,J,L⟩ vs H1 O z rd1 => ?_) q⟩;subst e;obtain ⟨v,rfl,r⟩:=rd1.one
 cases Rh.mp r
 exact ⟨j,rfl,G,J,L _ H1 O z CN⟩
end
end
section
section
variable {X:Cx}
noncomputable def isT:D->Bool | .tup _=>true | _=>false
theorem fi {K:Frag} {M:Mem} {H:Hp} {x:D} {ds:List D} {v:V} (rm:RM K M H) (r:RD K H x v) (e:aw M x=some ds):∃ p vs,v = .ref p/\SqV K (isT x) H p vs/\RDs K H ds vs:=by
 cases x with
 | tup es =>
   cases e
   obtain ⟨a,vs,rfl,j,rv⟩:=Ro r;exact ⟨a,vs,rfl,j,rv⟩
 | con es =>
   cases e
   obtain ⟨a,vs,rfl,j,rv⟩:=Rm.mp r;exact ⟨a,vs,rfl,j.sq,rv⟩
 | ref a =>
   cases Ri.mp r
   simp only [aw] at e
   cases e0:M a with
   | none=>rw [e0] at e;cases e
   | some o =>
     rw [e0] at e
     cases o with
     | dct _ _=>cases e
     | fdc _=>cases e
     | lst es =>
       cases e
       obtain ⟨vs,j,rv⟩:=rm _ _ e0;exact ⟨a,vs,rfl,SqL.of j,rv⟩
 | _=>cases e
noncomputable def i7 (x y:D):D := .tup [x,y]
noncomputable def ox (ta tb:TEd):TId:=fun ρ M R=>aH ta (aH tb bI) ρ M fun ds M1 => ∃ x y xs ys,ds=[x,y]/\aw M1 x=some xs/\aw M1 y=some ys/\R (L7 i7 xs ys) (fun M=>aw M x=some xs/\aw M y=some ys) M1
theorem yf {ta tb:TEd} (j:ae ta) (z:ae tb):cH (ox ta tb):=fun ρ M Q Q' i q=>ar j (ar z ax) _ _ _ _ (fun ds F ⟨x,y,xs,ys,e,e1,e2,B⟩=>⟨x,y,xs,ys,e,e1,e2,i _ _ _ B⟩) q
theorem oz {H:Hp} {p:Addr} {o:HO} (n:H p=none):Stab H (upd H p o):=⟨fun a xs e=>by rw [am (fun z=>by rw [z,n] at e;cases e)];exact e,fun a o u e=>by rw [am (fun z=>by rw [z,n] at e;cases e)];exact e⟩
theorem CO {K:Frag} {H1:Hp} {x y:D} {xs ys:List D} {a b:Addr} (rx:RD K H1 x (.ref a)) (ry:RD K H1 y (.ref b)):gD K H1 (L7 i7 xs ys) (fun M=>aw M x=some xs/\aw M y=some ys) (Itz K (isT x) (isT y) a b):=fun M H st rm c i=>by
 obtain ⟨O,vs,e1,j,G⟩:=fi rm (rx.mono st) c.1;obtain ⟨p2,us,e2,q,J⟩:=fi rm (ry.mono st) c.2
 cases e1
 cases e2
 have l1:=G.length;have l2:=J.length;have lz:(L7 i7 xs ys).length=min xs.length ys.length:=List.length_zipWith;refine ⟨fun hi=>⟨vs,us,j,q,by lia⟩,fun hi=>⟨⟨vs,us,vs[i]'(by lia),us[i]'(by lia),j,q,z4 (by lia),z4 (by lia)⟩,fun v H' L => ?_⟩⟩
 obtain ⟨p,v1,v2,n,rfl,rfl,g⟩:=L;obtain ⟨g1,g2⟩:=g vs us j q;obtain ⟨d1,z,B⟩:=G.getV g1;obtain ⟨d2,hd2,F⟩:=J.getV g2;have sb:=oz (o := .tup [v1,v2]) n;refine ⟨.inr ⟨p,[v1,v2],n,rfl⟩, .tup [d1,d2], ?_,Ru ⟨p,[v1,v2],rfl,az,RDs.cons (B.mono sb) (RDs.cons (F.mono sb) RDs.nil)⟩⟩;rw [List.getElem?_zipWith,z,hd2];rfl
theorem CP {elts:List Expr} {cx} {pos p pos':Pos} {a b:Expr} {ta tb:TEd} (ma:ae ta) (mb:ae tb) (G:Gl X "zip") (hm:X.mg "zip" = none) (J:PA X [a,b] (lA X.K (aH ta (aH tb bI)))) (hs:HP [a,b] X.env=[(false,eval a X.env),(false,eval b X.env)]) (z:HP [b] X.env=[(false,eval b X.env)]) :
 PI X (.Tuple elts cx pos) (.Call (.Name "zip" p) [a,b] [] pos') (lI X.K (ox ta tb)):=by
 refine PI.imp (Cq G hm J hs z) fun σ H R h => ?_;obtain ⟨ρ,M,rs,rm,q⟩:=h;refine ⟨ρ,M,rs,rm,ar ma (ar mb ax) _ _ _ _ (fun ds Y ⟨x,y,xs,ys,e,e1,e2,L⟩ vs H1 O j rd1 => ?_) q⟩;subst e;obtain ⟨v,u,rfl,B,F⟩:=rd1.two;obtain ⟨U,vs,rfl,s1,_⟩:=fi j B e1;obtain ⟨p2,us,rfl,s2,_⟩:=fi j F e2;exact ⟨U,p2,isT x,isT y,vs,us,rfl,s1,s2,L _ H1 O j (CO B F)⟩
end
end
section
section
variable {X:Cx}
noncomputable def fU (xs:List D):List D:=xs.mapIdx fun i x => .tup [.int (i:Nat),x]
noncomputable def jU (ta:TEd):TId:=fun ρ M R=>ta ρ M fun x M1 => ∃ xs,aw M1 x=some xs/\R (fU xs) (fun M=>aw M x=some xs) M1
theorem ve {ta:TEd} (h:ae ta):cH (jU ta):=fun ρ M Q Q' i q=>h _ _ _ _ (fun x z ⟨ds,e,j⟩=>⟨ds,e,i _ _ _ j⟩) q
theorem CQ {K:Frag} {H1:Hp} {x:D} {xs:List D} {a:Addr} (rx:RD K H1 x (.ref a)):gD K H1 (fU xs) (fun M=>aw M x=some xs) (Ite K (isT x) a):=fun M H st rm c i=>by
 obtain ⟨G,vs,e1,j,B⟩:=fi rm (rx.mono st) c
 cases e1
 have l1:=B.length;have lz:(fU xs).length=xs.length:=by simp [fU]
 refine ⟨fun hi=>⟨vs,j,by lia⟩,fun hi=>⟨⟨vs,vs[i]'(by lia),j,z4 (by lia)⟩,fun v H' F => ?_⟩⟩
 obtain ⟨p,v1,n,rfl,rfl,g⟩:=F;obtain ⟨d1,q,z⟩:=B.getV (g vs j);have sb:=oz (o := .tup [.int (i:Nat),v1]) n;refine ⟨.inr ⟨p,[.int (i:Nat),v1],n,rfl⟩, .tup [.int (i:Nat),d1], ?_,Ru ⟨p,[.int (i:Nat),v1],rfl,az,RDs.cons (Rh.mpr rfl) (RDs.cons (z.mono sb) RDs.nil)⟩⟩;simp [fU,OH,q]
theorem AU {elts:List Expr} {cx} {pos p pos':Pos} {a:Expr} {ta:TEd} (ma:ae ta) (B:Gl X "enumerate") (hm:X.mg "enumerate" = none) (F:PA X [a] (lA X.K (aH ta bI))) (hs:HP [a] X.env=[(false,eval a X.env)]) :
 PI X (.Tuple elts cx pos) (.Call (.Name "enumerate" p) [a] [] pos') (lI X.K (jU ta)):=by
 refine PI.imp (Ar B hm F hs) fun σ H R h => ?_;obtain ⟨ρ,M,rs,rm,q⟩:=h;refine ⟨ρ,M,rs,rm,ma _ _ _ _ (fun x O ⟨xs,e1,G⟩ vs H1 J j rd1 => ?_) q⟩;obtain ⟨v,rfl,z⟩:=rd1.one;obtain ⟨L,us,rfl,s1,_⟩:=fi j z e1;exact ⟨L,isT x,us,rfl,s1,G _ H1 J j (CQ z)⟩
end
end
section
noncomputable abbrev NC:=au->Mem->List D->Prop
noncomputable abbrev TCd:=au->Mem->List D->NC->Prop
def cz (T:TCd):Prop := ∀ ρ M acc N N',(∀ ρ' M' acc',N ρ' M' acc'->N' ρ' M' acc')->T ρ M acc N->T ρ M acc N'
structure ExtP (p:Addr) (M:Mem) (H:Hp) (M':Mem) (H':Hp):Prop where
 kp:∀ a o,a≠p->fz (M a)=true->H a=some o->H' a=some o
 nw:∀ a o,fz (M a)=true->H a=some o->M' a=M a
section
variable {K:Frag} {M M' M'':Mem} {H H' H'':Hp} {p:Addr}
theorem ExtP.new (x:ExtP p M H M' H') (a:Addr) (o:HO) (n:M a=none) (e:H a=some o):M' a=none:=(x.nw a o (by rw [n];rfl) e).trans n
theorem Ext.toP (x:Ext M H M' H'):ExtP p M H M' H':=⟨fun a o _=>x.kp a o,x.nw⟩
theorem ExtP.refl:ExtP p M H M H:=⟨fun _ _ _ _ h=>h,fun _ _ _ _=>rfl⟩
theorem ExtP.trans {vs:List V} (a:ExtP p M H M' H') (q:H p=some (.lst vs)) (j:∃ vs',H' p=some (.lst vs')) (b:ExtP p M' H' M'' H''):ExtP p M H M'' H'' :=
 ⟨fun c o ne n h=>b.kp c o ne (by rw [a.nw c o n h];exact n) (a.kp c o ne n h),fun c o n h=>by
   have n':fz (M' c)=true:=by rw [a.nw c o n h];exact n
   refine Eq.trans ?_ (a.nw c o n h)
   by_cases z:c=p
   ·subst z;obtain ⟨vs',e⟩:=j;exact b.nw c _ n' e
   ·exact b.nw c o n' (a.kp c o z n h)⟩
theorem ExtP.stab {vs:List V} (r:RM K M H) (j:H p=some (.lst vs)) (x:ExtP p M H M' H'):Stab H H' where
 tup:=fun a xs e=>x.kp a _ (fun z=>by subst z;rw [j] at e;cases e) (by rw [r.fzT e];rfl) e
 frz:=fun a o u e=>x.kp a _ (fun z=>by subst z;rw [j] at e;cases e) (r.fzF e) e
theorem oA {vs:List V} {ho:HO} (j:H p=some (.lst vs)):Stab H (upd H p ho) :=
 ⟨fun a xs e=>by rw [am (fun z=>by subst z;rw [j] at e;cases e)];exact e,fun a o u e=>by rw [am (fun z=>by subst z;rw [j] at e;cases e)];exact e⟩
theorem RM.side {vs:List V} {ho:HO} (r:RM K M H) (n:M p=none) (j:H p=some (.lst vs)):RM K M (upd H p ho):=fun a o e=>by
 have ne:a≠p:=fun z=>by subst z;rw [n] at e;cases e
 exact (r a o e).mono (oA j) fun B q=>by rw [am ne];exact q
end
def i8 (K:Frag) (H:Hp) (p:Addr) (acc:List D):Prop := ∃ vs,H p=some (.lst vs)/\RDs K H acc vs
noncomputable def KC (K:Frag) (p:Addr) (M:Mem) (H:Hp) (N:St->Hp->Prop):NC:=fun ρ' M' acc' => ∀ σ' H',ExtP p M H M' H'->RS K H' σ' ρ'->RM K M' H'->i8 K H' p acc'->N σ' H'
noncomputable def lC (K:Frag) (p:Addr) (T:TCd):TC:=fun σ H N => ∃ ρ M acc,RS K H σ ρ /\ RM K M H/\M p=none/\i8 K H p acc/\T ρ M acc (KC K p M H N)
theorem KC.ext {K:Frag} {p:Addr} {M M2 M':Mem} {H H2:Hp} {N:St->Hp->Prop} {ρ:au} {acc:List D} {vs:List V} (q:H p=some (.lst vs)) (j:∃ vs',H2 p=some (.lst vs')) (x:ExtP p M H M2 H2) (h:KC K p M H N ρ M' acc):KC K p M2 H2 N ρ M' acc :=
 fun σ' H' y=>h σ' H' (x.trans q j y)
noncomputable def bQ (te:TEd):TCd:=fun ρ M acc N=>te ρ M fun x M1=>acc.length < Hj/\N ρ M1 (acc++[x])
noncomputable def bN:List TTd->TCd->TCd
 | [],tb=>tb
 | t::r,tb=>fun ρ M acc N=>t ρ M fun b M1=>if b=true then bN r tb ρ M1 acc N else N ρ M1 acc
noncomputable def bo (b:BT) (tb:TCd) (chk:Mem->Prop) (N:NC):List D->NC
 | [] => fun ρ M acc=>chk M/\N ρ M acc
 | x::xs=>fun ρ M acc=>chk M /\ ∃ ρ',b x ρ = some ρ'/\tb ρ' M acc (bo b tb chk N xs)
noncomputable def dZ (src:TId) (b:BT) (tb:TCd):TCd:=fun ρ M acc N=>src ρ M fun xs chk M1=>bo b tb chk N xs ρ M1 acc
noncomputable def i9 (fr:List (Option Nat)) (src:TId) (b:BT) (tb:TCd):TEd:=fun ρ M Q=>src ρ M fun xs chk M1=>bo b tb chk (fun _ M' acc => ∀ p,M' p=none->Q (.ref p) (ag M' p (.lst acc))) xs (kP fr ρ) M1 []
theorem bV {te:TEd} (h:ae te):cz (bQ te):=fun ρ M acc N N' i q=>h _ _ _ _ (fun x B ⟨z,j⟩=>⟨z,i _ _ _ j⟩) q
theorem aV {tb:TCd} (z:cz tb):∀ {ts:List TTd},(∀ t∈ts,aJ t)->cz (bN ts tb)
 | [],_=>z
 | t::r,h=>fun ρ M acc N N' i q=>h t Ir _ _ _ _ (fun b F j=>by
   cases b with
   | true=>rw [if_pos rfl] at j ⊢;exact aV z (fun t' B=>h t' (HU _ B)) _ _ _ _ _ i j
   | false=>rw [if_neg Hi] at j ⊢;exact i _ _ _ j) q
theorem gE {b:BT} {tb:TCd} (z:cz tb) {chk:Mem->Prop} {N N':NC} (i:∀ ρ' M' acc',N ρ' M' acc'->N' ρ' M' acc'):∀ (xs:List D) (ρ:au) (M:Mem) (acc:List D),bo b tb chk N xs ρ M acc->bo b tb chk N' xs ρ M acc
 | [], ρ,M,acc,h=>⟨h.1,i _ _ _ h.2⟩
 | x::xs, ρ,M,acc,⟨c, ρ',e,q⟩=>⟨c, ρ',e,z _ _ _ _ _ (fun ρ2 M2 j B=>gE z i xs ρ2 M2 j B) q⟩
theorem iP {src:TId} {b:BT} {tb:TCd} (hs:cH src) (j:cz tb):cz (dZ src b tb):=fun ρ M acc N N' i q=>hs _ _ _ _ (fun xs c B z=>gE j i xs _ _ _ z) q
theorem mq {fr:List (Option Nat)} {src:TId} {b:BT} {tb:TCd} (hs:cH src) (j:cz tb):ae (i9 fr src b tb):=fun ρ M Q Q' i q =>
 hs _ _ _ _ (fun xs c F z=>gE j (fun _ M' acc B p n=>i _ _ (B p n)) xs _ _ _ z) q
section
variable {K:Frag} {p:Addr}
theorem gF {te:TEd} (m:ae te) (σ:St) (H:Hp) (N:St->Hp->Prop) (h:lC K p (bQ te) σ H N):zI p (lE K te) σ H N:=by
 obtain ⟨ρ,M,acc,rs,rm,n,⟨vs,L,ra⟩,q⟩:=h;refine ⟨ρ,M,rs,rm,m _ _ _ _ (fun x Y ⟨z,O⟩ v H1 F G J => ?_) q⟩;have j:=F.keep p _ n L;have U:=F.new p _ n L;have st:=F.stab rm;have B:Stab H1 (upd H1 p (.lst (vs++[v]))):=oA j;refine ⟨vs,j,by rw [ra.length];exact z,O σ _ ⟨fun a o ne m' e => ?_,F.nw⟩ ((rs.mono st).mono B) (G.side U j) ⟨vs++[v],az,((ra.mono st).mono B).append (RDs.cons (J.mono B) RDs.nil)⟩⟩
 rw [am ne];exact F.kp a o m' e
theorem jV {tb:TCd} (mb:cz tb):∀ {ts:List TTd},(∀ t∈ts,aJ t) -> ∀ (σ:St) (H:Hp) (N:St->Hp->Prop),lC K p (bN ts tb) σ H N->jE (ts.map (lT K)) (lC K p tb) σ H N
 | [],_, σ,H,N,h=>h
 | t::r,hm, σ,H,N,h=>by
   obtain ⟨ρ,M,acc,rs,rm,n,⟨vs,G,ra⟩,q⟩:=h;refine ⟨ρ,M,rs,rm,hm t Ir _ _ _ _ (fun b L F H1 z B => ?_) q⟩;have j:=z.keep p _ n G;have O:=z.new p _ n G;have st:=z.stab rm
   cases b with
   | false =>
     rw [if_neg Hi] at F;dsimp only;rw [if_neg Hi];exact F σ H1 z.toP (rs.mono st) B ⟨vs,j,ra.mono st⟩
   | true =>
     rw [if_pos rfl] at F;dsimp only;rw [if_pos rfl];exact jV mb (fun t' J=>hm t' (HU _ J)) σ H1 N ⟨ρ,L,acc,rs.mono st,B,O,⟨vs,j,ra.mono st⟩,
      aV mb (fun t' J=>hm t' (HU _ J)) _ _ _ _ _ (fun ρ' M' acc' k=>k.ext G ⟨vs,j⟩ z.toP) F⟩
theorem mv {b:BT} {tb:TCd} (mb:cz tb) {xs:List D} {chk:Mem->Prop} {J:It} {H1:Hp} {B:Mem} {Nd:NC} {N:St->Hp->Prop} {σ:St} {ρ:au} {acc:List D} (it:gD K H1 xs chk J) (rs:RS K H1 σ ρ) (rm:RM K B H1) (n:B p=none)
 (ac:i8 K H1 p acc) (q:bo b tb chk Nd xs ρ B acc) (hN:∀ ρ' M' acc' σ' H',ExtP p B H1 M' H'->RS K H' σ' ρ'->RM K M' H'->i8 K H' p acc'->Nd ρ' M' acc'->N σ' H') :
 cR J (lG K b) (lC K p tb) N σ H1:=by
 obtain ⟨F5,F,_⟩:=id ac;refine ⟨fun i m σ H=>m=xs.length - i/\i<=xs.length /\ ∃ ρ M acc,RS K H σ ρ /\ RM K M H/\M p=none/\i8 K H p acc/\ExtP p B H1 M H/\bo b tb chk Nd (xs.drop i) ρ M acc,⟨xs.length,by simp,Jn _, ρ,B,acc,rs,rm,n,ac,ExtP.refl,q⟩, ?_⟩
 rintro i m σ H ⟨rfl,hi, ρ,M,acc,rs,j,n,ac,x,q⟩;have st:=x.stab rm F;obtain ⟨vs,hp,ra⟩:=id ac
 by_cases z:i < xs.length
 ·rw [IG z] at q;obtain ⟨c, ρ',hb,q⟩:=q;obtain ⟨go,yl⟩:=(it M H st j c i).2 z;refine .inr ⟨go,fun σ' H' => ∃ m',m' < xs.length - i/\(m'=xs.length - (i+1)/\i+1<=xs.length /\ ∃ ρ M acc,RS K H' σ' ρ /\ RM K M H'/\M p=none/\i8 K H' p acc/\ExtP p B H1 M H'/\bo b tb chk Nd (xs.drop (i+1)) ρ M acc),fun σ' H' h=>h,fun x' H' y => ?_⟩;obtain ⟨yy,d,hd,rd⟩:=yl x' H' y;rw [z4 z] at hd
  cases hd
  obtain ⟨xy,rmy⟩:=yy.ext j;have sty:=xy.stab j;have G:=xy.keep p _ n hp;refine ⟨_, ρ, ρ',rd,rs.mono sty,hb,fun σ2 O => ?_⟩;refine ⟨ρ',M,acc,O,rmy,n,⟨vs,G,ra.mono sty⟩,mb _ _ _ _ _ (fun ρ3 M3 L q3 σ3 H3 x3 U Y Z => ?_) q⟩;have n3:M3 p=none:=x3.new p _ n G;exact ⟨xs.length - (i+1),by lia,rfl,z, ρ3,M3,L,U,Y,n3,Z,(x.trans F ⟨vs,hp⟩ xy.toP).trans F ⟨vs,G⟩ x3,q3⟩
 ·have e:i=xs.length:=by lia
  subst e;rw [NN] at q;exact .inl ⟨(it M H st j q.1 _).1 (Hr _),hN ρ M acc σ H x rs j ac q.2⟩
theorem iQ {src:TId} {b:BT} {tb:TCd} (ms:cH src) (mb:cz tb) (σ:St) (H:Hp) (N:St->Hp->Prop) (h:lC K p (dZ src b tb) σ H N):(lI K src) σ H fun J H1=>cR J (lG K b) (lC K p tb) N σ H1:=by
 obtain ⟨ρ,M,acc,rs,rm,n,⟨vs,B,ra⟩,q⟩:=h;refine ⟨ρ,M,rs,rm,ms _ _ _ _ (fun xs chk O G J H1 z F it => ?_) q⟩;have j:=z.keep p _ n B;have L:=z.new p _ n B;have st:=z.stab rm;exact mv mb it (rs.mono st) F L ⟨vs,j,ra.mono st⟩ G fun ρ' M' acc' σ' H' x2 rs' rm' ac' k=>k σ' H' (z.toP.trans B ⟨vs,j⟩ x2) rs' rm' ac'
theorem eR {fr:List (Option Nat)} {src:TId} {b:BT} {tb:TCd} (ms:cH src) (mb:cz tb) (σ:St) (H:Hp) (Q:VK) (h:lE K (i9 fr src b tb) σ H Q):sD (lI K src) (lG K b) (fun p=>lC K p tb) fr σ H Q:=by
 obtain ⟨ρ,M,rs,rm,q⟩:=h;refine ⟨ρ,M,rs,rm,ms _ _ _ _ (fun xs chk F O J H1 B j it p n => ?_) q⟩;have st:=B.stab rm;have xn:Ext F H1 F (upd H1 p (.lst [])):=Rr n;have stn:=xn.stab j;have L:F p=none:=j.out n;refine mv (p:=p) mb (xs:=xs) (chk:=chk) (fun M' H' st'=>it M' H' ⟨fun a xs e=>st'.tup _ _ (stn.tup _ _ e),fun a o u e=>st'.frz _ _ _ (stn.frz _ _ _ e)⟩) (((rs.mono st).mono stn).inh fr) (j.new n) L ⟨[],az,RDs.nil⟩ O fun ρ' M' acc' σ' H' G rs' rm' ac' k => ?_;obtain ⟨vs,U,ra⟩:=ac';have n':M' p=none:=G.new p _ L az;refine k p n' (.ref p) H' ⟨fun a o m e => ?_,fun a o m e => ?_⟩ (fun a o e => ?_) (Ri.mpr rfl)
 ·have e1:=B.kp a o m e;have ne:a≠p:=fun z=>by subst z;rw [n] at e1;cases e1
  exact G.kp a o ne (by rw [B.nw a o m e];exact m) (by rw [am ne];exact e1)
 ·have e1:=B.kp a o m e;have ne:a≠p:=fun z=>by subst z;rw [n] at e1;cases e1
  rw [aj ne];exact (G.nw a o (by rw [B.nw a o m e];exact m) (by rw [am ne];exact e1)).trans (B.nw a o m e)
 ·by_cases z:a=p
  ·subst z;rw [aa] at e;cases e;exact ⟨vs,U,ra⟩
  ·rw [aj z] at e;exact rm' a o e
end
end
section
noncomputable def ic:TSd:=fun D ρ M=>D.nx ρ M
noncomputable def oB (t u:TSd):TSd:=fun D ρ M=>t { D with nx:=u D } ρ M
noncomputable def gG:TSd:=fun D ρ M=>D.bk ρ M
noncomputable def jW:TSd:=fun D ρ M=>D.ct ρ M
noncomputable def jX (te:TEd):TSd:=fun D ρ M=>te ρ M fun _ M1=>D.nx ρ M1
noncomputable def oC (te:TEd):TSd:=fun D ρ M=>te ρ M D.rt
noncomputable def sIf (c:TTd) (t u:TSd):TSd:=fun D ρ M=>c ρ M fun b M1=>if b=true then t D ρ M1 else u D ρ M1
noncomputable def j3 (te:TEd) (b:BT):TSd:=fun D ρ M=>te ρ M fun x M1 => ∃ ρ',b x ρ = some ρ'/\D.nx ρ' M1
noncomputable def oD (ta:TAd) (bs:BTs):TSd:=fun D ρ M=>ta ρ M fun xs M1 => ∃ ρ',bs xs ρ = some ρ'/\D.nx ρ' M1
noncomputable def bU (b:BT) (tb:TSd) (chk:Mem->Prop) (D:bM):List Mi.D->au->Mem->Prop
 | [] => fun ρ M=>chk M/\D.nx ρ M
 | x::xs=>fun ρ M=>chk M /\ ∃ ρ',b x ρ = some ρ'/\tb { D with nx:=bU b tb chk D xs,ct:=bU b tb chk D xs,bk:=D.nx } ρ' M
noncomputable def oE (src:TId) (b:BT) (tb:TSd):TSd:=fun D ρ M=>src ρ M fun xs chk M1=>bU b tb chk D xs ρ M1
noncomputable def bB (c:TTd) (tb:TSd) (D:bM):Nat->au->Mem->Prop
 | 0=>fun _ _=>False
 | n+1=>fun ρ M=>c ρ M fun b M1=>if b=true then tb { D with nx:=bB c tb D n,ct:=bB c tb D n,bk:=D.nx } ρ M1 else D.nx ρ M1
noncomputable def gH (c:TTd) (tb:TSd):TSd:=fun D ρ M => ∃ n,bB c tb D n ρ M
theorem mw:aK ic:=fun _ _ _ _ h q=>h.nx _ _ q
theorem sQ:aK gG:=fun _ _ _ _ h q=>h.bk _ _ q
theorem vf:aK jW:=fun _ _ _ _ h q=>h.ct _ _ q
theorem vg {t u:TSd} (j:aK t) (z:aK u):aK (oB t u):=fun a b ρ M h q=>j { a with nx:=u a } { b with nx:=u b } _ _ ⟨fun ρ' M' q'=>z _ _ _ _ h q',h.rt,h.bk,h.ct⟩ q
theorem vh {te:TEd} (h:ae te):aK (jX te):=fun a b ρ M i q=>h _ _ _ _ (fun _ z j=>i.nx _ _ j) q
theorem yg {te:TEd} (h:ae te):aK (oC te):=fun a b ρ M i q=>h _ _ _ _ (fun d z j=>i.rt _ _ j) q
theorem yh {c:TTd} {t u:TSd} (z:aJ c) (B:aK t) (F:aK u):aK (sIf c t u):=fun a b ρ M i q=>z _ _ _ _ (fun k G j=>by
 cases k with
 | true=>rw [if_pos rfl] at j ⊢;exact B _ _ _ _ i j
 | false=>rw [if_neg Hi] at j ⊢;exact F _ _ _ _ i j) q
theorem yi {te:TEd} {bt:BT} (h:ae te):aK (j3 te bt):=fun a b ρ M i q=>h _ _ _ _ (fun d z ⟨ρ',e,j⟩=>⟨ρ',e,i.nx _ _ j⟩) q
theorem yj {ta:TAd} {bs:BTs} (h:bJ ta):aK (oD ta bs):=fun a b ρ M i q=>h _ _ _ _ (fun d z ⟨ρ',e,j⟩=>⟨ρ',e,i.nx _ _ j⟩) q
theorem gI {bt:BT} {tb:TSd} (j:aK tb) {chk:Mem->Prop} {a b:bM} (i:LeD a b):∀ (xs:List D) (ρ:au) (M:Mem),bU bt tb chk a xs ρ M->bU bt tb chk b xs ρ M
 | [], ρ,M,h=>⟨h.1,i.nx _ _ h.2⟩
 | x::xs, ρ,M,⟨c, ρ',e,q⟩=>⟨c, ρ',e,j { a with nx:=bU bt tb chk a xs,ct:=bU bt tb chk a xs,bk:=a.nx } { b with nx:=bU bt tb chk b xs,ct:=bU bt tb chk b xs,bk:=b.nx } _ _ ⟨fun ρ2 M2 z=>gI j i xs ρ2 M2 z,i.rt,i.nx,fun ρ2 M2 z=>gI j i xs ρ2 M2 z⟩ q⟩
theorem yk {src:TId} {bt:BT} {tb:TSd} (hs:cH src) (j:aK tb):aK (oE src bt tb):=fun a b ρ M i q=>hs _ _ _ _ (fun xs c B z=>gI j i xs _ _ z) q
theorem eY {c:TTd} {tb:TSd} (q:aJ c) (z:aK tb) {a b:bM} (i:LeD a b):∀ (n:Nat) (ρ:au) (M:Mem),bB c tb a n ρ M->bB c tb b n ρ M
 | 0, ρ,M,h=>h
 | n+1, ρ,M,h=>q _ _ _ _ (fun k F j=>by
   cases k with
   | true=>rw [if_pos rfl] at j ⊢;exact z { a with nx:=bB c tb a n,ct:=bB c tb a n,bk:=a.nx } { b with nx:=bB c tb b n,ct:=bB c tb b n,bk:=b.nx } _ _ ⟨fun ρ2 M2 B=>eY q z i n ρ2 M2 B,i.rt,i.nx,fun ρ2 M2 B=>eY q z i n ρ2 M2 B⟩ j
   | false=>rw [if_neg Hi] at j ⊢;exact i.nx _ _ j) h
theorem sR {c:TTd} {tb:TSd} (j:aJ c) (z:aK tb):aK (gH c tb):=fun a b ρ M i ⟨n,q⟩=>⟨n,eY j z i n _ _ q⟩
section
variable {K:Frag}
theorem mz (D:bS) (σ:St) (H:Hp) (h:lS K ic D σ H):sg D σ H:=by
 obtain ⟨ρ,M,A,rs,rm,l,q⟩:=h;exact l.nx ρ M σ H Ext.refl rs rm q
theorem sU (D:bS) (σ:St) (H:Hp) (h:lS K gG D σ H):uh D σ H:=by
 obtain ⟨ρ,M,A,rs,rm,l,q⟩:=h;exact l.bk ρ M σ H Ext.refl rs rm q
theorem vj (D:bS) (σ:St) (H:Hp) (h:lS K jW D σ H):zy D σ H:=by
 obtain ⟨ρ,M,A,rs,rm,l,q⟩:=h;exact l.ct ρ M σ H Ext.refl rs rm q
theorem ym {t u:TSd} (mt:aK t) (mu:aK u) (D:bS) (σ:St) (H:Hp) (h:lS K (oB t u) D σ H):BW (lS K t) (lS K u) D σ H:=by
 obtain ⟨ρ,M,A,rs,rm,l,q⟩:=h;exact ⟨ρ,M, { A with nx:=u A },rs,rm,⟨fun ρ' M' σ' H' x rs' rm' q'=>⟨ρ',M',A,rs',rm',l.ext x,q'⟩,l.rt,l.bk,l.ct⟩,q⟩
theorem vm {te:TEd} (m:ae te) (D:bS) (σ:St) (H:Hp) (h:lS K (jX te) D σ H):zz (lE K te) D σ H:=by
 obtain ⟨ρ,M,A,rs,rm,l,q⟩:=h;exact ⟨ρ,M,rs,rm,m _ _ _ _ (fun d B F v H1 z j G=>l.nx ρ B σ H1 z (rs.mono (z.stab rm)) j F) q⟩
theorem yn {te:TEd} (m:ae te) (D:bS) (σ:St) (H:Hp) (h:lS K (oC te) D σ H):BX (lE K te) D σ H:=by
 obtain ⟨ρ,M,A,rs,rm,l,q⟩:=h;exact ⟨ρ,M,rs,rm,m _ _ _ _ (fun d B F v H1 G j z=>l.rt d B v H1 G j z F) q⟩
theorem AV {c:TTd} {t u:TSd} (mc:aJ c) (D:bS) (σ:St) (H:Hp) (h:lS K (sIf c t u) D σ H):BZ (lT K c) (lS K t) (lS K u) D σ H:=by
 obtain ⟨ρ,M,A,rs,rm,l,q⟩:=h;refine ⟨ρ,M,rs,rm,mc _ _ _ _ (fun k F z H1 B j => ?_) q⟩
 cases k with
 | true=>rw [if_pos rfl] at z ⊢;exact ⟨ρ,F,A,rs.mono (B.stab rm),j,l.ext B,z⟩
 | false=>rw [if_neg Hi] at z ⊢;exact ⟨ρ,F,A,rs.mono (B.stab rm),j,l.ext B,z⟩
theorem yo {te:TEd} {b:BT} (m:ae te) (D:bS) (σ:St) (H:Hp) (h:lS K (j3 te b) D σ H):nD (lE K te) (lG K b) D σ H:=by
 obtain ⟨ρ,M,A,rs,rm,l,q⟩:=h;refine ⟨ρ,M,rs,rm,m _ _ _ _ (fun d F ⟨ρ',e,G⟩ v H1 B j z => ?_) q⟩;exact ⟨d, ρ, ρ',z,rs.mono (B.stab rm),e,fun σ' rs'=>l.nx ρ' F σ' H1 B rs' j G⟩
theorem mC {te:TEd} {i:Nat} (m:ae te) (D:bS) (σ:St) (H:Hp) (h:lS K (j3 te (bn i)) D σ H):nD (lE K te) (jv i) D σ H:=by
 obtain ⟨ρ,M,A,rs,rm,l,q⟩:=h;refine ⟨ρ,M,rs,rm,m _ _ _ _ (fun d z ⟨ρ',e,B⟩ v H1 j rm1 rd1 => ?_) q⟩
 cases e
 exact l.nx _ z _ H1 j ((rs.mono (j.stab rm)).set i rd1) rm1 B
theorem yp {src:TId} {b:BT} {tb:TSd} (ms:cH src) (mb:aK tb) (D:bS) (σ:St) (H:Hp) (h:lS K (oE src b tb) D σ H):C5 (lI K src) (lG K b) (lS K tb) D σ H:=by
 obtain ⟨ρ,M,A,rs,rm,l,q⟩:=h;refine ⟨ρ,M,rs,rm,ms _ _ _ _ (fun xs chk M1 q1 J H1 x1 G it => ?_) q⟩;refine ⟨fun i m σ H'=>m=xs.length - i/\i<=xs.length /\ ∃ ρ M2,RS K H' σ ρ /\ RM K M2 H'/\Ext M1 H1 M2 H'/\bU b tb chk A (xs.drop i) ρ M2,⟨xs.length,by simp,Jn _, ρ,M1,rs.mono (x1.stab rm),G,Ext.refl,q1⟩, ?_⟩
 rintro i m σ2 H2 ⟨rfl,hi, ρ2,M2,L,j,x2,O⟩;have U:=x2.stab G
 by_cases B:i < xs.length
 ·rw [IG B] at O;obtain ⟨c, ρ',hb,q3⟩:=O;obtain ⟨go,yl⟩:=(it M2 H2 U j c i).2 B;refine .inr ⟨go,fun σ' H' => ∃ m',m' < xs.length - i/\(m'=xs.length - (i+1)/\i+1<=xs.length /\ ∃ ρ M,RS K H' σ' ρ /\ RM K M H'/\Ext M1 H1 M H'/\bU b tb chk A (xs.drop (i+1)) ρ M),fun σ' H' h=>h,fun x' H' y => ?_⟩;obtain ⟨yy,d,hd,rd⟩:=yl x' H' y;rw [z4 B] at hd
  cases hd
  obtain ⟨xy,rmy⟩:=yy.ext j;have Y:=x1.trans (x2.trans xy);refine ⟨_, ρ2, ρ',rd,L.mono (xy.stab j),hb,fun σ3 F5 => ?_⟩;have nx:∀ ρ5 F σ5 z,Ext M2 H' F z->RS K z σ5 ρ5->RM K F z->bU b tb chk A (xs.drop (i+1)) ρ5 F -> ∃ m',m' < xs.length - i/\(m'=xs.length - (i+1)/\i+1<=xs.length /\ ∃ ρ M,RS K z σ5 ρ /\ RM K M z/\Ext M1 H1 M z/\bU b tb chk A (xs.drop (i+1)) ρ M) :=
   fun ρ5 F σ5 z Z F6 F7 q5=>⟨xs.length - (i+1),by lia,rfl,B, ρ5,F,F6,F7,(x2.trans xy).trans Z,q5⟩
  refine ⟨ρ',M2, { A with nx:=bU b tb chk A (xs.drop (i+1)),ct:=bU b tb chk A (xs.drop (i+1)),bk:=A.nx },F5,rmy,⟨nx,fun d F v z Z=>l.rt d F v z (Y.trans Z),fun ρ5 F σ5 z Z=>l.nx ρ5 F σ5 z (Y.trans Z),nx⟩,q3⟩
 ·have e:i=xs.length:=by lia
  subst e;rw [NN] at O;exact .inl ⟨(it M2 H2 U j O.1 _).1 (Hr _),l.nx ρ2 M2 σ2 H2 (x1.trans x2) L j O.2⟩
theorem sV {c:TTd} {tb:TSd} (mc:aJ c) (mb:aK tb) (D:bS) (σ:St) (H:Hp) (h:lS K (gH c tb) D σ H):ui (lT K c) (lS K tb) D σ H:=by
 obtain ⟨ρ,M,A,rs,rm,l,n,q⟩:=h;refine ⟨fun m σ' H' => ∃ ρ' M',RS K H' σ' ρ'/\RM K M' H'/\Ext M H M' H'/\bB c tb A m ρ' M',⟨n, ρ,M,rs,rm,Ext.refl,q⟩, ?_⟩;rintro m σ1 H1 ⟨ρ1,M1,J,L,x1,q1⟩
 cases m with
 | zero=>exact q1.elim
 | succ m =>
   refine ⟨ρ1,M1,J,L,mc _ _ _ _ (fun k M2 Z H2 x2 O => ?_) q1⟩;have j:=x1.trans x2;have U:=J.mono (x2.stab L)
   cases k with
   | false=>rw [if_neg Hi] at Z;dsimp only;rw [if_neg Hi];exact l.nx ρ1 M2 σ1 H2 j U O Z
   | true =>
     rw [if_pos rfl] at Z;dsimp only;rw [if_pos rfl];refine ⟨fun σ' H' => ∃ ρ' M',RS K H' σ' ρ'/\RM K M' H'/\Ext M H M' H'/\bB c tb A m ρ' M',fun σ' H' h=>⟨m,Nat.lt_succ_self m,h⟩, ρ1,M2, { A with nx:=bB c tb A m,ct:=bB c tb A m,bk:=A.nx },U,O,⟨?_,fun d z v Y B=>l.rt d z v Y (j.trans B),fun ρ5 z σ5 Y B=>l.nx ρ5 z σ5 Y (j.trans B), ?_⟩,Z⟩
     ·exact fun ρ5 z σ5 Y B F G q5=>⟨ρ5,z,F,G,j.trans B,q5⟩
     ·exact fun ρ5 z σ5 Y B F G q5=>⟨ρ5,z,F,G,j.trans B,q5⟩
end
noncomputable def ie:D->D->D->Mem->(Mem->Prop)->Prop:=fun o i v M Q => ∃ a,o = .ref a /\
 ((∃ xs k j,i = .int k/\M a=some (.lst xs)/\ixN xs.length k=some j/\Q (ag M a (.lst (xs.set j v)))) ∨
  ∃ t kvs,M a=some (.dct t kvs)/\i4 t i=true/\kvs.length < Hj/\Q (ag M a (.dct t (cJ kvs i v))))
noncomputable def oF (te to ti:TEd):TSd:=fun D ρ M=>te ρ M fun v M1=>to ρ M1 fun o M2=>ti ρ M2 fun i M3=>ie o i v M3 fun M4=>D.nx ρ M4
theorem vp {o i v:D} {M:Mem} {Q Q':Mem->Prop} (h:∀ M',Q M'->Q' M') (q:ie o i v M Q):ie o i v M Q':=by
 obtain ⟨a,e,⟨xs,k,j,e1,e2,z,q⟩ | ⟨t,kvs,e1,e2,z,q⟩⟩:=q
 ·exact ⟨a,e, .inl ⟨xs,k,j,e1,e2,z,h _ q⟩⟩
 ·exact ⟨a,e, .inr ⟨t,kvs,e1,e2,z,h _ q⟩⟩
theorem yq {te to ti:TEd} (he:ae te) (ho:ae to) (hi:ae ti):aK (oF te to ti):=fun a b ρ M i q =>
 he _ _ _ _ (fun v F j=>ho _ _ _ _ (fun o M2 z=>hi _ _ _ _ (fun k G B=>vp (fun M' q'=>i.nx _ _ q') B) z) j) q
section
variable {X:Cx} {K:Frag}
theorem yr (j:X.A.units+1 < K1):PSet X (fun o i v H Q => ∃ a H',o = .ref a/\DPut H a i v H'/\Q H'):=by
 intro pins s σ H o i v ov iv u Q I ro ri rv h;obtain ⟨a,H',rfl,g,q⟩:=h
 cases ro
 exact uK j I g ri rv fun s' I'=>⟨H',I',q⟩
theorem PSet.or {t t':si} (h:PSet X t) (h':PSet X t'):PSet X (fun o i v H Q=>t o i v H Q∨t' o i v H Q):=by
 intro pins s σ H o i v ov iv u Q I ro ri rv q
 rcases q with q | q
 ·exact h pins s σ H o i v ov iv u Q I ro ri rv q
 ·exact h' pins s σ H o i v ov iv u Q I ro ri rv q
section
variable {κ:Type} [DecidableEq κ] {H:Hp} {RK:D -> κ -> Prop} (inj:∀ {d e:D} {k : κ},RK d k->RK e k->d=e) (fn:∀ {d:D} {k k' : κ},RK d k->RK d k'->k=k')
include inj fn
theorem qV {k:D} {q : κ} (j:RK k q):∀ {kvs:List (D×D)} {ps:List (κ × V)},Ig (fun p r=>RK p.1 r.1/\RD K H p.2 r.2) kvs ps ->
 (kvs.any fun p=>decide (p.1=k))=(ps.any fun p=>decide (p.1=q))
 | _,_, .nil=>rfl
 | _,_, .cons (a:=p) (b:=r) hr t=>by
   rw [Jp,Jp,qV j t];congr 1
   by_cases e:p.1=k
   ·have e':r.1=q:=by have h1:=hr.1;rw [e] at h1;exact fn h1 j
    rw [decide_eq_true e,decide_eq_true e']
   ·have e' : ¬ r.1=q:=fun z=>e (by have h1:=hr.1;rw [z] at h1;exact inj h1 j)
    rw [decide_eq_false e,decide_eq_false e']
theorem qW {k:D} {q : κ} (B:RK k q) {d:D} {v:V} (F:RD K H d v):∀ {kvs:List (D×D)} {ps:List (κ × V)},Ig (fun p r=>RK p.1 r.1/\RD K H p.2 r.2) kvs ps ->
 Ig (fun p r=>RK p.1 r.1/\RD K H p.2 r.2) (kvs.map fun p=>if p.1=k then (p.1,d) else p) (ps.map fun p=>if p.1=q then (p.1,v) else p)
 | _,_, .nil => .nil
 | _,_, .cons (a:=p) (b:=r) j t=>by
   refine .cons ?_ (qW B F t)
   by_cases e:p.1=k
   ·have e':r.1=q:=by have h1:=j.1;rw [e] at h1;exact fn h1 B
    dsimp only;rw [if_pos e,if_pos e'];exact ⟨j.1,F⟩
   ·have e' : ¬ r.1=q:=fun z=>e (by have h1:=j.1;rw [z] at h1;exact inj h1 B)
    dsimp only;rw [if_neg e,if_neg e'];exact j
theorem j4 {k:D} {q : κ} (j:RK k q) {d:D} {v:V} (z:RD K H d v) {kvs:List (D×D)} {ps:List (κ × V)} (r:Ig (fun p r=>RK p.1 r.1/\RD K H p.2 r.2) kvs ps) :
 Ig (fun p r=>RK p.1 r.1/\RD K H p.2 r.2) (cJ kvs k d) (bF ps q v):=by
 unfold cJ bF;rw [qV (K:=K) (H:=H) (RK:=RK) inj fn j r]
 by_cases e:(ps.any fun p=>decide (p.1=q))=true
 ·rw [if_pos e,if_pos e];exact qW (RK:=RK) inj fn j z r
 ·rw [if_neg e,if_neg e];exact r.snoc ⟨j,z⟩
end
theorem yt {M:Mem} {H:Hp} {o i v:D} {ov iv vv:V} {Qd:Mem->Prop} {Q:Hp->Prop} (rm:RM K M H) (ro:RD K H o ov) (ri:RD K H i iv) (rv:RD K H v vv) (h:ie o i v M Qd) (J:∀ M' H',Ext M H M' H'->RM K M' H'->Qd M'->Q H') :
 zE ov iv vv H Q ∨ ∃ a H',ov = .ref a/\DPut H a iv vv H'/\Q H':=by
 obtain ⟨a,rfl,⟨xs,k,j,rfl,e2,G,q⟩ | ⟨t,kvs,e1,e2,G,q⟩⟩:=h
 ·cases Ri.mp ro
  cases Rh.mp ri
  obtain ⟨vs,U,rs⟩:=rm _ _ e2;have st:Stab H (upd H a (.lst (vs.set j vv))):=rm.stabPut e2;exact .inl ⟨a,vs,k,j,rfl,rfl,U,by rw [rs.length];exact G,J _ _ (Ext.put e2) (rm.put (o := .lst (xs.set j v)) e2 ⟨_,az,(rs.set j rv).mono st⟩) q⟩
 ·cases Ri.mp ro
  have ro':=rm _ _ e1
  cases t with
  | false =>
    obtain ⟨ps,L,pr⟩:=ro';obtain ⟨kq,F⟩:=nO (show fN i=true from e2);have st:Stab H (upd H a (.dK (bF ps kq vv))):=rm.stabPut e1;have B:=j4 (RK:=RKey) RKey.inj RKey.fun F rv pr;rw [kS F ri];refine .inr ⟨a,_,rfl,DPut.k L (by rw [<- Kf pr];exact G),J _ _ (Ext.put e1) (rm.put (o := .dct false (cJ kvs i v)) e1 ⟨_,az,Rl B fun _ _ z=>⟨z.1,z.2.mono st⟩⟩) q⟩
  | true =>
    obtain ⟨ps,L,pr⟩:=ro';obtain ⟨kq,F⟩:=kM (show cr i=true from e2);have st:Stab H (upd H a (.dT (bF ps kq vv))):=rm.stabPut e1;have B:=j4 (RK:=RKeys) RKeys.inj RKeys.fun F rv pr
    cases i <;> first
     | exact F.elim
     | (obtain ⟨b,us,rfl,O,ru⟩:=Rz (kN e2) ri
        rw [fP F ru] at O;exact .inr ⟨a,_,rfl,DPut.t L O (by rw [<- Kf pr];exact G),J _ _ (Ext.put e1) (rm.put (o := .dct true (cJ kvs _ v)) e1 ⟨_,az,Rl B fun _ _ z=>⟨z.1,z.2.mono st⟩⟩) q⟩)
theorem CS {o i e:Expr} {te to ti:TEd} {pos tpos:Pos} (hu:X.A.units+1 < K1) (me:ae te) (mo:ae to) (mi:ae ti) (he:PE X e (lE X.K te)) (ho:PE X o (lE X.K to)) (hi:PE X i (lE X.K ti))
 (hs:Lc [.Subscript o i tpos] e pos.line X.env=pure false) (hw:Kh [.Subscript o i tpos] e X.env=pure none)
 (ha:∀ v,assign (.Subscript o i tpos) X.env v=(do
   let ov <- holding [v] (eval o X.env)
   let iv <- holding [v,ov] (eval i X.env)
   Np tpos
   holding [v,ov,iv] (setItem ov iv v)
   release [v,ov,iv] [])):PS X (.Assign [.Subscript o i tpos] e pos) (lS X.K (oF te to ti)):=by
 refine PS.imp (nE he (C2 ho hi (PSet.or xz (yr hu)) ha) hs hw rfl) fun D σ H h => ?_;obtain ⟨ρ,M,A,rs,rm,l,q⟩:=h;refine ⟨ρ,M,rs,rm,me _ _ _ _ (fun v M1 q1 vv H1 F j G => ?_) q⟩;refine ⟨ρ,M1,rs.mono (F.stab rm),j,mo _ _ _ _ (fun ov M2 q2 vo H2 J z L => ?_) q1⟩;refine ⟨ρ,M2,(rs.mono (F.stab rm)).mono (J.stab j),z,mi _ _ _ _ (fun iv M3 q3 vi H3 O U Y => ?_) q2⟩;have B:=F.trans (J.trans O);exact yt U (L.mono (O.stab z)) Y ((G.mono (J.stab j)).mono (O.stab z)) q3 fun M' H' x4 Z q4=>l.nx ρ M' σ H' (B.trans x4) (rs.mono ((B.trans x4).stab rm)) Z q4
end
end
end Mi
end L2
namespace L2
open PySem PySem.Spec PyProof.Rows
namespace Mi
variable {K:Frag}
theorem vq {ta:TAd} {i j:Nat} (m:bJ ta) (D:bS) (σ:St) (H:Hp) (h:lS K (oD ta (bX (bn i) (bX (bn j) fT))) D σ H):C3 i j (lA K ta) D σ H:=by
 obtain ⟨ρ,M,A,rs,rm,l,q⟩:=h;refine ⟨ρ,M,rs,rm,m _ _ _ _ (fun ds G ⟨ρ',e,J⟩ vs H1 F B z => ?_) q⟩
 match ds,e,z with
 | [d1,d2],e,z =>
  obtain ⟨v,u,rfl,L,O⟩:=z.two;simp only [bX,bn,fT,LY,PY] at e;subst e;exact ⟨v,u,rfl,l.nx _ G _ H1 F (((rs.mono (F.stab rm)).set i L).set j O) B J⟩
end Mi
end L2
namespace L2
open PySem PySem.Spec PyProof.Rows
namespace Mi
end Mi
end L2
namespace L2
namespace Mi
open PySem PySem.Spec PyProof.Rows
section
section
variable {X:Cx}
noncomputable def j5:D->Option Bool
 | .bl b=>some b
 | .int i=>some (i != 0)
 | _=>none
noncomputable def sW:RAd:=fun xs M Q => ∃ x ds ts,xs=[x]/\aw M x=some ds/\aD j5 ds=some ts/\Q (.bl (ts.all id)) M
noncomputable def yu:RAd:=fun xs M Q => ∃ x ds ts,xs=[x]/\aw M x=some ds/\aD j5 ds=some ts/\Q (.bl (ts.any id)) M
theorem oG:bh sW:=fun _ _ _ _ h ⟨x,ds,ts,e,e1,e2,q⟩=>⟨x,ds,ts,e,e1,e2,h _ _ q⟩
theorem oH:bh yu:=fun _ _ _ _ h ⟨x,ds,ts,e,e1,e2,q⟩=>⟨x,ds,ts,e,e1,e2,h _ _ q⟩
theorem oI {α β:Type} {f : α -> Option β}:∀ {xs:List α} {ys:List β},aD f xs=some ys->ys.length=xs.length /\ ∀ (i:Nat) x,xs[i]? = some x -> ∃ y,ys[i]? = some y/\f x=some y
 | [],ys,h=>by cases h;exact ⟨rfl,fun i x e=>by simp at e⟩
 | x::xs,ys,h=>by
   simp only [aD] at h
   cases e1:f x with
   | none=>rw [e1] at h;cases h
   | some y =>
     rw [e1] at h;simp only [LY] at h
     cases e2:aD f xs with
     | none=>rw [e2] at h;cases h
     | some r =>
       rw [e2] at h;cases h;obtain ⟨l,g⟩:=oI e2;refine ⟨by simp [l],fun i z e => ?_⟩
       cases i with
       | zero=>simp at e;subst e;exact ⟨y,rfl,e1⟩
       | succ i=>simp at e;simpa using g i z e
theorem AW {P:HK} {w:Ie} {A:Io} {E:h6->hI->Prop} {s:hI} {K:Frag} {H:Hp} {d:D} {v:V} {u:h6} {b:Bool} {Q:Bool->hI->Prop} (e:j5 d=some b) (rd:RD K H d v) (ru:RelV v u) (q:Q b s):Ht (model P w) A (truthy u) Q E s:=by
 cases d with
 | bl c=>cases Rk.mp rd;cases ru;cases e;exact K9 q
 | int i=>cases Rh.mp rd;obtain ⟨t,rfl⟩:=ru;cases e;exact PyProof.Rows.truthy_int q
 | _=>cases e
theorem range_all {ts:List Bool}:(Hz ts.length).all (fun i=>ts.getD i false)=ts.all id/\(Hz ts.length).any (fun i=>ts.getD i false)=ts.any id:=by
 have e:(Hz ts.length).map (fun i=>ts.getD i false)=ts:=by
  apply List.ext_getElem
  ·simp
  ·intro i h1 h2;simp [Ih,z4 h2]
 constructor
 ·conv=>rhs;rw [<- e]
  rw [List.all_map];rfl
 ·conv=>rhs;rw [<- e]
  rw [List.any_map];rfl
theorem oJ (J:X.calm=true) {pins:List (Addr×Obj)} {s:hI} {σ:St} {H:Hp} {M:Mem} {x:D} {ds:List D} {ts:List Bool} {v:V} {u:h6} {Q:h6->hI->Prop} {g:List Bool->Bool} (I:Inv X pins σ H s) (rm:RM X.K M H) (rd:RD X.K H x v) (ru:RelV v u) (e1:aw M x=some ds) (e2:aD j5 ds=some ts)
 (fin:∀ h' tk,Inv X pins σ H { s with heap:=h',toks:=tk }->Q (.bool (g ts)) { s with heap:=h',toks:=tk })
 (gg:Nat->(Nat->Bool)->Bool) (L:gg ts.length (fun i=>ts.getD i false)=g ts) :
 Ht (model X.prog X.w) X.A.in1 (Pc u) (fun it s₂ => ∃ I fp wr n P St tr,it = .ref I/\Walks X.prog X.w X.A.in1 I fp wr n P St/\St 0 s₂.heap/\TruthOf X.prog X.w X.A.in1 P tr /\
  ∀ h' tk,(∀ b o,b∉wr->s₂.heap.get? b=some o->h'.get? b=some o)->Q (.bool (gg n tr)) { s₂ with heap:=h',toks:=tk }) X.xe s:=by
 obtain ⟨p,vs,rfl,sq,O⟩:=nZ rm rd e1
 cases ru
 obtain ⟨lt,get⟩:=oI e2;have lv:=O.length;have tr:∀ (its:List h6),Vals vs its->TruthOf X.prog X.w X.A.in1 (fun i w=>its.toArray[i]? = some w) (fun i=>ts.getD i false):=by
  intro its rv i w s' Q' E' U B;have q:its[i]? = some w:=by simpa using U
  have li:=rv.length;have hi:i < its.length:=(HC.mp q).1;obtain ⟨d,hd⟩:∃ d,ds[i]? = some d:=⟨ds[i]'(by lia),z4 (by lia)⟩
  obtain ⟨v',F,rd'⟩:=O.get hd;obtain ⟨u',z,ru'⟩:=rv.get F;rw [q] at z;cases z;obtain ⟨b,Y,eb⟩:=get i d hd;have:ts.getD i false=b:=by rw [Ih,Y];rfl
  have B:Q' (ts.getD i false) s':=B;rw [this] at B;exact AW eb rd' ru' B
 rcases sq with sq | sq
 ·obtain ⟨its,rv,pl,Z⟩:=I.list sq;have li:=rv.length;have j:p < s.heap.objs.size:=by obtain ⟨o,n,e,_⟩:=pl;exact Hq e
  refine Jr pl.isList ⟨s.heap.objs.size,_,_,_,_,_,_,rfl,Walks.list (by rw [Pn];exact I.ok.hd J) s.heap.objs.size p (HV j) its.toArray,⟨⟨_,Hm _ rfl,rfl,rfl⟩,pl.isList.at fun o e=>h7 _ e⟩,tr its rv,fun h' tk k => ?_⟩
  have G:its.toArray.size=ts.length:=by rw [Hl];lia
  rw [G,L];exact fin h' tk (I.kept (t':=tk) fun b o e=>k b o (by simp;exact HV (Hq e)) (h7 _ e))
 ·obtain ⟨its,rv,pl,Z⟩:=I.tuple sq;have li:=rv.length;have j:p < s.heap.objs.size:=by obtain ⟨o,e,_⟩:=pl;exact Hq e
  have pt:s.heap.IsTuple p its.toArray:=pl;refine Jj pt ⟨s.heap.objs.size,_,_,_,_,_,_,rfl,Walks.tuple (by rw [Pn];exact I.ok.hd J) s.heap.objs.size p (HV j) its.toArray,⟨⟨_,Hm _ rfl,rfl,rfl⟩,pt.push _⟩,tr its rv,fun h' tk k => ?_⟩
  have G:its.toArray.size=ts.length:=by rw [Hl];lia
  rw [G,L];exact fin h' tk (I.kept (t':=tk) fun b o e=>k b o (by simp;exact HV (Hq e)) (h7 _ e))
theorem sX (j:X.calm=true):CallR X (.builtin "all") (lR X.K sW):=by
 intro pins s σ H xs us Q I rv h;obtain ⟨ds,M,rm,rs,x,es,ts,rfl,e1,e2,q⟩:=h;obtain ⟨v,rfl,r⟩:=rs.one;obtain ⟨u,rfl,ru⟩:=dL rv;exact call_all_walk (oJ j I rm r ru e1 e2 (g:=fun ts=>ts.all id) (fun h' tk I'=>⟨.bl _,H,I',rfl,q _ H Ext.refl rm (Rk.mpr rfl)⟩) (fun n tr=>(Hz n).all tr) range_all.1)
theorem sY (j:X.calm=true):CallR X (.builtin "any") (lR X.K yu):=by
 intro pins s σ H xs us Q I rv h;obtain ⟨ds,M,rm,rs,x,es,ts,rfl,e1,e2,q⟩:=h;obtain ⟨v,rfl,r⟩:=rs.one;obtain ⟨u,rfl,ru⟩:=dL rv;exact call_any_walk (oJ j I rm r ru e1 e2 (g:=fun ts=>ts.any id) (fun h' tk I'=>⟨.bl _,H,I',rfl,q _ H Ext.refl rm (Rk.mpr rfl)⟩) (fun n tr=>(Hz n).any tr) range_all.2)
noncomputable def jY (t:Bool):TEd:=fun _ M Q => ∀ p,M p=none->Q (.ref p) (ag M p (.dct t []))
theorem vt {t:Bool}:ae (jY t):=fun _ _ _ _ i q p n=>i _ _ (q p n)
theorem AX {t:Bool} {pos:Pos}:PE X (.Dict [] [] pos) (lE X.K (jY t)):=by
 cases t with
 | false =>
   refine PE.imp xF fun σ H Q ⟨ρ,M,rs,rm,q⟩ p n => ?_;exact q p (rm.out n) (.ref p) _ (Ext.lay n) (rm.lay n ⟨[],az, .nil⟩) (Ri.mpr rfl)
 | true =>
   refine PE.imp xG fun σ H Q ⟨ρ,M,rs,rm,q⟩ p n => ?_;exact q p (rm.out n) (.ref p) _ (Ext.lay n) (rm.lay n ⟨[],az, .nil⟩) (Ri.mpr rfl)
end
end
end Mi
end L2
namespace L2
namespace Srt
open PySem PySem.Spec PyProof.Rows
structure Cm (prog:HK) (w:Ie) (A:Io) (s:hI) (kd:Lh) (P:Hk->Prop) (lt:Hk->Hk->Bool):Prop where
 asym:∀ x y,lt x y=true->lt y x=false
 neg:∀ x y z,lt x z=true->lt x y=true∨lt y z=true
 run:∀ (x y:Hk) (E:h6->hI->Prop) (Q:Bool->hI->Prop),P x->P y->Q (lt x y) s->Ht (Hy prog w) A (keyLt' kd x.1 y.1) Q E s
section
variable {prog:HK} {w:Ie} {A:Io} {E:h6->hI->Prop} {s:hI} {kd:Lh} {P:Hk->Prop} {lt:Hk->Hk->Bool}
theorem ab {σ α:Type} {M:Mn} {x : α} {st : σ} {Q : α -> σ -> Prop} (q:Q x st):wpS M A E s (pure x) Q st :=
 fun _ _ _=>⟨rfl,q⟩
theorem dg {σ:Type} {M:Mn} {tag:String} {st : σ} {Q:Unit -> σ -> Prop} (q:Q () st):wpS M A E s (liftM (PySem.rule tag)) Q st :=
 wpS_lift (Jq ⟨rfl,q⟩)
theorem AY {σ:Type} {M:Mn} {st st' : σ} {Q:PUnit -> σ -> Prop} (q:Q PUnit.unit st'):wpS M A E s (set st') Q st :=
 fun _ _ _=>⟨rfl,q⟩
theorem jZ (c:Cm prog w A s kd P lt) {x y:Hk} {st:IC} {Q:Option Bool->IC->Prop} (j:Ja st=kd) (hx:P x) (z:P y) (q:Q (some (lt x y)) st):wpS (Hy prog w) A E s (lt' x y) Q st:=by
 rw [lt'_eq];refine Hh (Lj ?_);refine Hh (wpS_lift ?_);rw [j];intro Γ p hp;rw [Sem.wp_attempt];exact c.run x y (fun e s'=>s'=s/\wpS (Hy prog w) A E s (do modify fun s=>LZ (Ja s) (Ib s) (Hx s) (gallopOf s) (some e);pure none) Q st) (fun b s'=>s'=s/\wpS (Hy prog w) A E s (pure (some b)) Q st) hx z ⟨rfl,ab q⟩ Γ p hp
theorem aE {arr:Array Hk} {i:Nat} {x:Hk} {st:IC} {Q:Hk->IC->Prop} (h:arr[i]? = some x) (q:Q x st):wpS (Hy prog w) A E s (elem' arr i) Q st:=by
 rw [elem'_eq,h];exact ab q
theorem Cm.le_trans (c:Cm prog w A s kd P lt) {x y z:Hk} (h:lt y x=false) (h2:lt z y=false):lt z x=false:=by
 cases e:lt z x with
 | false=>rfl
 | true=>rcases c.neg z y x e with q | q <;> simp_all
theorem Cm.irr (c:Cm prog w A s kd P lt) {x:Hk}:lt x x=false:=by
 cases e:lt x x with
 | false=>rfl
 | true=>have:=c.asym x x e;rw [e] at this;exact this
theorem aF {σ α:Type} {M:Mn} {m:StateT σ Sem α} {st : σ} {Q Q' : α -> σ -> Prop} (h:wpS M A E s m Q st) (q:∀ a st',Q a st'->Q' a st'):wpS M A E s m Q' st :=
 Jy h (fun a s' z=>⟨z.1,q _ _ z.2⟩) fun _ _ z=>z
end
noncomputable abbrev CT:=Bool->Hk->Array Hk->Nat->Nat->Nat->StateT IC Sem (Option Nat)
noncomputable abbrev CU:=Array Hk->Array Hk->StateT IC Sem (Array Hk)
noncomputable def bey (lt:Hk->Hk->Bool) (left:Bool) (key x:Hk):Bool:=if left=true then lt x key else !(lt key x)
structure Same (st st':IC):Prop where
 arr:Ib st'=Ib st
 kind:Ja st'=Ja st
 pend:Hx st'=Hx st
 fail:JM st'=JM st
def ig (prog:HK) (w:Ie) (A:Io) (E:h6->hI->Prop) (s:hI) (kd:Lh) (P:Hk->Prop) (lt:Hk->Hk->Bool) (g:CT):Prop :=
 ∀ (left:Bool) (key:Hk) (arr:Array Hk) (L xs R:List Hk) (base n hint:Nat) (st:IC) (Q:Option Nat->IC->Prop),Ja st=kd->P key->arr.toList=L++xs++R->base=L.length->n=xs.length->(∀ x∈xs,P x)->hint < n ->
  xs.Pairwise (fun x y=>lt y x=false) ->
  (∀ X Y,xs=X++Y->(∀ x∈X,bey lt left key x=true)->(∀ x∈Y,bey lt left key x=false)->Q (some X.length) st) ->
  wpS (Hy prog w) A E s (g left key arr base n hint) Q st
def ii (prog:HK) (w:Ie) (A:Io) (E:h6->hI->Prop) (s:hI) (kd:Lh) (P:Hk->Prop) (lt:Hk->Hk->Bool) (m:CU):Prop :=
 ∀ (a b:Array Hk) (st:IC) (Q:Array Hk->IC->Prop),Ja st=kd->(∀ x∈a.toList,P x)->(∀ x∈b.toList,P x)->0 < a.size->0 < b.size ->
  a.toList.Pairwise (fun x y=>lt y x=false)->b.toList.Pairwise (fun x y=>lt y x=false)->(∀ x y,a[0]? = some x->b[0]? = some y->lt x y=false)->(∀ x y,a[a.size - 1]? = some x->b[b.size - 1]? = some y->lt x y=false) ->
  (∀ r st',r.toList.Perm (a.toList++b.toList)->r.toList.Pairwise (fun x y=>lt y x=false)->Same st st'->Q r st') ->
  wpS (Hy prog w) A E s (m a b) Q st
section
variable {prog:HK} {w:Ie} {A:Io} {E:h6->hI->Prop} {s:hI} {kd:Lh} {P:Hk->Prop} {lt:Hk->Hk->Bool}
theorem gJ (c:Cm prog w A s kd P lt) {left:Bool} {key x:Hk} {arr:Array Hk} {j:Nat} {st:IC} {Q:Option Bool->IC->Prop} (z:Ja st=kd) (hx:P key) (B:P x) (e:arr[j]? = some x) (q:Q (some (bey lt left key x)) st) :
 wpS (Hy prog w) A E s (do
  let x <- elem' arr j
  if left=true then lt' x key else do
   let r <- lt' key x
   pure (Option.map (fun x => !x) r)) Q st:=by
 refine Hh (aE e ?_)
 cases left with
 | true=>exact jZ c z B hx q
 | false=>exact Hh (jZ c z hx B (ab q))
theorem oK (c:Cm prog w A s kd P lt) {left:Bool} {key x y:Hk} (h:lt y x=false) (j:bey lt left key y=true):bey lt left key x=true:=by
 unfold bey at j ⊢
 cases left with
 | true =>
   rw [if_pos rfl] at j ⊢
   rcases c.neg y x key j with q | q
   ·rw [h] at q;cases q
   ·exact q
 | false =>
   simp at j ⊢
   cases e:lt key x with
   | false=>rfl
   | true =>
     rcases c.neg key y x e with q | q
     ·rw [j] at q;cases q
     ·rw [h] at q;cases q
structure Gal (lt:Hk->Hk->Bool) (left:Bool) (key:Hk) (xs:List Hk) (lo hi:Nat):Prop where
 le:lo<=hi
 len:hi<=xs.length
 up:∀ i x,i < lo->xs[i]? = some x->bey lt left key x=true
 dn:∀ i x,hi<=i->xs[i]? = some x->bey lt left key x=false
theorem fj {xs:List Hk} {R:Hk->Hk->Prop} (h:xs.Pairwise R) {i j:Nat} {x y:Hk} (q:i < j) (hx:xs[i]? = some x) (z:xs[j]? = some y):R x y:=by
 obtain ⟨h1,e1⟩:=HC.mp hx;obtain ⟨h2,e2⟩:=HC.mp z;rw [<- e1, <- e2];exact List.pairwise_iff_getElem.mp h i j h1 h2 q
theorem ik (c:Cm prog w A s kd P lt) {left:Bool} {key:Hk} {xs:List Hk} (h:xs.Pairwise (fun x y=>lt y x=false)) {j:Nat} {y:Hk} (q:xs[j]? = some y) (z:bey lt left key y=true):∀ i x,i < j+1->xs[i]? = some x->bey lt left key x=true:=by
 intro i x hi hx
 by_cases e:i=j
 ·subst e;rw [hx] at q;cases q;exact z
 ·exact oK c (fj h (by lia) hx q) z
theorem im (c:Cm prog w A s kd P lt) {left:Bool} {key:Hk} {xs:List Hk} (h:xs.Pairwise (fun x y=>lt y x=false)) {j:Nat} {y:Hk} (z:xs[j]? = some y) (B:bey lt left key y=false):∀ i x,j<=i->xs[i]? = some x->bey lt left key x=false:=by
 intro i x hi hx
 by_cases e:i=j
 ·subst e;rw [hx] at z;cases z;exact B
 ·cases q:bey lt left key x with
  | false=>rfl
  | true=>have:=oK c (fj h (by lia) z hx) q;rw [B] at this;cases this
theorem Gal.out {left:Bool} {key:Hk} {xs:List Hk} {k:Nat} (g:Gal lt left key xs k k):∃ X Y,xs=X++Y/\X.length=k/\(∀ x∈X,bey lt left key x=true)/\(∀ x∈Y,bey lt left key x=false):=by
 refine ⟨xs.take k,xs.drop k,(J0 k xs).symm,by rw [HD];exact Lk g.len,fun x hx => ?_,fun x hx => ?_⟩
 ·obtain ⟨i,hi,e⟩:=JF.mp hx;rw [HD] at hi;exact g.up i x (by lia) (by rw [List.getElem_take] at e;rw [<- e];exact z4 _)
 ·obtain ⟨i,hi,e⟩:=JF.mp hx;rw [J7] at hi;refine g.dn (k+i) x (by lia) ?_
  rw [List.getElem_drop] at e;rw [<- e];exact z4 _
noncomputable abbrev Ord (lt:Hk->Hk->Bool) (l:List Hk):Prop:=l.Pairwise fun x y=>lt y x=false
theorem oM {out X A' B:List Hk} (h1:Ord lt (out++(X++A'))) (h2:Ord lt (out++B)) (h:∀ x∈X, ∀ y∈B,lt y x=false):Ord lt ((out++X)++A')/\Ord lt ((out++X)++B):=by
 refine ⟨by rw [Hn];exact h1, ?_⟩
 rw [Hn];obtain ⟨j,q,F⟩:=D2.mp h1;obtain ⟨O,p2,G⟩:=D2.mp h2;obtain ⟨J,U,Y⟩:=D2.mp q;refine D2.mpr ⟨j,D2.mpr ⟨J,p2,h⟩,fun x hx y L => ?_⟩
 rcases Hv.mp L with z | z
 ·exact F x hx y (II _ z)
 ·exact G x hx y z
structure ML (lt:Hk->Hk->Bool) (la lb out:List Hk) (ia ib:Nat):Prop where
 pa:Ord lt (out++la.drop ia)
 pb:Ord lt (out++lb.drop ib)
 pm:(out++(la.drop ia++lb.drop ib)).Perm (la++lb)
theorem qX (c:Cm prog w A s kd P lt) {l:List Hk} {i:Nat} {x y:Hk} (h:Ord lt (l.drop i)) (j:l[i]? = some y) (hx:lt y x=false):∀ z∈l.drop i,lt z x=false:=by
 obtain ⟨hi,e⟩:=HC.mp j;rw [IG hi,e] at h ⊢;intro z B
 rcases Ho.mp B with q | q
 ·rw [q];exact hx
 ·exact c.le_trans hx ((N8.mp h).1 z q)
theorem eJ {l X Y:List Hk} {i:Nat} (e:l.drop i=X++Y):l.drop (i+X.length)=Y:=by
 rw [<- N9,e,List.drop_left]
theorem ML.galA (c:Cm prog w A s kd P lt) {la lb out X Y:List Hk} {ia ib:Nat} {y:Hk} (m:ML lt la lb out ia ib) (e:la.drop ia=X++Y) (j:lb[ib]? = some y) (h:∀ x∈X,lt y x=false):ML lt la lb (out++X) (ia+X.length) ib:=by
 have p2:=(D2.mp m.pb).2.1;have q:=oM (X:=X) (A':=Y) (by rw [<- e];exact m.pa) m.pb fun x hx=>qX c p2 j (h x hx)
 refine ⟨by rw [eJ e];exact q.1,q.2, ?_⟩
 rw [eJ e];refine JJ.trans (KS ?_) m.pm;rw [e];simp
theorem ML.galB (c:Cm prog w A s kd P lt) {la lb out X Y:List Hk} {ia ib:Nat} {y:Hk} (m:ML lt la lb out ia ib) (e:lb.drop ib=X++Y) (j:la[ia]? = some y) (h:∀ x∈X,lt y x=false):ML lt la lb (out++X) ia (ib+X.length):=by
 have p2:=(D2.mp m.pa).2.1;have q:=oM (X:=X) (A':=Y) (by rw [<- e];exact m.pb) m.pa fun x hx=>qX c p2 j (h x hx)
 refine ⟨q.2,by rw [eJ e];exact q.1, ?_⟩
 rw [eJ e];refine JJ.trans ?_ m.pm;rw [e,Hn];refine Iw _ ?_;rw [<- Hn, <- Hn];exact IK _ K0
theorem eK {l:List Hk} {i:Nat} {x:Hk} (h:l[i]? = some x):l.drop i=[x]++l.drop (i+1):=by
 obtain ⟨hi,e⟩:=HC.mp h;rw [IG hi,e];rfl
theorem ML.pushA (c:Cm prog w A s kd P lt) {la lb out:List Hk} {ia ib:Nat} {x y:Hk} (m:ML lt la lb out ia ib) (hx:la[ia]? = some x) (j:lb[ib]? = some y) (h:lt y x=false):ML lt la lb (out++[x]) (ia+1) ib :=
 m.galA c (eK hx) j (by simpa using h)
theorem ML.pushB (c:Cm prog w A s kd P lt) {la lb out:List Hk} {ia ib:Nat} {x y:Hk} (m:ML lt la lb out ia ib) (hx:la[ia]? = some x) (j:lb[ib]? = some y) (h:lt x y=false):ML lt la lb (out++[y]) ia (ib+1) :=
 m.galB c (eK j) hx (by simpa using h)
def Res (lt:Hk->Hk->Bool) (la lb r:List Hk):Prop:=r.Perm (la++lb)/\Ord lt r
theorem ML.fin {la lb out:List Hk} {ia ib:Nat} (m:ML lt la lb out ia ib) (h:lb.length<=ib):Res lt la lb (out++la.drop ia++lb.drop ib):=by
 rw [JQ h,IH];refine ⟨?_,m.pa⟩;have:=m.pm;rw [JQ h,IH] at this;exact this
theorem ML.finE {la lb out:List Hk} {ia ib:Nat} (m:ML lt la lb out ia ib) (h:la.length<=ia):Res lt la lb (out++la.drop ia++lb.drop ib):=by
 rw [JQ h,IH];refine ⟨?_,m.pb⟩;have:=m.pm;rw [JQ h,Ms] at this;exact this
theorem ML.finA {la lb out:List Hk} {ia ib:Nat} (m:ML lt la lb out ia ib) (h:∀ x∈lb, ∀ y∈la.drop ia,lt y x=false):Res lt la lb (out++lb.drop ib++la.drop ia):=by
 refine ⟨?_, ?_⟩
 ·refine JJ.trans ?_ m.pm;rw [Hn];exact Iw _ K0
 ·obtain ⟨F,q,B⟩:=D2.mp m.pa;refine D2.mpr ⟨m.pb,q,fun x hx y j => ?_⟩
  rcases Hv.mp hx with z | z
  ·exact B x z y j
  ·exact h x (Kb z) y j
theorem ML.size {la lb out:List Hk} {ia ib:Nat} (m:ML lt la lb out ia ib) (j:ia<=la.length) (q:ib<=lb.length):out.length=ia+ib:=by
 have:=m.pm.length_eq;simp only [D0,J7] at this;lia
theorem aI {a:Array Hk} {i:Nat} (h:i < a.size):∃ x,a[i]? = some x/\a.toList[i]? = some x/\x∈a.toList:=by
 refine ⟨a[i],HY h, ?_,Array.getElem_mem_toList h⟩;rw [HJ];exact HY h
theorem bY {a:Array Hk} {i:Nat}:(a.extract i).toList=a.toList.drop i:=by
 rw [JG];simp only [LI];exact JR (by simp)
theorem AZ {a:Array Hk} {i:Nat} {X Y:List Hk} (e:a.toList.drop i=X++Y):(a.extract i (i+X.length)).toList=X:=by
 rw [JG];simp [LI,e]
theorem Same.refl {st:IC}:Same st st:=⟨rfl,rfl,rfl,rfl⟩
theorem Same.trans {a b c:IC} (h:Same a b) (g:Same b c):Same a c:=⟨g.arr.trans h.arr,g.kind.trans h.kind,g.pend.trans h.pend,g.fail.trans h.fail⟩
theorem mD {O Y A' B:List Hk} (h1:Ord lt (A'++(Y++O))) (h2:Ord lt (B++O)) (h:∀ y∈Y, ∀ x∈B,lt y x=false):Ord lt (B++(Y++O)):=by
 obtain ⟨J,j,L⟩:=D2.mp h1;obtain ⟨q,p2,F⟩:=D2.mp h2;refine D2.mpr ⟨q,j,fun x hx y G => ?_⟩
 rcases Hv.mp G with z | z
 ·exact h y z x hx
 ·exact F x hx y z
structure MH (lt:Hk->Hk->Bool) (la lb out:List Hk) (na nb:Nat):Prop where
 pa:Ord lt (la.take na++out.reverse)
 pb:Ord lt (lb.take nb++out.reverse)
 pm:(la.take na++lb.take nb++out.reverse).Perm (la++lb)
theorem io (c:Cm prog w A s kd P lt) {l:List Hk} {n:Nat} {x y:Hk} (h:Ord lt (l.take n)) (G : 0 < n) (B:l[n - 1]? = some y) (hx:lt x y=false):∀ z∈l.take n,lt x z=false:=by
 intro z F;obtain ⟨i,hi,e⟩:=JF.mp F;have j:(l.take n)[i]? = some z:=by rw [<- e];exact z4 hi
 have q:(l.take n)[n - 1]? = some y:=by rw [Le (by lia)];exact B
 rw [HD] at hi
 by_cases hin:i=n - 1
 ·subst hin;rw [q] at j;cases j;exact hx
 ·exact c.le_trans (fj h (by lia) j q) hx
theorem eM {l X Y:List Hk} {n:Nat} (e:l.take n=X++Y):l.take X.length=X:=by
 have h:X.length<=n:=by
  have:=congrArg Ku e;simp only [HD,D0] at this;lia
 have h2:(l.take n).take X.length=X:=by rw [e,List.take_left]
 rw [List.take_take,Lk h] at h2;exact h2
theorem MH.galA (c:Cm prog w A s kd P lt) {la lb out X Y:List Hk} {na nb:Nat} {y:Hk} (m:MH lt la lb out na nb) (e:la.take na=X++Y) (j : 0 < nb) (z:lb[nb - 1]? = some y) (h:∀ x∈Y,lt x y=false):MH lt la lb (out++Y.reverse) X.length nb:=by
 have p2:=(D2.mp m.pb).1;have h1:Ord lt (X++(Y++out.reverse)):=by rw [<- Hn, <- e];exact m.pa
 have q:=mD h1 m.pb fun x hx=>io c p2 j z (h x hx);refine ⟨by rw [eM e];simpa using h1,by simpa using q, ?_⟩
 rw [eM e];refine JJ.trans ?_ m.pm;rw [e];simp only [List.reverse_append,OI,Hn];refine Iw _ ?_;rw [<- Hn, <- Hn];exact IK _ K0
theorem MH.galB (c:Cm prog w A s kd P lt) {la lb out X Y:List Hk} {na nb:Nat} {y:Hk} (m:MH lt la lb out na nb) (e:lb.take nb=X++Y) (j : 0 < na) (z:la[na - 1]? = some y) (h:∀ x∈Y,lt x y=false):MH lt la lb (out++Y.reverse) na X.length:=by
 have p2:=(D2.mp m.pa).1;have h1:Ord lt (X++(Y++out.reverse)):=by rw [<- Hn, <- e];exact m.pb
 have q:=mD h1 m.pa fun x hx=>io c p2 j z (h x hx);refine ⟨by simpa using q,by rw [eM e];simpa using h1, ?_⟩
 rw [eM e];refine JJ.trans (KS ?_) m.pm;rw [e];simp
theorem dh {l:List Hk} {n:Nat} {x:Hk} (j : 0 < n) (h:l[n - 1]? = some x):l.take n=l.take (n - 1)++[x]:=by
 obtain ⟨k,rfl⟩:∃ k,n=k+1:=⟨n - 1,by lia⟩
 rw [Po] at h ⊢;rw [PZ,h];rfl
theorem qY {l:List Hk} {n:Nat} {x:Hk} (j : 0 < n) (h:l[n - 1]? = some x):(l.take (n - 1)).length=n - 1:=by
 obtain ⟨hi,_⟩:=HC.mp h;rw [HD];lia
theorem MH.pushA (c:Cm prog w A s kd P lt) {la lb out:List Hk} {na nb:Nat} {x y:Hk} (m:MH lt la lb out na nb) (j : 0 < na) (z : 0 < nb) (hx:la[na - 1]? = some x) (B:lb[nb - 1]? = some y) (h:lt x y=false):MH lt la lb (out++[x]) (na - 1) nb:=by
 have q:=m.galA c (dh j hx) z B (by simpa using h)
 rw [qY j hx] at q;simpa using q
theorem MH.pushB (c:Cm prog w A s kd P lt) {la lb out:List Hk} {na nb:Nat} {x y:Hk} (m:MH lt la lb out na nb) (B : 0 < na) (j : 0 < nb) (hx:la[na - 1]? = some x) (z:lb[nb - 1]? = some y) (h:lt y x=false):MH lt la lb (out++[y]) na (nb - 1):=by
 have q:=m.galB c (dh j z) B hx (by simpa using h)
 rw [qY j z] at q;simpa using q
theorem MH.fin {la lb out:List Hk} {na nb:Nat} (m:MH lt la lb out na nb) (h:na=0∨nb=0):Res lt la lb (la.take na++lb.take nb++out.reverse):=by
 refine ⟨m.pm, ?_⟩
 rcases h with rfl | rfl
 ·simpa using m.pb
 ·simpa using m.pa
theorem MH.finB {la lb out:List Hk} {na nb:Nat} (m:MH lt la lb out na nb) (h:∀ x∈lb.take nb, ∀ y∈la,lt y x=false):Res lt la lb (lb.take nb++la.take na++out.reverse):=by
 refine ⟨JJ.trans (IK _ K0) m.pm, ?_⟩;obtain ⟨j,F,q⟩:=D2.mp m.pb;rw [Hn];refine D2.mpr ⟨j,m.pa,fun x hx y B => ?_⟩
 rcases Hv.mp B with z | z
 ·exact h x hx y (Kc z)
 ·exact q x hx y z
theorem MH.size {la lb out:List Hk} {na nb:Nat} (m:MH lt la lb out na nb) (j:na<=la.length) (q:nb<=lb.length):out.length+na+nb=la.length+lb.length:=by
 have:=m.pm.length_eq;simp only [D0,HD,OY] at this;lia
theorem eS {a:Array Hk}:a.toList.take a.size=a.toList:=JR (by simp)
theorem bw {a:Array Hk} {i:Nat}:(a.extract 0 i).toList=a.toList.take i:=by
 rw [JG];simp [LI]
theorem yv {a:Array Hk} {n:Nat} {X Y:List Hk} (e:a.toList.take n=X++Y):(a.extract X.length n).toList=Y:=by
 rw [JG];simp only [LI];rw [<- List.drop_take,e,List.drop_left]
theorem yw:∀ (m old L R:List Hk) (a:Array Hk),a.toList=L++old++R->m.length=old.length->(LV (fun a x=>a.setIfInBounds (L.length+x.snd) x.fst) a m.zipIdx).toList=L++m++R:=by
 have g:∀ (m old L R:List Hk) (k:Nat) (a:Array Hk),a.toList=L++old++R->m.length=old.length -> ∀ b:Nat,b+k=L.length->(LV (fun a x=>a.setIfInBounds (b+x.snd) x.fst) a (m.zipIdx k)).toList=L++m++R:=by
  intro m
  induction m with
  | nil =>
    intro old L R k a e h b j;have:old=[]:=I9.mp h.symm;subst this;simpa using e
  | cons x m ih =>
    intro old L R k a e h b j
    cases old with
    | nil=>simp at h
    | cons y old =>
      rw [NK,Li];have e2:(a.setIfInBounds (b+k) x).toList=(L++[x])++old++R:=by
       rw [Na,e,j];simp
      have:=ih old (L++[x]) R (k+1) _ e2 (by simpa using h) b (by simp;lia)
      rw [this];simp
 exact fun m old L R a e h=>g m old L R 0 a e h L.length (by lia)
theorem af {σ α:Type} {M:Mn} {p:Prop} [Decidable p] {j q:StateT σ Sem α} {st : σ} {Q : α -> σ -> Prop} (h1:p->wpS M A E s j Q st) (h2 : ¬p->wpS M A E s q Q st):wpS M A E s (if p then j else q) Q st:=by
 split
 ·next h=>exact h1 h
 ·next h=>exact h2 h
theorem ML.cut {a out:Array Hk} {la lb X Y:List Hk} {i j n:Nat} (m:ML lt la lb (out.toList++X) i j) (e:a.toList.drop n=X++Y):ML lt la lb (out++a.extract n (n+X.length)).toList i j:=by
 rw [Hs,AZ e];exact m
theorem MH.cut {a out:Array Hk} {la lb X Y:List Hk} {i j n:Nat} (m:MH lt la lb (out.toList++Y.reverse) i j) (e:a.toList.take n=X++Y):MH lt la lb (out++(a.extract X.length n).reverse).toList i j:=by
 rw [Hs,I7,yv e];exact m
theorem vw {σ α:Type} {M:Mn} {m:StateT σ Sem α} {st : σ} {Q : α -> σ -> Prop} {P : σ -> Prop} (j:P st) (h:∀ st',P st'->wpS M A E s m Q st'):wpS M A E s m Q st:=h st j
theorem zM {σ α:Type} {M:Mn} {m:StateT σ Sem α} {st : σ} {Q : α -> σ -> Prop} (h:∀ Q' : α -> σ -> Prop,(∀ a st',Q a st'->Q' a st')->wpS M A E s m Q' st):wpS M A E s m Q st:=h Q fun _ _ h=>h
theorem zN {key x:Hk} (h:bey lt false key x=true):lt key x=false:=by simpa [bey] using h
theorem vx {key x:Hk} (h:bey lt false key x=false):lt key x=true:=by simpa [bey] using h
theorem zO {key x:Hk} (h:bey lt true key x=true):lt x key=true:=by simpa [bey] using h
theorem vy {key x:Hk} (h:bey lt true key x=false):lt x key=false:=by simpa [bey] using h
theorem oO {l X Y:List Hk} {i:Nat} {x:Hk} (e:l.drop i=X++Y) (h:l[i+X.length]? = some x):x∈Y:=by
 rw [<- eJ e,eK h];simp
theorem oP {l X Y:List Hk} {n:Nat} {x:Hk} (e:l.take n=X++Y) (h0 : 0 < X.length) (h:l[X.length - 1]? = some x):x∈X:=by
 have:=dh h0 h;rw [eM e] at this;rw [this];simp
theorem oQ {a:Array Hk} {X Y:List Hk} {i:Nat} (e:a.toList.drop i=X++Y):X.length<=a.size - i:=by
 have:=congrArg Ku e;simp at this;lia
theorem mF {a:Array Hk} {X Y:List Hk} {n:Nat} (e:a.toList.take n=X++Y) (h:n<=a.size):X.length+Y.length=n:=by
 have:=congrArg Ku e;simp at this;lia
theorem fV {a:Array Hk} {n:Nat} (h:n<=a.size):n=(a.toList.take n).length:=by simp;lia
theorem ML.finR {a b out:Array Hk} {ia ib:Nat} (m:ML lt a.toList b.toList out.toList ia ib) (h:b.size<=ib):Res lt a.toList b.toList (out++a.extract ia++b.extract ib).toList:=by
 have:=m.fin (by simpa using h)
 simpa only [Hs,bY] using this
theorem ML.finS {a b out:Array Hk} {ia ib:Nat} (m:ML lt a.toList b.toList out.toList ia ib) (h:a.size<=ia):Res lt a.toList b.toList (out++a.extract ia++b.extract ib).toList:=by
 have:=m.finE (by simpa using h)
 simpa only [Hs,bY] using this
theorem ML.finL {a b out:Array Hk} {ia ib:Nat} (m:ML lt a.toList b.toList out.toList ia ib) (h:∀ x∈b.toList, ∀ y∈a.toList.drop ia,lt y x=false):Res lt a.toList b.toList (out++b.extract ib++a.extract ia).toList:=by
 have:=m.finA h;simpa only [Hs,bY] using this
theorem MH.finR {a b out:Array Hk} {na nb:Nat} (m:MH lt a.toList b.toList out.toList na nb) (h:∀ x∈b.toList.take nb, ∀ y∈a.toList,lt y x=false):Res lt a.toList b.toList (b.extract 0 nb++a.extract 0 na++out.reverse).toList:=by
 have:=m.finB h;simpa only [Hs,I7,bw] using this
theorem MH.finL {a b out:Array Hk} {na nb:Nat} (m:MH lt a.toList b.toList out.toList na nb) (h:na=0∨nb=0):Res lt a.toList b.toList (a.extract 0 na++b.extract 0 nb++out.reverse).toList:=by
 have:=m.fin h;simpa only [Hs,I7,bw] using this
theorem Ea (c:Cm prog w A s kd P lt) :
 ∃ (g:CT) (lo hi:CU),(ig prog w A E s kd P lt g/\(ig prog w A E s kd P lt g->ii prog w A E s kd P lt lo)/\(ig prog w A E s kd P lt g->ii prog w A E s kd P lt hi))/\(ig prog w A E s kd P lt g->ii prog w A E s kd P lt lo->ii prog w A E s kd P lt hi ->
  ∀ (i sa na pa sb nb pb:Nat) (L r1 r2 R:List Hk) (st:IC) (Q:Bool->IC->Prop),Ja st=kd->JM st=none->(Hx st)[i]? = some (sa,na,pa)->(Hx st)[i+1]? = some (sb,nb,pb) ->
   (Ib st).toList=L++(r1++r2)++R->sa=L.length->na=r1.length->sb=L.length+r1.length->nb=r2.length->r1≠[]->r2≠[]->(∀ x∈r1,P x)->(∀ x∈r2,P x)->Ord lt r1->Ord lt r2 ->
   (∀ m st',(Ib st').toList=L++m++R->m.Perm (r1++r2)->Ord lt m->Ja st'=kd->JM st'=none->Hx st'=((Hx st).setIfInBounds i (sa,na+nb,pa)).eraseIdxIfInBounds (i+1)->Q true st') ->
   wpS (Hy prog w) A E s (QZ i) Q st):=by
 apply Q0;apply Q0;apply Q0;apply LW
 rotate_left
 ·intro hg GS GT i sa na pa sb nb pb L r1 r2 R st Q hk hf h1 h2 Z Gk FK Gm FZ GU GW Gw Gx o1 o2 q;unfold QZ;refine Hh (Lj ?_);rw [h1,h2];dsimp only;refine Hh (AY ?_);obtain ⟨y0,t2,rfl⟩:∃ y t,r2=y::t:=by cases r2 with | nil=>exact absurd rfl GW | cons y t=>exact ⟨y,t,rfl⟩
  have hz:(Ib st)[sb]? = some y0:=by
   rw [<- HJ,Z,Gm];simp
  refine Hh (aE hz ?_);refine Hh (hg false y0 (Ib st) L r1 (y0::t2++R) sa na 0 _ _ hk (Gx _ (by simp)) (by rw [Z];simp) Gk FK Gw (by rw [FK];exact IF.mpr GU) o1 fun X Y e hX hY => ?_)
  dsimp only;have lX:∀ x∈X,lt y0 x=false:=fun x hx=>by have:=hX x hx;simpa [bey] using this
  have lY:∀ x∈Y,lt x y0=false:=fun x hx=>c.asym _ _ (by have:=hY x hx;simpa [bey] using this)
  have hlen:na - X.length=Y.length:=by rw [FK,e];simp
  subst e;obtain ⟨oX,oY,oXY⟩:=D2.mp o1;have oy:=N8.mp o2;have Gn:∀ x∈X, ∀ z∈y0::t2,lt z x=false:=fun x hx z hz=>by
   rcases Ho.mp hz with h | h
   ·rw [h];exact lX x hx
   ·exact c.le_trans (lX x hx) (oy.1 z h)
  refine af (fun h => ?_) (fun h => ?_)
  ·have Go:Y=[]:=I9.mp (by rw [<- hlen];simpa using h)
   subst Go;refine ab (q (X++(y0::t2)) _ (by simpa using Z) (by simp) ?_ hk hf rfl)
   exact D2.mpr ⟨oX,o2,Gn⟩
  ·have Go : 0 < Y.length:=by
    have:na - X.length≠0:=by simpa using h
    lia
   obtain ⟨Y0,xl,rfl⟩:∃ Y0 xl,Y=Y0++[xl]:=⟨Y.dropLast,Y.getLast (by intro z;rw [z] at Go;simp at Go),(JL _).symm⟩
   have GX:(Ib st)[sa+X.length+(na - X.length) - 1]? = some xl:=by
    rw [<- HJ,Z,hlen,Gk];simp only [Hn,D0,HI];rw [D1 (by lia),D1 (by lia),D1 (by lia)]
    rw [show L.length+X.length+(Y0.length+1) - 1 - L.length - X.length - Y0.length=0 by lia];rfl
   refine Hh (aE GX ?_);refine Hh (hg true xl (Ib st) (L++(X++(Y0++[xl]))) (y0::t2) R sb nb (nb - 1) _ _ hk (Gw _ (by simp)) (by rw [Z];simp) (by rw [Gm];simp) FZ Gx (by rw [FZ];simp) o2 fun X2 Y2 e2 FL FM => ?_)
   dsimp only;have GY:∀ x∈X2,lt xl x=false:=fun x hx=>c.asym _ _ (by have:=FL x hx;simpa [bey] using this)
   have GG:∀ x∈Y2,lt x xl=false:=fun x hx=>by have:=FM x hx;simpa [bey] using this
   have GZ:Ord lt (X2++Y2):=by rw [<- e2];exact o2
   obtain ⟨H0,H4,GH⟩:=D2.mp GZ;obtain ⟨Hf,_,oYl⟩:=D2.mp oY;have lYY:∀ x∈Y0++[xl], ∀ z∈Y2,lt z x=false:=fun x hx z hz=>by
    rcases Hv.mp hx with h | h
    ·exact c.le_trans (oYl x h xl (by simp)) (GG z hz)
    ·simp at h;subst h;exact GG z hz
   refine af (fun h => ?_) (fun h => ?_)
   ·have FE:X2=[]:=I9.mp (by simpa using h)
    subst FE;have e2:y0::t2=Y2:=by simpa using e2
    refine ab (q (X++(Y0++[xl])++(y0::t2)) _ (by simpa using Z) (OJ _) ?_ hk hf rfl)
    refine D2.mpr ⟨o1,o2,fun x hx z hz => ?_⟩
    rcases Hv.mp hx with g | g
    ·exact Gn x g z hz
    ·exact lYY x g z (by rw [<- e2];exact hz)
   ·have FE:X2≠[]:=fun z=>h (by rw [z];rfl)
    have hx:((Ib st).extract (sa+X.length) sb).toList=Y0++[xl]:=by
     rw [JG,Z,Gk,Gm];simp only [LI];have e1:(L++(X++(Y0++[xl])++y0::t2)++R).drop (L.length+X.length)=(Y0++[xl])++(y0::t2++R):=by
      rw [<- N9];simp
     rw [e1,show L.length+(X++(Y0++[xl])).length - (L.length+X.length)=(Y0++[xl]).length by simp only [D0];lia,List.take_left]
    have hy:((Ib st).extract sb (sb+X2.length)).toList=X2:=by
     rw [JG,Z,Gm];simp only [LI];have e1:(L++(X++(Y0++[xl])++y0::t2)++R).drop (L.length+(X++(Y0++[xl])).length)=(y0::t2)++R:=by
      rw [<- N9];simp
     rw [e1,e2];simp
    have G:∀ (r:Array Hk) (F8:IC),r.toList.Perm ((Y0++[xl])++X2)->Ord lt r.toList->Same (PyProof.Rows.SortSt.mk' (Ja st) (Ib st) (((Hx st).setIfInBounds i (sa,na+nb,pa)).eraseIdxIfInBounds (i+1)) (gallopOf st) (JM st)) F8 -> ∀ F5:IC,Ib F5=LV (fun a x=>a.setIfInBounds (sa+X.length+x.snd) x.fst) (Ib F8) r.toList.zipIdx->Ja F5=Ja F8->JM F5=JM F8->Hx F5=Hx F8->Q (JM F5).isNone F5:=by
     intro r F8 hp ho hs F5 g1 g2 g3 g4;have GI:JM F5=none:=g3.trans (hs.fail.trans hf);rw [GI];refine q (X++r.toList++Y2) F5 ?_ ?_ ?_ (g2.trans (hs.kind.trans hk)) GI (g4.trans hs.pend)
     ·rw [g1,hs.arr];have e3:(Ib st).toList=(L++X)++((Y0++[xl])++X2)++(Y2++R):=by
       rw [Z,e2];simp
      rw [show sa+X.length=(L++X).length by rw [Gk];simp]
      rw [yw _ _ _ _ _ e3 (hp.length_eq)];simp
     ·rw [e2];refine JJ.trans (IK _ (Iw _ hp)) ?_;simp
     ·refine D2.mpr ⟨D2.mpr ⟨oX,ho,fun x hx z hz => ?_⟩,H4,fun x hx z hz => ?_⟩
      ·rcases Hv.mp (hp.mem_iff.mp hz) with g | g
       ·exact oXY x hx z g
       ·exact Gn x hx z (by rw [e2];exact II _ g)
      ·rcases Hv.mp hx with g | g
       ·exact Gn x g z (by rw [e2];exact HA _ hz)
       ·rcases Hv.mp (hp.mem_iff.mp g) with g | g
        ·exact lYY x g z hz
        ·exact GH x g z hz
    have Gu:∀ x y,((Ib st).extract (sa+X.length) sb)[0]? = some x->((Ib st).extract sb (sb+X2.length))[0]? = some y->lt x y=false:=by
     intro x y Fv G0;rw [<- HJ,hx] at Fv;rw [<- HJ,hy] at G0;have G1:=HH Fv;have:y=y0:=by
      cases X2 with
      | nil=>exact absurd rfl FE
      | cons z t=>simp at e2 G0;rw [<- G0, <- e2.1]
     subst this;exact lY x G1
    have preL:∀ x y,((Ib st).extract (sa+X.length) sb)[((Ib st).extract (sa+X.length) sb).size - 1]? = some x->((Ib st).extract sb (sb+X2.length))[((Ib st).extract sb (sb+X2.length)).size - 1]? = some y->lt x y=false:=by
     intro x y Fv G0;rw [<- HJ, <- HN,hx] at Fv;rw [<- HJ, <- HN,hy] at G0;have Fw:=HH G0;have:x=xl:=by simp at Fv;exact Fv.symm
     subst this;exact GY y Fw
    have GJ : 0 < ((Ib st).extract (sa+X.length) sb).size:=by rw [<- HN,hx];simp
    have GK : 0 < ((Ib st).extract sb (sb+X2.length)).size:=by rw [<- HN,hy];exact IF.mpr FE
    have GL:∀ x∈((Ib st).extract (sa+X.length) sb).toList,P x:=by rw [hx];exact fun x hx=>Gw x (HA _ hx)
    have GM:∀ x∈((Ib st).extract sb (sb+X2.length)).toList,P x:=by rw [hy];exact fun x hx=>Gx x (by rw [e2];exact II _ hx)
    have GN:Ord lt ((Ib st).extract (sa+X.length) sb).toList:=by rw [hx];exact oY
    have GO:Ord lt ((Ib st).extract sb (sb+X2.length)).toList:=by rw [hy];exact H0
    refine af (fun h => ?_) (fun h => ?_)
    ·refine Hh (GS _ _ _ _ hk GL GM GJ GK GN GO Gu preL fun r F8 hp ho hs => ?_);rw [hx,hy] at hp;refine Hh (Jz ?_);refine Hh (Lj ?_);exact ab (G r F8 hp ho hs _ rfl rfl rfl rfl)
    ·refine Hh (GT _ _ _ _ hk GL GM GJ GK GN GO Gu preL fun r F8 hp ho hs => ?_);rw [hx,hy] at hp;refine Hh (Jz ?_);refine Hh (Lj ?_);exact ab (G r F8 hp ho hs _ rfl rfl rfl rfl)
 apply LW
 ·intro left key arr L xs R base n hint st Q hk FF Z Gy hn hP hh hs q;subst Gy hn;have at_:∀ i,i < xs.length -> ∃ x,xs[i]? = some x/\arr[L.length+i]? = some x/\P x:=by
   intro i hi;refine ⟨xs[i],z4 hi, ?_,hP _ (Mg _)⟩;rw [<- HJ,Z,Hn,D1 (by lia),Hu (by lia)]
   rw [show L.length+i - L.length=i by lia]
   exact z4 hi
  obtain ⟨x0,Fv,G2,H8⟩:=at_ hint hh;refine Hh (gJ c hk FF H8 G2 ?_)
  try dsimp only
  refine af (fun hb => ?_) (fun hb => ?_)
  ·skip
   refine Hh (aF (Q:=fun r st'=>st'=st /\ ∃ la ofs,r=(none,la,ofs)/\hint+la < xs.length/\la < ofs/\(∀ j x,j < hint+la+1->xs[j]? = some x->bey lt left key x=true)/\(xs.length<=hint+ofs ∨ ∀ j x,hint+ofs<=j->xs[j]? = some x->bey lt left key x=false))
    (Iy (fun i r st'=>st'=st /\ ∃ la ofs,r=(none,la,ofs)/\hint+la < xs.length/\la < ofs/\i+1<=ofs/\(∀ j x,j < hint+la+1->xs[j]? = some x->bey lt left key x=true)) ?_ ?_ ⟨rfl,0,1,rfl,hh,by lia,by lia,ik c hs Fv hb⟩) ?_)
   ·rintro i r st' _ hi ⟨rfl,la,ofs,rfl,h1,h2,h3,h4⟩
    try dsimp only
    refine af (fun FN => ?_) (fun FN => ?_)
    ·exact ab ⟨rfl,la,ofs,rfl,h1,h2,h4, .inl (by lia)⟩
    ·skip
     obtain ⟨x1,Fp,FO,FP⟩:=at_ (hint+ofs) (by lia)
     refine Hh (gJ c hk FF FP FO ?_)
     try dsimp only
     refine af (fun hf => ?_) (fun hf => ?_)
     ·exact ab ⟨rfl,la,ofs,rfl,h1,h2,h4, .inr (im c hs Fp (by simpa using hf))⟩
     ·exact ab ⟨rfl,ofs,2*ofs+1,rfl,by lia,by lia,by lia,ik c hs Fp (by simpa using hf)⟩
   ·rintro r st' ⟨rfl,la,ofs,rfl,h1,h2,h3,h4⟩;exact ⟨rfl,la,ofs,rfl,h1,h2,h4, .inl (by lia)⟩
   ·rintro r st' ⟨rfl,la,ofs,rfl,h1,h2,h3,h4⟩
    try dsimp only
    have hG:Gal lt left key xs (hint+la+1) (hint+min ofs (xs.length - hint)):=by
     refine ⟨by lia,by lia,h3,fun i x hi hx => ?_⟩
     have Hg:i < xs.length:=(HC.mp hx).1
     rcases h4 with h4 | h4
     ·lia
     ·exact h4 i x (by lia) hx
    generalize hint+la+1=lo at hG;generalize hint+min ofs (xs.length - hint)=hi at hG;refine Hh (aF (Q:=fun r st''=>st''=st' /\ ∃ k,r=(none,k,k)/\Gal lt left key xs k k)
     (Iy (fun i r st''=>st''=st' /\ ∃ lo hi,r=(none,lo,hi)/\Gal lt left key xs lo hi/\hi - lo+i<=xs.length) ?_ ?_ ⟨rfl,lo,hi,rfl,hG,by have:=hG.len;lia⟩) ?_)
    ·rintro i r st'' _ hi ⟨rfl,lo,hi,rfl,hG,hm⟩
     try dsimp only
     have hl:=hG.le;have G3:=hG.len;refine af (fun FN => ?_) (fun FN => ?_)
     ·exact ab ⟨rfl,hi,by rw [show lo=hi by lia],by rw [show lo=hi by lia] at hG;exact hG⟩
     ·skip
      obtain ⟨x1,Fp,FO,FP⟩:=at_ (lo+(hi - lo) / 2) (by lia)
      refine Hh (gJ c hk FF FP FO ?_)
      try dsimp only
      refine af (fun hf => ?_) (fun hf => ?_)
      ·exact ab ⟨rfl,_,_,rfl,⟨by lia,G3,ik c hs Fp hf,hG.dn⟩,by lia⟩
      ·exact ab ⟨rfl,_,_,rfl,⟨by lia,by lia,hG.up,im c hs Fp (by simpa using hf)⟩,by lia⟩
    ·rintro r st'' ⟨rfl,lo,hi,rfl,hG,hm⟩;have hl:=hG.le;exact ⟨rfl,hi,by rw [show lo=hi by lia],by rw [show lo=hi by lia] at hG;exact hG⟩
    ·rintro r st'' ⟨rfl,k,rfl,hG⟩;obtain ⟨X,Y,e,hl,hX,hY⟩:=hG.out;subst hl;exact ab (q X Y e hX hY)
  ·skip
   refine Hh (aF (Q:=fun r st'=>st'=st /\ ∃ la ofs,r=(none,la,ofs)/\la<=hint/\la < ofs/\(∀ j x,hint - la<=j->xs[j]? = some x->bey lt left key x=false)/\(hint < ofs ∨ ∀ j x,j < hint - ofs+1->xs[j]? = some x->bey lt left key x=true))
    (Iy (fun i r st'=>st'=st /\ ∃ la ofs,r=(none,la,ofs)/\la<=hint/\la < ofs/\i+1<=ofs/\(∀ j x,hint - la<=j->xs[j]? = some x->bey lt left key x=false)) ?_ ?_ ⟨rfl,0,1,rfl,by lia,by lia,by lia,im c hs Fv (by simpa using hb)⟩) ?_)
   ·rintro i r st' _ hi ⟨rfl,la,ofs,rfl,h1,h2,h3,h4⟩
    try dsimp only
    refine af (fun FN => ?_) (fun FN => ?_)
    ·exact ab ⟨rfl,la,ofs,rfl,h1,h2,h4, .inl (by lia)⟩
    ·skip
     obtain ⟨x1,Fp,FO,FP⟩:=at_ (hint - ofs) (by lia)
     refine Hh (gJ c hk FF FP FO ?_)
     try dsimp only
     refine af (fun hf => ?_) (fun hf => ?_)
     ·exact ab ⟨rfl,la,ofs,rfl,h1,h2,h4, .inr (ik c hs Fp hf)⟩
     ·exact ab ⟨rfl,ofs,2*ofs+1,rfl,by lia,by lia,by lia,im c hs Fp (by simpa using hf)⟩
   ·rintro r st' ⟨rfl,la,ofs,rfl,h1,h2,h3,h4⟩;exact ⟨rfl,la,ofs,rfl,h1,h2,h4, .inl (by lia)⟩
   ·rintro r st' ⟨rfl,la,ofs,rfl,h1,h2,h3,h4⟩
    try dsimp only
    have hG:Gal lt left key xs (hint+1 - min ofs (hint+1)) (hint - la):=by
     refine ⟨by lia,by lia,fun i x hi hx => ?_,h3⟩
     rcases h4 with h4 | h4
     ·lia
     ·exact h4 i x (by lia) hx
    generalize hint+1 - min ofs (hint+1)=lo at hG;generalize hint - la=hi at hG;refine Hh (aF (Q:=fun r st''=>st''=st' /\ ∃ k,r=(none,k,k)/\Gal lt left key xs k k)
     (Iy (fun i r st''=>st''=st' /\ ∃ lo hi,r=(none,lo,hi)/\Gal lt left key xs lo hi/\hi - lo+i<=xs.length) ?_ ?_ ⟨rfl,lo,hi,rfl,hG,by have:=hG.len;lia⟩) ?_)
    ·rintro i r st'' _ hi ⟨rfl,lo,hi,rfl,hG,hm⟩
     try dsimp only
     have hl:=hG.le;have G3:=hG.len;refine af (fun FN => ?_) (fun FN => ?_)
     ·exact ab ⟨rfl,hi,by rw [show lo=hi by lia],by rw [show lo=hi by lia] at hG;exact hG⟩
     ·skip
      obtain ⟨x1,Fp,FO,FP⟩:=at_ (lo+(hi - lo) / 2) (by lia)
      refine Hh (gJ c hk FF FP FO ?_)
      try dsimp only
      refine af (fun hf => ?_) (fun hf => ?_)
      ·exact ab ⟨rfl,_,_,rfl,⟨by lia,G3,ik c hs Fp hf,hG.dn⟩,by lia⟩
      ·exact ab ⟨rfl,_,_,rfl,⟨by lia,by lia,hG.up,im c hs Fp (by simpa using hf)⟩,by lia⟩
    ·rintro r st'' ⟨rfl,lo,hi,rfl,hG,hm⟩;have hl:=hG.le;exact ⟨rfl,hi,by rw [show lo=hi by lia],by rw [show lo=hi by lia] at hG;exact hG⟩
    ·rintro r st'' ⟨rfl,k,rfl,hG⟩;obtain ⟨X,Y,e,hl,hX,hY⟩:=hG.out;subst hl;exact ab (q X Y e hX hY)
 apply LW
 ·intro hg a b st Q hk FQ FR Gp Gq sa sb G4 G5 q;refine Hh (dg ?_);obtain ⟨b0,Gr,G6,Ha⟩:=aI Gq;obtain ⟨a0,G2,FX,Hb⟩:=aI Gp;refine Hh (aE Gr ?_);have m0:ML lt a.toList b.toList [] 0 0:=⟨sa,sb,by simp⟩
  have m1:ML lt a.toList b.toList [b0] 0 1:=m0.pushB c FX G6 (G4 a0 b0 G2 Gr);have Fx:∀ x∈b.toList, ∀ (i:Nat),i+1=a.size -> ∀ y∈a.toList.drop i,lt y x=false:=by
   intro x hx i hi y hy;obtain ⟨aL,Gs,G7,_⟩:=aI (a:=a) (i:=i) (by lia)
   obtain ⟨bL,Gz,FY,_⟩:=aI (a:=b) (i:=b.size - 1) (by lia)
   have e:a.toList.drop i=[aL]:=by
    rw [eK G7,JQ (by simp;lia)];rfl
   rw [e] at hy;simp at hy;subst hy;have hl:=G5 y bL (by rw [show a.size - 1=i by lia];exact Gs) Gz
   obtain ⟨j,hj,e⟩:=JF.mp hx;have FS:b.toList[j]? = some x:=by rw [<- e];exact z4 hj
   by_cases hjb:j=b.size - 1
   ·subst hjb;rw [FY] at FS;cases FS;exact hl
   ·have:=fj sb (show j < b.size - 1 by simp at hj;lia) FS FY
    exact c.le_trans this hl
  try dsimp -zeta -zetaHave -zetaUnused only
  refine af (fun h => ?_) (fun h => ?_)
  ·skip
   have h : 1=b.size:=by simpa using h
   refine ab ?_;have r:=m1.fin (by simp;lia)
   exact q _ _ (by simpa only [Hs,Hw,HR,bY] using r.1) (by simpa only [Hs,Hw,HR,bY] using r.2) Same.refl
  ·skip
   refine af (fun h2 => ?_) (fun h2 => ?_)
   ·skip
    have h2 : 0+1=a.size:=by simpa using h2
    refine ab ?_;have r:=m1.finA (Fx · · 0 h2);exact q _ _ (by simpa only [Hs,Hw,HR,bY] using r.1) (by simpa only [Hs,Hw,HR,bY] using r.2) Same.refl
   ·skip
    have h : 1≠b.size:=by simpa using h
    have h2 : 0+1≠a.size:=by simpa using h2
    refine Hh (Lj ?_)
    try dsimp -zeta -zetaHave -zetaUnused only
    refine Hh (aF (Q:=fun r st'=>Same st st' /\ ∃ res t,r=(some res,t)/\Res lt a.toList b.toList res.toList)
     (Iy (fun i r st'=>Same st st' /\ ∃ out ia ib mg,r=(none,out,ia,ib,mg)/\ML lt a.toList b.toList out.toList ia ib/\ia+1 < a.size/\ib < b.size/\i+1<=out.size) ?_ ?_ ⟨Same.refl,_,_,_,_,rfl,m1,by lia,by lia,by simp⟩) ?_)
    ·rintro i r Fq _ hi ⟨sm,out,ia,ib,mg,rfl,m,GA,GB,hsz⟩
     try dsimp -zeta -zetaHave -zetaUnused only
     refine Hh (aF (Q:=fun r st'=>st'=Fq/\((∃ B Fi Fm ac bc,r=(none,B,Fi,Fm,ac,bc)/\ML lt a.toList b.toList B.toList Fi Fm/\Fi+1 < a.size/\Fm < b.size/\i+2<=B.size) ∨ ∃ res t,r=(some res,t)/\Res lt a.toList b.toList res.toList))
      (Iy (fun j r st'=>st'=Fq /\ ∃ B Fi Fm ac bc,r=(none,B,Fi,Fm,ac,bc)/\ML lt a.toList b.toList B.toList Fi Fm/\Fi+1 < a.size/\Fm < b.size/\i+1+j<=B.size) ?_ ?_ ⟨rfl,_,_,_,_,_,rfl,m,GA,GB,by lia⟩) ?_)
     ·rintro j r F8 _ hj ⟨rfl,B,Fi,Fm,ac,bc,rfl,m2,h1,h2,h3⟩
      try dsimp only
      obtain ⟨y,hy,Fs,Fw⟩:=aI (a:=b) h2;obtain ⟨x,hx,G8,G1⟩:=aI (a:=a) (i:=Fi) (by lia)
      refine Hh (aE hy (Hh (aE hx (Hh (jZ c (sm.kind.trans hk) (FR _ Fw) (FQ _ G1) ?_)))))
      try dsimp only
      refine af (fun hl => ?_) (fun hl => ?_)
      ·skip
       refine Hh (aE hy ?_)
       try dsimp only
       have m3:=m2.pushB c G8 Fs (c.asym _ _ hl);refine af (fun h => ?_) (fun h => ?_)
       ·skip
        have h:Fm+1=b.size:=by simpa using h
        exact ab ⟨rfl, .inr ⟨_,_,rfl,by simpa only [Hs,Hw,HR,bY] using m3.fin (by simp;lia)⟩⟩
       ·skip
        have h:Fm+1≠b.size:=by simpa using h
        refine af (fun _ => ?_) (fun _ => ?_)
        ·exact ab ⟨rfl, .inl ⟨_,_,_,_,_,rfl,by simpa only [Hs,Hw] using m3,h1,by lia,by simp;lia⟩⟩
        ·exact ab ⟨rfl,_,_,_,_,_,rfl,by simpa only [Hs,Hw] using m3,h1,by lia,by simp;lia⟩
      ·skip
       refine Hh (aE hx ?_)
       try dsimp only
       have m3:=m2.pushA c G8 Fs (by simpa using hl)
       refine af (fun h => ?_) (fun h => ?_)
       ·skip
        have h:Fi+1+1=a.size:=by simpa using h
        exact ab ⟨rfl, .inr ⟨_,_,rfl,by simpa only [Hs,Hw,HR,bY] using m3.finA (Fx · · _ h)⟩⟩
       ·skip
        have h:Fi+1+1≠a.size:=by simpa using h
        refine af (fun _ => ?_) (fun _ => ?_)
        ·exact ab ⟨rfl, .inl ⟨_,_,_,_,_,rfl,by simpa only [Hs,Hw] using m3,by lia,h2,by simp;lia⟩⟩
        ·exact ab ⟨rfl,_,_,_,_,_,rfl,by simpa only [Hs,Hw] using m3,by lia,h2,by simp;lia⟩
     ·rintro r F8 ⟨rfl,B,Fi,Fm,ac,bc,rfl,m2,h1,h2,h3⟩;exact ⟨rfl, .inl ⟨_,_,_,_,_,rfl,m2,h1,h2,by lia⟩⟩
     ·rintro r F8 ⟨rfl,⟨B,Fi,Fm,ac,bc,rfl,m2,h1,h2,h3⟩ | ⟨res,t,rfl,J⟩⟩
      ·dsimp -zeta -zetaHave -zetaUnused only;refine Hh (dg ?_);refine Hh (aF (Q:=fun r st'=>Same st st'/\((∃ F Fa F6 Fj ac bc,r=(none,F,Fa,F6,Fj,ac,bc)/\ML lt a.toList b.toList F.toList Fa F6/\Fa+1 < a.size/\F6 < b.size/\i+2<=F.size) ∨ ∃ res t,r=(some res,t)/\Res lt a.toList b.toList res.toList))
        (Iy (fun j r st'=>Same st st' /\ ∃ F Fa F6 Fj ac bc,r=(none,F,Fa,F6,Fj,ac,bc)/\ML lt a.toList b.toList F.toList Fa F6/\Fa+1 < a.size/\F6 < b.size/\i+2<=F.size) ?_ ?_ ⟨sm,_,_,_,_,_,_,rfl,m2,h1,h2,h3⟩) ?_)
       ·rintro j r F5 _ hj ⟨Fk,F,Fa,F6,Fj,G9,Ga,rfl,m3,h1,h2,h5⟩;obtain ⟨y,hy,Fs,Fw⟩:=aI (a:=b) h2;refine zM fun QQ hQ => ?_;have G:∀ (st':IC) (res:Array Hk) t,Same st st'->Res lt a.toList b.toList res.toList->QQ (.done (some res,t)) st':=fun st' res t hs hr=>hQ _ _ ⟨hs, .inr ⟨_,_,rfl,hr⟩⟩;have GC:∀ (st':IC) (out:Array Hk) ia ib mg ac bc,Same st st'->ML lt a.toList b.toList out.toList ia ib->ia+1 < a.size->ib < b.size->i+2<=out.size->QQ (.done (none,out,ia,ib,mg,ac,bc)) st'/\QQ (.yield (none,out,ia,ib,mg,ac,bc)) st':=fun st' out ia ib mg ac bc hs p1 p2 p3 p4=>⟨hQ _ _ ⟨hs, .inl ⟨_,_,_,_,_,_,rfl,p1,p2,p3,p4⟩⟩,hQ _ _ ⟨hs,_,_,_,_,_,_,rfl,p1,p2,p3,p4⟩⟩;clear hQ hj
        extract_lets -underBinder s0 vout s1 via s2 vib s3 vmg s4 vac vbc jp vmx
        have Gb:∀ mg,wpS (Hy prog w) A E s (jp () mg) QQ F5:=by
         intro mg;dsimp -zeta -zetaHave -zetaUnused only [jp,s0,vout,s1,via,s2,vib,s3,vmg,s4,vac,vbc];clear vmx jp vbc vac s4 vmg s3 vib s2 via s1 vout s0;refine Hh (Jz ?_);refine vw (P:=Same st) (Fk.trans ⟨rfl,rfl,rfl,rfl⟩) fun FT Fb => ?_;have Gc:=Fb.kind.trans hk;refine Hh (aE hy ?_);refine Hh (hg false y a (a.toList.take Fa) (a.toList.drop Fa) [] _ _ _ _ _ Gc (FR _ Fw) (by simp) (fV (by lia)) (by simp) (fun x hx=>FQ x (Kb hx)) (by lia) ((D2.mp m3.pa).2.1) fun X Y e hX hY => ?_)
         dsimp -zeta -zetaHave -zetaUnused only;have m4:=m3.galA c e Fs fun x hx=>zN (hX x hx);have Fc:∀ x4,a.toList[Fa+X.length]? = some x4->lt x4 y=false:=fun x4 Fy=>c.asym _ _ (vx (hY x4 (oO e Fy)));have FU:=oQ e
         extract_lets -underBinder +onlyGivenNames vac Fz
         clear_value vac
         have FG:∀ (O:Array Hk) (Ft:Nat),ML lt a.toList b.toList O.toList Ft F6->(∀ x4,a.toList[Ft]? = some x4->lt x4 y=false)->Ft+1 < a.size->i+2<=O.size->wpS (Hy prog w) A E s (Fz () O Ft) QQ FT:=by
          intro O Ft GD FA Hc Gd;dsimp -zeta -zetaHave -zetaUnused only [Fz];clear Fz FU Fc m4 hX hY;obtain ⟨x4,Fy,Fg,Gf⟩:=aI (a:=a) (i:=Ft) (by lia)
          refine Hh (aE hy ?_);have m5:=GD.pushB c Fg Fs (FA x4 Fg);rw [<- Hw] at m5;have Fh:i+2<=(O.push y).size:=by rw [Mw];lia
          try dsimp -zeta -zetaHave -zetaUnused only
          extract_lets -underBinder +onlyGivenNames vo5 vi5
          dsimp -zeta -zetaHave -zetaUnused only [vo5];clear vo5;have e5:vi5=F6+1:=rfl
          clear_value vi5
          subst e5
          revert m5 Fh
          generalize O.push y=out5;intro m5 Fh;refine af (fun h => ?_) (fun h => ?_)
          ·exact ab (G _ _ _ Fb (m5.finR (by have h:=Ks h;lia)))
          ·have h:F6+1≠b.size:=by simpa using h
           refine Hh (aE Fy ?_);refine Hh (hg true x4 b (b.toList.take (F6+1)) (b.toList.drop (F6+1)) [] _ _ _ _ _ Gc (FQ _ Gf) (by simp) (fV (by lia)) (by simp) (fun x hx=>FR x (Kb hx)) (by lia) ((D2.mp m5.pb).2.1) fun X2 Y2 e2 FL FM => ?_)
           dsimp -zeta -zetaHave -zetaUnused only;have m6:=m5.galB c e2 Fg fun x hx=>c.asym _ _ (zO (FL x hx));have Fd:∀ y6,b.toList[F6+1+X2.length]? = some y6->lt y6 x4=false:=fun y6 Gg=>vy (FM y6 (oO e2 Gg));have FV:=oQ e2
           extract_lets -underBinder +onlyGivenNames vbc FB
           clear_value vbc
           have FH:∀ (F7:Array Hk) (FW:Nat),ML lt a.toList b.toList F7.toList Ft FW->(∀ y6,b.toList[FW]? = some y6->lt y6 x4=false)->FW < b.size->i+2<=F7.size->wpS (Hy prog w) A E s (FB () F7 FW) QQ FT:=by
            intro F7 FW GE FC Gv GP;dsimp -zeta -zetaHave -zetaUnused only [FB];clear FB FV Fd m6 FL FM m5 Fh Gd h5 h1 h2 hsz GB GA h3;obtain ⟨y6,Gg,FI,GQ⟩:=aI (a:=b) (i:=FW) Gv;refine Hh (aE Fy ?_);have m7:=GE.pushA c Fg FI (FC y6 FI);rw [<- Hw] at m7;dsimp only;refine af (fun h => ?_) (fun h => ?_)
            ·exact ab (G _ _ _ Fb (m7.finL (Fx · · (Ft+1) (Ks h))))
            ·have h:Ft+1+1≠a.size:=by simpa using h
             have:=GC FT (F7.push x4) (Ft+1) FW mg vac vbc Fb m7 (by lia) Gv (by rw [Mw];lia)
             exact af (fun _=>ab this.1) (fun _=>ab this.2)
           clear_value FB
           refine af (fun h0 => ?_) (fun h0 => ?_)
           ·dsimp only;have m6:=m6.cut (a:=b) e2;refine af (fun h => ?_) (fun h => ?_)
            ·exact ab (G _ _ _ Fb (m6.finR (by have h:=Ks h;lia)))
            ·have h:F6+1+X2.length≠b.size:=by simpa using h
             exact FH _ _ m6 Fd (by lia) (by rw [KW];lia)
           ·have FE:X2=[]:=I9.mp (by lia)
            subst FE;exact FH _ _ m5 Fd (by lia) Fh
         clear_value Fz
         refine af (fun h0 => ?_) (fun h0 => ?_)
         ·dsimp only;have m4:=m4.cut (a:=a) e;refine af (fun h => ?_) (fun h => ?_)
          ·exact ab (G _ _ _ Fb (m4.finL (Fx · · _ (Ks h))))
          ·have h:Fa+X.length+1≠a.size:=by simpa using h
           refine af (fun h => ?_) (fun h9 => ?_)
           ·exact ab (G _ _ _ Fb (m4.finS (by have h:=Ks h;lia)))
           ·have h9:Fa+X.length≠a.size:=by simpa using h9
            exact FG _ _ m4 Fc (by lia) (by rw [KW];lia)
         ·have FE:X=[]:=I9.mp (by lia)
          subst FE;exact FG _ _ m3 Fc h1 h5
        clear_value jp
        exact af (fun _=>Gb _) (fun _=>Gb _)
       ·rintro r F5 ⟨Fk,F,Fa,F6,Fj,G9,Ga,rfl,m3,h1,h2,h5⟩;exact ⟨Fk, .inl ⟨_,_,_,_,_,_,rfl,m3,h1,h2,h5⟩⟩
       ·rintro r F5 ⟨Fk,⟨F,Fa,F6,Fj,G9,Ga,rfl,m3,h1,h2,h5⟩ | ⟨res,t,rfl,J⟩⟩
        ·dsimp -zeta -zetaHave -zetaUnused only;refine Hh (Jz ?_);exact ab ⟨Fk.trans ⟨rfl,rfl,rfl,rfl⟩,_,_,_,_,rfl,m3,h1,h2,by lia⟩
        ·exact ab ⟨Fk,_,_,rfl,J⟩
      ·exact ab ⟨sm,_,_,rfl,J⟩
    ·rintro r Fq ⟨sm,out,ia,ib,mg,rfl,m,GA,GB,hsz⟩;have:=m.size (by simp;lia) (by simp;lia)
     simp at this;lia
    ·rintro r Fq ⟨sm,res,t,rfl,J⟩;exact ab (q res Fq J.1 J.2 sm)
 ·intro hg a b st Q hk FQ FR Gp Gq sa sb G4 G5 q;refine Hh (dg ?_);obtain ⟨bL,Gz,FY,Hd⟩:=aI (a:=b) (i:=b.size - 1) (by lia)
  obtain ⟨aL,Gs,G7,He⟩:=aI (a:=a) (i:=a.size - 1) (by lia)
  refine Hh (aE Gs ?_);have m0:MH lt a.toList b.toList [] a.size b.size:=⟨by rw [eS];simpa using sa,by rw [eS];simpa using sb,by rw [eS,eS];simp⟩
  have m1:MH lt a.toList b.toList [aL] (a.size - 1) b.size:=m0.pushA c Gp Gq G7 FY (G5 aL bL Gs Gz);have Fo:∀ x∈b.toList.take 1, ∀ y∈a.toList,lt y x=false:=by
   intro x hx y hy;obtain ⟨b0,Gr,G6,_⟩:=aI Gq;obtain ⟨a0,G2,FX,_⟩:=aI Gp;have ex:x=b0:=by
    rw [dh (by lia) G6] at hx
    simpa using hx
   subst ex;have h:=G4 a0 x G2 Gr;obtain ⟨j,hj,e⟩:=JF.mp hy;have FS:a.toList[j]? = some y:=by rw [<- e];exact z4 hj
   by_cases hj0:j=0
   ·subst hj0;rw [FX] at FS;cases FS;exact h
   ·exact c.le_trans h (fj sa (by lia) FX FS)
  try dsimp -zeta -zetaHave -zetaUnused only
  refine af (fun h => ?_) (fun h => ?_)
  ·skip
   have h:a.size - 1=0:=by simpa using h
   refine ab ?_;have r:=m1.fin (.inl h);exact q _ _ (by simpa only [Hs,Hw,I7,HR,bw] using r.1) (by simpa only [Hs,Hw,I7,HR,bw] using r.2) Same.refl
  ·skip
   refine af (fun h2 => ?_) (fun h2 => ?_)
   ·skip
    have h2:b.size=1:=by simpa using h2
    refine ab ?_;have r:=m1.finB (by rw [h2];exact Fo)
    exact q _ _ (by simpa only [Hs,Hw,I7,HR,bw] using r.1) (by simpa only [Hs,Hw,I7,HR,bw] using r.2) Same.refl
   ·skip
    have h:a.size - 1≠0:=by simpa using h
    have h2:b.size≠1:=by simpa using h2
    refine Hh (Lj ?_)
    try dsimp -zeta -zetaHave -zetaUnused only
    refine Hh (aF (Q:=fun r st'=>Same st st' /\ ∃ res t,r=(some res,t)/\Res lt a.toList b.toList res.toList)
     (Iy (fun i r st'=>Same st st' /\ ∃ na nb out mg,r=(none,na,nb,out,mg)/\MH lt a.toList b.toList out.toList na nb/\0 < na/\1 < nb/\na < a.size/\nb<=b.size/\i+1<=out.size) ?_ ?_ ⟨Same.refl,_,_,_,_,rfl,m1,by lia,by lia,by lia,by lia,by simp⟩) ?_)
    ·rintro i r Fq _ hi ⟨sm,na,nb,out,mg,rfl,m,FK,FZ,Gh,Gi,hsz⟩
     try dsimp -zeta -zetaHave -zetaUnused only
     refine Hh (aF (Q:=fun r st'=>st'=Fq/\((∃ Fe Ff B ac bc,r=(none,Fe,Ff,B,ac,bc)/\MH lt a.toList b.toList B.toList Fe Ff/\0 < Fe/\1 < Ff/\Fe < a.size/\Ff<=b.size/\i+2<=B.size) ∨ ∃ res t,r=(some res,t)/\Res lt a.toList b.toList res.toList))
      (Iy (fun j r st'=>st'=Fq /\ ∃ Fe Ff B ac bc,r=(none,Fe,Ff,B,ac,bc)/\MH lt a.toList b.toList B.toList Fe Ff/\0 < Fe/\1 < Ff/\Fe < a.size/\Ff<=b.size/\i+1+j<=B.size) ?_ ?_ ⟨rfl,_,_,_,_,_,rfl,m,FK,FZ,Gh,Gi,by lia⟩) ?_)
     ·rintro j r F8 _ hj ⟨rfl,Fe,Ff,B,ac,bc,rfl,m2,h1,h2,Fl,Fn,h3⟩
      try dsimp only
      obtain ⟨y,hy,Fs,Fw⟩:=aI (a:=b) (i:=Ff - 1) (by lia)
      obtain ⟨x,hx,G8,G1⟩:=aI (a:=a) (i:=Fe - 1) (by lia)
      refine Hh (aE hy (Hh (aE hx (Hh (jZ c (sm.kind.trans hk) (FR _ Fw) (FQ _ G1) ?_)))))
      try dsimp only
      refine af (fun hl => ?_) (fun hl => ?_)
      ·skip
       refine Hh (aE hx ?_)
       try dsimp only
       have m3:=m2.pushA c h1 (by lia) G8 Fs (c.asym _ _ hl)
       refine af (fun h => ?_) (fun h => ?_)
       ·skip
        have h:Fe - 1=0:=by simpa using h
        exact ab ⟨rfl, .inr ⟨_,_,rfl,by have r:=m3.fin (.inl h);simpa only [Hs,Hw,I7,HR,bw] using r⟩⟩
       ·skip
        have h:Fe - 1≠0:=by simpa using h
        refine af (fun _ => ?_) (fun _ => ?_)
        ·exact ab ⟨rfl, .inl ⟨_,_,_,_,_,rfl,by simpa only [Hs,Hw,I7,HR,bw] using m3,by lia,h2,by lia,Fn,by simp;lia⟩⟩
        ·exact ab ⟨rfl,_,_,_,_,_,rfl,by simpa only [Hs,Hw,I7,HR,bw] using m3,by lia,h2,by lia,Fn,by simp;lia⟩
      ·skip
       refine Hh (aE hy ?_)
       try dsimp only
       have m3:=m2.pushB c h1 (by lia) G8 Fs (by simpa using hl)
       refine af (fun h => ?_) (fun h => ?_)
       ·skip
        have h:Ff - 1=1:=by simpa using h
        exact ab ⟨rfl, .inr ⟨_,_,rfl,by have r:=m3.finB (by rw [h];exact Fo);simpa only [Hs,Hw,I7,HR,bw] using r⟩⟩
       ·skip
        have h:Ff - 1≠1:=by simpa using h
        refine af (fun _ => ?_) (fun _ => ?_)
        ·exact ab ⟨rfl, .inl ⟨_,_,_,_,_,rfl,by simpa only [Hs,Hw,I7,HR,bw] using m3,h1,by lia,Fl,by lia,by simp;lia⟩⟩
        ·exact ab ⟨rfl,_,_,_,_,_,rfl,by simpa only [Hs,Hw,I7,HR,bw] using m3,h1,by lia,Fl,by lia,by simp;lia⟩
     ·rintro r F8 ⟨rfl,Fe,Ff,B,ac,bc,rfl,m2,h1,h2,Fl,Fn,h3⟩;exact ⟨rfl, .inl ⟨_,_,_,_,_,rfl,m2,h1,h2,Fl,Fn,by lia⟩⟩
     ·rintro r F8 ⟨rfl,⟨Fe,Ff,B,ac,bc,rfl,m2,h1,h2,Fl,Fn,h3⟩ | ⟨res,t,rfl,J⟩⟩
      ·try dsimp -zeta -zetaHave -zetaUnused only
       refine Hh (dg ?_);refine Hh (aF (Q:=fun r st'=>Same st st'/\((∃ F9 U F Fj ac bc,r=(none,F9,U,F,Fj,ac,bc)/\MH lt a.toList b.toList F.toList F9 U/\0 < F9/\1 < U/\F9 < a.size/\U<=b.size/\i+2<=F.size) ∨ ∃ res t,r=(some res,t)/\Res lt a.toList b.toList res.toList))
        (Iy (fun j r st'=>Same st st' /\ ∃ F9 U F Fj ac bc,r=(none,F9,U,F,Fj,ac,bc)/\MH lt a.toList b.toList F.toList F9 U/\0 < F9/\1 < U/\F9 < a.size/\U<=b.size/\i+2<=F.size) ?_ ?_ ⟨sm,_,_,_,_,_,_,rfl,m2,h1,h2,Fl,Fn,h3⟩) ?_)
       ·rintro j r F5 _ hj ⟨Fk,F9,U,F,Fj,G9,Ga,rfl,m3,h1,h2,Fl,Fn,h5⟩;obtain ⟨y,hy,Fs,Fw⟩:=aI (a:=b) (i:=U - 1) (by lia)
        refine zM fun QQ hQ => ?_;have G:∀ (st':IC) (res:Array Hk) t,Same st st'->Res lt a.toList b.toList res.toList->QQ (.done (some res,t)) st':=fun st' res t hs hr=>hQ _ _ ⟨hs, .inr ⟨_,_,rfl,hr⟩⟩;have GC:∀ (st':IC) (out:Array Hk) na nb mg ac bc,Same st st'->MH lt a.toList b.toList out.toList na nb->0 < na->1 < nb->na < a.size->nb<=b.size->i+2<=out.size->QQ (.done (none,na,nb,out,mg,ac,bc)) st'/\QQ (.yield (none,na,nb,out,mg,ac,bc)) st':=fun st' out ia ib mg ac bc hs p1 p2 p3 p4 p5 p6=>⟨hQ _ _ ⟨hs, .inl ⟨_,_,_,_,_,_,rfl,p1,p2,p3,p4,p5,p6⟩⟩,hQ _ _ ⟨hs,_,_,_,_,_,_,rfl,p1,p2,p3,p4,p5,p6⟩⟩;clear hQ hj
        extract_lets -underBinder s0 vna s1 vnb s2 vout s3 vmg s4 vac vbc jp vmx
        have Gb:∀ mg,wpS (Hy prog w) A E s (jp () mg) QQ F5:=by
         intro mg;dsimp -zeta -zetaHave -zetaUnused only [jp,s0,vna,s1,vnb,s2,vout,s3,vmg,s4,vac,vbc];clear vmx jp vbc vac s4 vmg s3 vout s2 vnb s1 vna s0;refine Hh (Jz ?_);refine vw (P:=Same st) (Fk.trans ⟨rfl,rfl,rfl,rfl⟩) fun FT Fb => ?_;have Gc:=Fb.kind.trans hk;refine Hh (aE hy ?_);refine Hh (hg false y a [] (a.toList.take F9) (a.toList.drop F9) _ _ _ _ _ Gc (FR _ Fw) (by simp) rfl (fV (by lia)) (fun x hx=>FQ x (Kc hx)) (by lia) ((D2.mp m3.pa).1) fun X Y e hX hY => ?_)
         dsimp -zeta -zetaHave -zetaUnused only;have m4:=m3.galA c e (by lia) Fs fun x hx=>c.asym _ _ (vx (hY x hx))
         have Fc : 0 < X.length -> ∀ x4,a.toList[X.length - 1]? = some x4->lt y x4=false:=fun h0 x4 Fy=>zN (hX x4 (oP e h0 Fy));have FU:=mF e (by lia)
         extract_lets -underBinder +onlyGivenNames vk vac Fz
         clear_value vac
         have FG:∀ (Fu:Nat) (O:Array Hk),MH lt a.toList b.toList O.toList Fu U->(∀ x4,a.toList[Fu - 1]? = some x4->lt y x4=false)->0 < Fu->Fu < a.size->i+2<=O.size->wpS (Hy prog w) A E s (Fz () Fu O) QQ FT:=by
          intro Fu O GD FA Gj H9 Gd;dsimp -zeta -zetaHave -zetaUnused only [Fz];clear Fz vk FU Fc m4 hX hY;obtain ⟨x4,Fy,Fg,Gf⟩:=aI (a:=a) (i:=Fu - 1) (by lia)
          refine Hh (aE hy ?_);have m5:=GD.pushB c Gj (by lia) Fg Fs (FA x4 Fg)
          rw [<- Hw] at m5;have Fh:i+2<=(O.push y).size:=by rw [Mw];lia
          try dsimp -zeta -zetaHave -zetaUnused only
          extract_lets -underBinder +onlyGivenNames vo5
          dsimp -zeta -zetaHave -zetaUnused only [vo5];clear vo5
          revert m5 Fh
          generalize O.push y=out5;intro m5 Fh;refine af (fun h => ?_) (fun h => ?_)
          ·exact ab (G _ _ _ Fb (m5.finR (by rw [Ks h];exact Fo)))
          ·have h:U - 1≠1:=by simpa using h
           refine Hh (aE Fy ?_);refine Hh (hg true x4 b [] (b.toList.take (U - 1)) (b.toList.drop (U - 1)) _ _ _ _ _ Gc (FQ _ Gf) (by simp) rfl (fV (by lia)) (fun x hx=>FR x (Kc hx)) (by lia) ((D2.mp m5.pb).1) fun X2 Y2 e2 FL FM => ?_)
           dsimp -zeta -zetaHave -zetaUnused only;have m6:=m5.galB c e2 Gj Fg fun x hx=>vy (FM x hx);have Fd : 0 < X2.length -> ∀ y6,b.toList[X2.length - 1]? = some y6->lt x4 y6=false:=fun h0 y6 Gg=>c.asym _ _ (zO (FL y6 (oP e2 h0 Gg)));have FV:=mF e2 (by lia)
           extract_lets -underBinder +onlyGivenNames vk vbc FB
           clear_value vbc
           have FH:∀ (FJ:Nat) (F7:Array Hk),MH lt a.toList b.toList F7.toList Fu FJ->(∀ y6,b.toList[FJ - 1]? = some y6->lt x4 y6=false)->1 < FJ->FJ<=b.size->i+2<=F7.size->wpS (Hy prog w) A E s (FB () FJ F7) QQ FT:=by
            intro FJ F7 GE FC GR GF GP;dsimp -zeta -zetaHave -zetaUnused only [FB];clear FB vk FV Fd m6 FL FM m5 Fh Gd h5 h1 h2 Fl Fn hsz FK FZ Gh Gi h3;obtain ⟨y6,Gg,FI,GQ⟩:=aI (a:=b) (i:=FJ - 1) (by lia)
            refine Hh (aE Fy ?_);have m7:=GE.pushA c Gj (by lia) Fg FI (FC y6 FI)
            rw [<- Hw] at m7;dsimp only;refine af (fun h => ?_) (fun h => ?_)
            ·exact ab (G _ _ _ Fb (m7.finL (.inl (Ks h))))
            ·have h:Fu - 1≠0:=by simpa using h
             have:=fun mg ac bc=>GC FT (F7.push x4) (Fu - 1) FJ mg ac bc Fb m7 (by lia) GR (by lia) GF (by rw [Mw];lia)
             exact af (fun _=>ab (this _ _ _).1) (fun _=>ab (this _ _ _).2)
           clear_value FB
           refine af (fun h0 => ?_) (fun h0 => ?_)
           ·dsimp only;have m6:=m6.cut (a:=b) e2;refine af (fun h => ?_) (fun h => ?_)
            ·exact ab (G _ _ _ Fb (m6.finR (by rw [Ks h];exact Fo)))
            ·have h:X2.length≠1:=by simpa using h
             refine af (fun h9 => ?_) (fun h9 => ?_)
             ·exact ab (G _ _ _ Fb (m6.finL (.inr (Ks h9))))
             ·have h9:X2.length≠0:=by simpa using h9
              exact FH _ _ m6 (Fd (by lia)) (by lia) (by lia) (by rw [KW];lia)
           ·have h0 : ¬ (U - 1 - X2.length > 0):=h0;have hl:X2.length=U - 1:=by lia
            have G3 : 0 < X2.length:=by lia
            have hr:=Fd G3;rw [hl] at hr;exact FH _ _ m5 hr (by lia) (by lia) Fh
         clear_value Fz
         refine af (fun h0 => ?_) (fun h0 => ?_)
         ·dsimp only;have m4:=m4.cut (a:=a) e;refine af (fun h => ?_) (fun h => ?_)
          ·exact ab (G _ _ _ Fb (m4.finL (.inl (Ks h))))
          ·have h:X.length≠0:=by simpa using h
           exact FG _ _ m4 (Fc (by lia)) (by lia) (by lia) (by rw [KW];lia)
         ·have h0 : ¬ (F9 - X.length > 0):=h0;have hl:X.length=F9:=by lia
          have hr:=Fc (by lia)
          rw [hl] at hr;exact FG _ _ m3 hr h1 Fl h5
        clear_value jp
        exact af (fun _=>Gb _) (fun _=>Gb _)
       ·rintro r F5 ⟨Fk,F9,U,F,Fj,G9,Ga,rfl,m3,h1,h2,Fl,Fn,h5⟩;exact ⟨Fk, .inl ⟨_,_,_,_,_,_,rfl,m3,h1,h2,Fl,Fn,h5⟩⟩
       ·rintro r F5 ⟨Fk,⟨F9,U,F,Fj,G9,Ga,rfl,m3,h1,h2,Fl,Fn,h5⟩ | ⟨res,t,rfl,J⟩⟩
        ·try dsimp -zeta -zetaHave -zetaUnused only
         refine Hh (Jz ?_);exact ab ⟨Fk.trans ⟨rfl,rfl,rfl,rfl⟩,_,_,_,_,rfl,m3,h1,h2,Fl,Fn,by lia⟩
        ·exact ab ⟨Fk,_,_,rfl,J⟩
      ·exact ab ⟨sm,_,_,rfl,J⟩
    ·rintro r Fq ⟨sm,na,nb,out,mg,rfl,m,FK,FZ,Gh,Gi,hsz⟩;have:=m.size (by simp;lia) (by simp;lia)
     simp at this;lia
    ·rintro r Fq ⟨sm,res,t,rfl,J⟩;exact ab (q res Fq J.1 J.2 sm)
end
end Srt
end L2
namespace L2
namespace Srt
open PySem PySem.Spec PyProof.Rows
section
variable {prog:HK} {w:Ie} {A:Io} {E:h6->hI->Prop} {s:hI} {kd:Lh} {P:Hk->Prop} {lt:Hk->Hk->Bool}
structure Kp (st st':IC):Prop where
 kind:Ja st'=Ja st
 pend:Hx st'=Hx st
 fail:JM st'=JM st
theorem Kp.refl {st:IC}:Kp st st:=⟨rfl,rfl,rfl⟩
theorem Kp.trans {a b c:IC} (h:Kp a b) (g:Kp b c):Kp a c:=⟨g.kind.trans h.kind,g.pend.trans h.pend,g.fail.trans h.fail⟩
theorem qA {a:Array Hk} {L B R:List Hk} (e:a.toList=L++(B++R)) {i j:Nat} (hi:i=L.length) (q:j=L.length+B.length):(mirror a i j ((j - i) / 2)).toList=L++(B.reverse++R):=by
 have hs:a.size=L.length+(B.length+R.length):=by rw [<- HN,e];simp
 apply LJ;intro k;rw [HJ,getElem?_mirror_all (by lia)]
 have g:∀ n:Nat,a[n]? = (L++(B++R))[n]? := fun n=>by rw [<- HJ,e]
 rw [g,g]
 by_cases h1:k < L.length
 ·rw [if_neg (by lia),Hu h1,Hu h1]
 ·by_cases h2:k < j
  ·rw [if_pos (by lia),D1 (by lia),Hu (by lia),D1 (by lia),Hu (by simp;lia),List.getElem?_reverse (by lia)]
   congr 1;lia
  ·rw [if_neg (by lia),D1 (by lia),D1 (by lia),D1 (by lia),D1 (by simp;lia)]
   simp
theorem qB {a:Array Hk} {L j q R:List Hk} {x:Hk} (e:a.toList=L++((j++q)++x::R)) {src d:Nat} (hi:src=L.length+(j.length+q.length)) (hd:d=q.length):(bubble a src d).toList=L++((j++x::q)++R):=by
 have hs:a.size=L.length+(j.length+q.length+(R.length+1)):=by rw [<- HN,e];simp;lia
 apply LJ;intro k;rw [HJ,getElem?_bubble (by lia) d (by lia)]
 have g:∀ n:Nat,a[n]? = (L++((j++q)++x::R))[n]? := fun n=>by rw [<- HJ,e]
 rw [g,g,g]
 by_cases h1:k < L.length
 ·rw [if_neg (by lia),if_neg (by lia),Hu h1,Hu h1]
 ·by_cases h2:k < L.length+j.length
  ·rw [if_neg (by lia),if_neg (by lia),D1 (by lia),Hu (by simp;lia),Hu (by lia),D1 (by lia),Hu (by simp;lia),Hu (by lia)]
  ·by_cases h3:k=L.length+j.length
   ·rw [if_pos (by lia),D1 (by lia),D1 (by simp;lia),D1 (by lia),Hu (by simp;lia),D1 (by lia)]
    have e1:src - L.length - (j++q).length=0:=by simp;lia
    have e2:k - L.length - j.length=0:=by lia
    rw [e1,e2];rfl
   ·by_cases h4:k<=src
    ·rw [if_neg (by lia),if_pos (by lia),D1 (by lia),Hu (by simp;lia),D1 (by lia),D1 (by lia),Hu (by simp;lia),D1 (by lia)]
     have e2:k - L.length - j.length=(k - 1 - L.length - j.length)+1:=by lia
     rw [e2,Kt]
    ·rw [if_neg (by lia),if_neg (by lia),D1 (by lia),D1 (by simp;lia),D1 (by lia),D1 (by simp;lia)]
     have e2:k - L.length - (j++q).length=(k - L.length - (j++x::q).length)+1:=by simp;lia
     rw [e2,Kt]
theorem ee (c:Cm prog w A s kd P lt) {i j:Nat} {x y:Hk} {st:IC} {Q:Option Bool->IC->Prop} (z:Ja st=kd) (hx:(Ib st)[i]? = some x) (B:(Ib st)[j]? = some y) (px:P x) (py:P y) (q:Q (some (lt x y)) st):wpS (Hy prog w) A E s (ltAt' i j) Q st:=by
 rw [ltAt'_eq];exact Hh (Lj (Hh (aE hx (Hh (aE B (jZ c z px py q))))))
theorem ka {i j:Nat} {st:IC} {Q:Unit->IC->Prop} {L B R:List Hk} (e:(Ib st).toList=L++(B++R)) (hi:i=L.length) (z:j=L.length+B.length) (q:∀ st',(Ib st').toList=L++(B.reverse++R)->Kp st st'->Q () st'):wpS (Hy prog w) A E s (reverseSlice' i j) Q st:=by
 rw [reverseSlice'_eq];exact Jz (q _ (qA e hi z) ⟨rfl,rfl,rfl⟩)
theorem cE {st:IC} {L xs:List Hk} (e:(Ib st).toList=L++xs) {i n:Nat} (hi:i=L.length+n):(Ib st)[i]? = xs[n]? := by
 rw [<- HJ,e,hi,D1 (by lia)]
 congr 1;lia
theorem oR (c:Cm prog w A s kd P lt) {xs:List Hk} {n:Nat} {x y:Hk} (h:Ord lt (xs.take n)) (q : 0 < n) (hx:xs[n]? = some x) (B:xs[n - 1]? = some y) (F:lt x y=false):Ord lt (xs.take (n+1)):=by
 rw [PZ,hx];refine D2.mpr ⟨h,by simp,fun z G u j => ?_⟩
 simp at j;subst j;exact io c h q B F z G
noncomputable abbrev dB (lt:Hk->Hk->Bool) (l:List Hk):Prop:=l.Pairwise fun x y=>lt x y=false
theorem j6 (c:Cm prog w A s kd P lt) {D:List Hk} {e x:Hk} (h:dB lt (D++[e])) (hx:lt e x=false):dB lt (D++[e]++[x]):=by
 refine D2.mpr ⟨h,by simp,fun z B u j => ?_⟩
 simp at j;subst j;obtain ⟨_,_,F⟩:=D2.mp h
 rcases Hv.mp B with g | g
 ·cases q:lt z u with
  | false=>rfl
  | true=>rcases c.neg z e u q with r | r
          ·rw [F z g e (by simp)] at r;cases r
          ·rw [hx] at r;cases r
 ·simp at g;subst g;exact hx
theorem qZ {q F:List Hk} (h:dB lt (q++F)) (he:∀ x∈F, ∀ y∈F,lt x y=false):dB lt (q++F.reverse):=by
 obtain ⟨h1,h2,z⟩:=D2.mp h;refine D2.mpr ⟨h1, ?_,fun x hx y j=>z x hx y (L8.mp j)⟩;rw [Oi];exact h2.imp_of_mem fun hx j _=>he _ j _ hx
theorem perm_take {xs:List Hk} {n:Nat}:(xs.take n++xs.drop n).Perm xs:=by rw [J0]
theorem qC (c:Cm prog w A s kd P lt) {L xs:List Hk} {st:IC} {Q:Option Nat->IC->Prop} (hk:Ja st=kd) (O:(Ib st).toList=L++xs) (h0:xs≠[]) (hP:∀ x∈xs,P x)
 (q:∀ r R st',(Ib st').toList=L++(r++R)->(r++R).Perm xs->r≠[]->Ord lt r->Kp st st'->Q (some r.length) st'):wpS (Hy prog w) A E s (countRun' L.length xs.length) Q st:=by
 have Ft : 0 < xs.length:=IF.mpr h0;rw [countRun'_eq]
 try dsimp -zeta -zetaHave -zetaUnused only
 refine Hh (aF (Q:=fun r st'=>st'=st /\ ∃ n,r=(none,n)/\1<=n/\n<=xs.length/\Ord lt (xs.take n)/\(n=xs.length ∨ ∃ x y,xs[n]? = some x/\xs[n - 1]? = some y/\lt x y=true))
  (Iy (fun i r st'=>st'=st/\r=(none,i)/\Ord lt (xs.take i)) ?_ ?_ ⟨rfl,rfl,by
    cases xs with
    | nil=>exact absurd rfl h0
    | cons x t=>simp⟩) ?_)
 ·rintro i r st' h1 hi ⟨rfl,rfl,ho⟩;dsimp only;obtain ⟨x,hx⟩:∃ x,xs[i]? = some x:=⟨_,z4 hi⟩;obtain ⟨y,hy⟩:∃ y,xs[i - 1]? = some y:=⟨_,z4 (by lia)⟩
  refine Hh (ee c hk ((cE O rfl).trans hx) ((cE O (by lia)).trans hy) (hP _ (HH hx)) (hP _ (HH hy)) ?_)
  dsimp only;refine af (fun h => ?_) (fun h => ?_)
  ·exact ab ⟨rfl,i,rfl,h1,by lia,ho, .inr ⟨x,y,hx,hy,h⟩⟩
  ·exact ab ⟨rfl,rfl,oR c ho (by lia) hx hy (by simpa using h)⟩
 ·rintro r st' ⟨rfl,rfl,ho⟩;exact ⟨rfl,_,rfl,by lia,by lia,ho, .inl (by lia)⟩
 ·rintro r st' ⟨rfl,n,rfl,FR,Fu,ho,hc⟩;dsimp -zeta -zetaHave -zetaUnused only;have Fg:Q (some n) st':=by
   have:=q (xs.take n) (xs.drop n) st' (by rw [O,J0]) perm_take (fun z=>by
    have h3:=congrArg Ku z;rw [HD,Jw] at h3;lia) ho Kp.refl
   rw [HD,Lk Fu] at this;exact this
  extract_lets -underBinder +onlyGivenNames vr vn
  dsimp -zeta -zetaHave -zetaUnused only [vr];clear vr;have en:n=vn:=rfl
  clear_value vn
  subst en;refine af (fun h=>ab Fg) (fun h => ?_);have FG:n≠xs.length:=by simpa using h
  obtain ⟨x,y,hx,hy,FH⟩:=hc.resolve_left FG;have FS:n < xs.length:=by lia
  have exs:xs=xs.take n++x::xs.drop (n+1):=by
   have h1:=(J0 n xs).symm;rw [eK hx] at h1;exact h1
  have Fv:y∈xs.take n:=by rw [dh (by lia) hy];simp
  extract_lets -underBinder +onlyGivenNames jp
  have Fw:∀ (B:List Hk) (F6:IC),(Ib F6).toList=L++(B++x::xs.drop (n+1))->B.Perm (xs.take n)->B.length=n->(∀ u∈B, ∀ v∈B,lt u v=false)->y∈B->Kp st' F6->wpS (Hy prog w) A E s (jp ()) Q F6:=by
   intro B F6 e1 hB F7 F8 F9 Fa;dsimp -zeta -zetaHave -zetaUnused only [jp];clear jp;refine Hh (dg ?_)
   try dsimp -zeta -zetaHave -zetaUnused only
   extract_lets -underBinder +onlyGivenNames vn1 vq1
   have FI:vn1=n+1:=rfl;have eq1:vq1=0:=rfl
   clear_value vn1 vq1
   subst FI eq1;refine Hh (aF (Q:=fun r U => ∃ G F R neq,Kp st' U/\(Ib U).toList=L++((G++F)++R)/\((G++F)++R).Perm xs/\r=(none,(G++F).length,neq)/\F.length=neq+1/\dB lt (G++F)/\(∀ u∈F, ∀ v∈F,lt u v=false))
    (Iy (fun i r U => ∃ G F R neq,Kp st' U/\(Ib U).toList=L++((G++F)++R)/\((G++F)++R).Perm xs/\r=(none,(G++F).length,neq)/\F.length=neq+1/\dB lt (G++F)/\(∀ u∈F, ∀ v∈F,lt u v=false)/\(G++F).length=i) ?_ ?_ ?_) ?_)
   ·rintro i r U FT hi ⟨G,F,R,neq,kp,ea,hp,rfl,hF,hN,hE,Fx⟩;subst Fx;have hlen:=hp.length_eq;rw [D0] at hlen;obtain ⟨z,R',rfl⟩:∃ z R',R=z::R':=by
     cases R with
     | nil=>simp at hlen;simp at hi;lia
     | cons z R'=>exact ⟨z,R',rfl⟩
    have FJ:F≠[]:=fun z=>by rw [z] at hF;simp at hF
    obtain ⟨F0,e,rfl⟩:∃ F0 e,F=F0++[e]:=⟨F.dropLast,F.getLast FJ,(JL _).symm⟩;have hz:(Ib U)[L.length+(G++(F0++[e])).length]? = some z:=by
     rw [cE ea rfl,D1 (by lia),MM];rfl
    have he:(Ib U)[L.length+(G++(F0++[e])).length - 1]? = some e:=by
     rw [cE ea (n:=(G++F0).length) (by simp <;> lia),Hu (by simp <;> lia), <- Hn,D1 (by lia),MM];rfl
    have Fy:P z:=hP z (hp.mem_iff.mp (by simp))
    have Fz:P e:=hP e (hp.mem_iff.mp (by simp))
    dsimp only;refine Hh (ee c (kp.kind.trans hk) hz he Fy Fz ?_);dsimp only;have Fk:dB lt (G++F0++[e]):=by rw [Hn];exact hN
    refine af (fun Fl => ?_) (fun Fl => ?_)
    ·have Fb:lt e z=false:=c.asym _ _ Fl;refine af (fun Fc => ?_) (fun Fc => ?_)
     ·refine Hh (ka (L:=L++G) (B:=F0++[e]) (R:=z::R') (by rw [ea];simp) (by simp only [D0] at hF ⊢;simp only [HI] at hF ⊢;lia) (by simp <;> lia) fun Z e3 Y => ?_)
      refine ab ⟨G++(F0++[e]).reverse,[z],R',0,kp.trans Y,by rw [e3];simp, ?_,by simp <;> lia,rfl, ?_, ?_,by simp <;> lia⟩
      ·refine JJ.trans ?_ hp;rw [Hn,Hn,Hn];exact Iw _ (IK _ (LK _))
      ·have h1:=qZ hN hE;refine D2.mpr ⟨h1,by simp,fun u j v J => ?_⟩
       simp at J;subst J;have hm:=j6 c Fk Fb;refine (D2.mp hm).2.2 u ?_ v (by simp)
       rw [Hn]
       rcases Hv.mp j with g | g
       ·exact II _ g
       ·exact HA _ (L8.mp g)
      ·intro u j v J;simp at j J;subst j J;exact c.irr
     ·refine ab ⟨G++(F0++[e]),[z],R',0,kp,by rw [ea];simp,by simpa using hp,by simp <;> lia,rfl, ?_, ?_,by simp <;> lia⟩
      ·have hm:=j6 c Fk Fb;simpa using hm
      ·intro u j v J;simp at j J;subst j J;exact c.irr
    ·have FK:lt z e=false:=by simpa using Fl
     refine Hh (ee c (kp.kind.trans hk) he hz Fz Fy ?_);dsimp only;refine af (fun FA => ?_) (fun FA => ?_)
     ·exact ab ⟨G,F0++[e],z::R',neq,kp,ea,hp,rfl,hF,hN,hE⟩
     ·have Fb:lt e z=false:=by simpa using FA
      refine ab ⟨G,(F0++[e])++[z],R',neq+1,kp,by rw [ea];simp,by simpa using hp,by simp <;> lia,by simp at hF ⊢;lia, ?_, ?_,by simp <;> lia⟩
      ·have hm:=j6 c Fk Fb;simpa using hm
      ·have FL:∀ u∈F0++[e],lt u z=false:=fun u j=>by
        cases q1:lt u z with
        | false=>rfl
        | true=>rcases c.neg u e z q1 with r | r
                ·rw [hE u j e (by simp)] at r;cases r
                ·rw [Fb] at r;cases r
       have FM:∀ u∈F0++[e],lt z u=false:=fun u j=>by
        cases q1:lt z u with
        | false=>rfl
        | true=>rcases c.neg z e u q1 with r | r
                ·rw [FK] at r;cases r
                ·rw [hE e (by simp) u j] at r;cases r
       intro u j v J
       rcases Hv.mp j with g | g <;> rcases Hv.mp J with g2 | g2
       ·exact hE u g v g2
       ·simp at g2;subst g2;exact FL u g
       ·simp at g;subst g;exact FM v g2
       ·simp at g g2;subst g g2;exact c.irr
   ·rintro r U ⟨G,F,R,neq,kp,ea,hp,hr,hF,hN,hE,Fx⟩;exact ⟨G,F,R,neq,kp,ea,hp,hr,hF,hN,hE⟩
   ·refine ⟨B,[x],xs.drop (n+1),0,Fa,by rw [e1];simp, ?_,by simp [F7],rfl, ?_, ?_,by simp [F7]⟩
    ·have h9:(B++x::xs.drop (n+1)).Perm xs:=by
      have h9:=IK (x::xs.drop (n+1)) hB;rw [<- exs] at h9;exact h9
     simpa using h9
    ·refine D2.mpr ⟨List.Pairwise.imp_of_mem (fun j J _=>F8 _ j _ J) (List.pairwise_of_forall_mem_list (r:=fun _ _=>True) fun _ _ _ _=>trivial),by simp,fun u j v J => ?_⟩
     simp at J;subst J
     cases q1:lt u v with
     | false=>rfl
     | true=>rcases c.neg u y v q1 with r | r
             ·rw [F8 u j y F9] at r;cases r
             ·rw [c.asym _ _ FH] at r;cases r
    ·intro u j v J;simp at j J;subst j J;exact c.irr
   ·rintro r U ⟨G,F,R,neq,kp,ea,hp,rfl,hF,hN,hE⟩;dsimp -zeta -zetaHave -zetaUnused only
    extract_lets -underBinder +onlyGivenNames vr vs vn2 vq2
    dsimp -zeta -zetaHave -zetaUnused only [vr];have FN:vn2=(G++F).length:=rfl;have eq2:neq=vq2:=rfl
    clear_value vn2 vq2
    clear vs vr;subst FN eq2
    extract_lets -underBinder +onlyGivenNames Fd
    have Fh:∀ (D:List Hk) (Z:IC),(Ib Z).toList=L++(D++R)->dB lt D->(D++R).Perm xs->D.length=(G++F).length->0 < D.length->Kp st' Z->wpS (Hy prog w) A E s (Fd ()) Q Z:=by
     intro D Z e3 Fm Fn Fe Fi Y;dsimp -zeta -zetaHave -zetaUnused only [Fd];clear Fd;have FO : 0 < D.length:=by lia
     refine Hh (ka (L:=L) (B:=D) (R:=R) e3 rfl (by rw [Fe]) fun FB e4 FC => ?_)
     have o4:Ord lt D.reverse:=Oi.mpr Fm;have Ff:(D.reverse++R).Perm xs:=(IK _ (LK D)).trans Fn;have FE:(D.reverse++R).length=xs.length:=Ff.length_eq;have Fo:Ord lt ((D.reverse++R).take D.length):=by
      rw [List.take_append_of_le_length (by simp),JR (by simp)];exact o4
     have Fp:∀ u∈D.reverse++R,P u:=fun u j=>hP u (Ff.mem_iff.mp j);have FP:D.length<=xs.length:=by rw [<- FE];simp
     rw [<- Fe];generalize D.length=N0 at Fo FO FP;generalize D.reverse++R=ys at e4 Ff FE Fo Fp;refine Hh (aF (Q:=fun r F5=>F5=FB /\ ∃ n,r=(none,n)/\1<=n/\n<=xs.length/\Ord lt (ys.take n))
      (Iy (fun i r F5=>F5=FB/\r=(none,i)/\Ord lt (ys.take i)) ?_ ?_ ⟨rfl,rfl,Fo⟩) ?_)
     ·rintro i r F5 h1 hi ⟨rfl,rfl,ho⟩;dsimp only;obtain ⟨u,j⟩:∃ u,ys[i]? = some u:=⟨_,z4 (by lia)⟩
      obtain ⟨v,J⟩:∃ v,ys[i - 1]? = some v:=⟨_,z4 (by lia)⟩
      refine Hh (ee c ((Y.trans FC).kind.trans hk) ((cE e4 rfl).trans j) ((cE e4 (by lia)).trans J) (Fp _ (HH j)) (Fp _ (HH J)) ?_)
      dsimp only;refine af (fun h => ?_) (fun h => ?_)
      ·exact ab ⟨rfl,i,rfl,by lia,by lia,ho⟩
      ·exact ab ⟨rfl,rfl,oR c ho (by lia) j J (by simpa using h)⟩
     ·rintro r F5 ⟨rfl,rfl,ho⟩;exact ⟨rfl,_,rfl,by lia,by lia,ho⟩
     ·rintro r F5 ⟨rfl,m,rfl,FU,FV,ho⟩;refine ab ?_;have:=q (ys.take m) (ys.drop m) F5 (by rw [e4,J0]) (perm_take.trans Ff) (fun z=>by
       have h3:=congrArg Ku z;rw [HD,Jw] at h3;lia) ho (Y.trans FC)
      rw [HD,Lk (by lia)] at this
      exact this
    clear_value Fd
    refine af (fun Fc => ?_) (fun Fc => ?_)
    ·refine Hh (ka (L:=L++G) (B:=F) (R:=R) (by rw [ea];simp) (by simp <;> lia) (by simp <;> lia) fun Z e3 Y => ?_)
     have Y:=kp.trans Y;have e3:(Ib Z).toList=L++((G++F.reverse)++R):=by rw [e3];simp
     have Fm:=qZ hN hE;have Fn:((G++F.reverse)++R).Perm xs:=(IK _ (Iw _ (LK _))).trans hp;have Fe:(G++F.reverse).length=(G++F).length:=by simp
     have Fi : 0 < (G++F.reverse).length:=by simp <;> lia
     exact Fh _ _ e3 Fm Fn Fe Fi Y
    ·exact Fh _ _ ea hN hp rfl (by simp <;> lia) kp
  clear_value jp
  refine af (fun h1 => ?_) (fun h1 => ?_)
  ·obtain ⟨x0,Fq⟩:∃ x0,xs[0]? = some x0:=⟨_,z4 Ft⟩;refine Hh (ee c hk ((cE O (n := 0) (by lia)).trans Fq) ((cE O (by lia)).trans hy) (hP _ (HH Fq)) (hP _ (HH hy)) ?_)
   dsimp only;refine af (fun hr=>ab Fg) (fun hr => ?_);have hr:lt x0 y=false:=by simpa using hr
   have FF:∀ u∈xs.take n,lt u x0=false:=fun u j=>by
    obtain ⟨i,hi,eu⟩:=JF.mp j;have Fs:(xs.take n)[i]? = some u:=by rw [<- eu];exact z4 hi
    have Fj:(xs.take n)[0]? = some x0:=by rw [Le (by lia)];exact Fq
    by_cases hi0:i=0
    ·subst hi0;rw [Fj] at Fs;cases Fs;exact c.irr
    ·exact fj ho (by lia) Fj Fs
   have FQ:∀ u∈xs.take n,lt y u=false:=io c ho (by lia) hy c.irr
   have heq:∀ u∈xs.take n, ∀ v∈xs.take n,lt u v=false:=fun u j v J=>by
    exact c.le_trans (c.le_trans (FQ v J) hr) (FF u j)
   refine Hh (ka (L:=L) (B:=xs.take n) (R:=x::xs.drop (n+1)) (by rw [O];exact congrArg (L ++ ·) exs) rfl (by rw [HD,Lk Fu]) fun F6 e1 Fa => ?_)
   have hB:(xs.take n).reverse.Perm (xs.take n):=LK _;have F7:(xs.take n).reverse.length=n:=by rw [OY,HD];lia
   have F8:∀ u∈(xs.take n).reverse, ∀ v∈(xs.take n).reverse,lt u v=false:=fun u j v J=>heq u (L8.mp j) v (L8.mp J);have F9:y∈(xs.take n).reverse:=L8.mpr Fv;exact Fw _ _ e1 hB F7 F8 F9 Fa
  ·have F6:=st';have hn:n=1:=by lia
   have Fa:Kp st' st':=Kp.refl;have e1:(Ib st').toList=L++(xs.take n++x::xs.drop (n+1)):=by rw [O];exact congrArg (L ++ ·) exs
   have hB:(xs.take n).Perm (xs.take n):=OJ _;have F7:(xs.take n).length=n:=by rw [HD];lia
   have F9:=Fv;have F8:∀ u∈xs.take n, ∀ v∈xs.take n,lt u v=false:=fun u j v J=>by
    have e0:xs.take n=[y]:=by
     subst hn;rw [dh (by lia) hy];rfl
    rw [e0] at j J;simp at j J;subst j J;exact c.irr
   exact Fw _ _ e1 hB F7 F8 F9 Fa
end
end Srt
end L2
namespace L2
namespace Srt
open PySem PySem.Spec PyProof.Rows
section
variable {prog:HK} {w:Ie} {A:Io} {E:h6->hI->Prop} {s:hI} {kd:Lh} {P:Hk->Prop} {lt:Hk->Hk->Bool}
theorem vz (c:Cm prog w A s kd P lt) {L r R:List Hk} {n:Nat} {st:IC} {Q:Bool->IC->Prop} (hk:Ja st=kd) (Z:(Ib st).toList=L++(r++R)) (h0:r≠[]) (ho:Ord lt r) (hn:r.length<=n) (F5:n<=(r++R).length) (hP:∀ x∈r++R,P x)
 (q:∀ r' R' st',(Ib st').toList=L++(r'++R')->(r'++R').Perm (r++R)->r'.length=n->Ord lt r'->Kp st st'->Q true st'):wpS (Hy prog w) A E s (binarySort' L.length n r.length) Q st:=by
 have Fb : 0 < r.length:=IF.mpr h0;rw [binarySort'_eq];refine Hh (aF (Q:=fun x st'=>x=(none,()) /\ ∃ D T,Kp st st'/\(Ib st').toList=L++(D++T)/\(D++T).Perm (r++R)/\D.length=n/\Ord lt D)
  (Iy (fun i x st'=>x=(none,()) /\ ∃ D T,Kp st st'/\(Ib st').toList=L++(D++T)/\(D++T).Perm (r++R)/\D.length=i/\Ord lt D) ?_ ?_ ⟨rfl,r,R,Kp.refl,Z,OJ _,by lia,ho⟩) ?_)
 ·rintro k x B Fc Fd ⟨rfl,D,T,kp,ea,J,hD,O⟩;dsimp only;subst hD;have hlen:=J.length_eq;rw [D0] at hlen;obtain ⟨z,T',rfl⟩:∃ z T',T=z::T':=by
   cases T with
   | nil=>simp at hlen F5;lia
   | cons z T'=>exact ⟨z,T',rfl⟩
  have F6:∀ u∈D,P u:=fun u G=>hP u (J.mem_iff.mp (II _ G));have F7:P z:=hP z (J.mem_iff.mp (by simp))
  have hz:(Ib B)[L.length+D.length]? = some z:=by
   rw [cE ea rfl,D1 (by lia),MM];rfl
  refine Hh (aF (Q:=fun x st'=>st'=B /\ ∃ k,x=(none,k,k)/\Gal lt false z D k k)
   (Iy (fun i x st'=>st'=B /\ ∃ lo hi,x=(none,lo,hi)/\Gal lt false z D lo hi/\hi - lo+i<=D.length) ?_ ?_ ⟨rfl,0,D.length,rfl,⟨by lia,by lia,fun _ _ h=>by lia,fun i x hi hx=>by
     have:=(HC.mp hx).1;lia⟩,by lia⟩) ?_)
  ·rintro i x U _ hi ⟨rfl,lo,j,rfl,F,hm⟩;dsimp only;have hl:=F.le;have F8:=F.len;refine af (fun F9 => ?_) (fun F9 => ?_)
   ·exact ab ⟨rfl,j,by rw [show lo=j by lia],by rw [show lo=j by lia] at F;exact F⟩
   ·obtain ⟨u,G⟩:∃ u,D[(lo+j) / 2]? = some u:=⟨_,z4 (by lia)⟩
    have Fa:(Ib U)[L.length+(lo+j) / 2]? = some u:=by
     rw [cE ea rfl,Hu (by lia)];exact G
    refine Hh (ee c (kp.kind.trans hk) hz Fa F7 (F6 _ (HH G)) ?_);dsimp only;refine af (fun hf => ?_) (fun hf => ?_)
    ·exact ab ⟨rfl,_,_,rfl,⟨by lia,by lia,F.up,im c O G (by simp [bey,hf])⟩,by lia⟩
    ·exact ab ⟨rfl,_,_,rfl,⟨by lia,F8,ik c O G (by simpa [bey] using hf),F.dn⟩,by lia⟩
  ·rintro x U ⟨rfl,lo,j,rfl,F,hm⟩;have hl:=F.le;exact ⟨rfl,j,by rw [show lo=j by lia],by rw [show lo=j by lia] at F;exact F⟩
  ·rintro x U ⟨rfl,l,rfl,F⟩;dsimp only;obtain ⟨X,Y,e,hl,hX,hY⟩:=F.out;subst hl e;rw [moveDown'_eq];refine Hh (Jz ?_);refine ab ⟨rfl,X++z::Y,T',kp.trans ⟨rfl,rfl,rfl⟩,qB ea (by simp) (by simp;lia), ?_,by simp;lia, ?_⟩
   ·refine JJ.trans ?_ J;rw [Hn,Hn];refine Iw _ ?_;rw [NO];exact Qi.symm
   ·obtain ⟨o1,o2,o3⟩:=D2.mp O;refine D2.mpr ⟨o1,N8.mpr ⟨fun u G=>c.asym _ _ (by have:=hY u G;simpa [bey] using this),o2⟩,fun u G v hv => ?_⟩
    rcases Ho.mp hv with g | g
    ·subst g;have:=hX u G;simpa [bey] using this
    ·exact o3 u G v g
 ·rintro x B ⟨rfl,D,T,kp,ea,J,hD,O⟩;exact ⟨rfl,D,T,kp,ea,J,by lia,O⟩
 ·rintro x B ⟨rfl,D,T,kp,ea,J,hD,O⟩;exact ab (q D T B ea J hD O kp)
noncomputable def Pd:Nat->List (List Hk)->List (Nat×Nat×Nat)->Prop
 | _,[],ps=>ps=[]
 | s,r::rs,ps => ∃ p t,ps=(s,r.length,p)::t/\Pd (s+r.length) rs t
theorem Pd.split:∀ {l t:List (List Hk)} {s:Nat} {ps:List (Nat×Nat×Nat)},Pd s (l++t) ps -> ∃ pl pt,ps=pl++pt/\pl.length=l.length/\Pd s l pl/\Pd (s+l.flatten.length) t pt
 | [],t,s,ps,h=>⟨[],ps,rfl,rfl,rfl,by simpa using h⟩
 | r::l,t,s,ps,h=>by
   obtain ⟨p,q,e,h⟩:=h;obtain ⟨pl,pt,e2,j,h1,h2⟩:=Pd.split h;refine ⟨(s,r.length,p)::pl,pt,by rw [e,e2];rfl,by simp [j],⟨p,pl,rfl,h1⟩, ?_⟩
   rw [IJ,D0, <- NA];exact h2
theorem Pd.join:∀ {l t:List (List Hk)} {s:Nat} {pl pt:List (Nat×Nat×Nat)},Pd s l pl->Pd (s+l.flatten.length) t pt->Pd s (l++t) (pl++pt)
 | [],t,s,pl,pt,h,g=>by
  have:pl=[]:=h;subst this;simpa using g
 | r::l,t,s,pl,pt,h,g=>by
   obtain ⟨p,q,e,h⟩:=h;subst e;refine ⟨p,q++pt,rfl,Pd.join h ?_⟩;rw [IJ,D0, <- NA] at g;exact g
theorem Pd.length:∀ {l:List (List Hk)} {s:Nat} {ps:List (Nat×Nat×Nat)},Pd s l ps->ps.length=l.length
 | [],_,_,h=>by rw [show _=[] from h];rfl
 | r::l,s,ps,h=>by
   obtain ⟨p,q,e,h⟩:=h;rw [e];simp [h.length]
structure Rn (lt:Hk->Hk->Bool) (kd:Lh) (a₀:List Hk) (st:IC) (rs:List (List Hk)) (R:List Hk):Prop where
 arr:(Ib st).toList=rs.flatten++R
 perm:(rs.flatten++R).Perm a₀
 ord:∀ r∈rs,r≠[]/\Ord lt r
 pend:Pd 0 rs (Hx st).toList
 kind:Ja st=kd
 fail:JM st=none
theorem Rn.merge (c:Cm prog w A s kd P lt) {a₀:List Hk} (hP:∀ x∈a₀,P x) {st:IC} {l t:List (List Hk)} {j F R:List Hk} (h:Rn lt kd a₀ st (l++j::F::t) R) {i:Nat} (hi:i=l.length) {Q:Bool->IC->Prop}
 (q:∀ m st',Rn lt kd a₀ st' (l++m::t) R->m.length=j.length+F.length->Q true st'):wpS (Hy prog w) A E s (QZ i) Q st:=by
 obtain ⟨g,lo,Fa,⟨O,U,Y⟩,Z⟩:=Ea (E:=E) c;obtain ⟨pl,pt,ep,J,F5,F6⟩:=h.pend.split;obtain ⟨L,t1,e1,F7⟩:=F6;obtain ⟨p2,t2,e2,F8⟩:=F7;subst e1 e2;have o1:=h.ord j (by simp)
 have o2:=h.ord F (by simp)
 have G:∀ x,x∈j∨x∈F->P x:=fun x hx=>hP x (h.perm.mem_iff.mp (by simp only [JN,IJ,Hv];rcases hx with z | z <;> simp [z]))
 have ip:∀ (k:Nat) (v:Nat×Nat×Nat),(Hx st).toList[k]? = some v->(Hx st)[k]? = some v:=fun k v e=>by rw [<- HJ];exact e
 refine Z O (U O) (Y O) i (0+l.flatten.length) j.length L (0+l.flatten.length+j.length) F.length p2 l.flatten j F (t.flatten++R) st Q h.kind h.fail (ip _ _ ?_) (ip _ _ ?_) (by rw [h.arr];simp) (MN _) rfl (by lia) rfl o1.1 o2.1 (fun x hx=>G x (.inl hx)) (fun x hx=>G x (.inr hx)) o1.2 o2.2 ?_
 ·rw [ep,hi, <- J,D1 (by lia),MM];rfl
 ·rw [ep,hi, <- J,D1 (by lia),show pl.length+1 - pl.length=1 by lia];rfl
 ·intro m st' ea hm om hk hf F9;have B:m.length=j.length+F.length:=by rw [hm.length_eq];simp
  refine q m st' ⟨by rw [ea];simp, ?_, ?_, ?_,hk,hf⟩ B
  ·refine JJ.trans ?_ h.perm;simp only [JN,IJ,Hn];refine Iw _ ?_;rw [<- Hn j];exact IK _ hm
  ·intro r hr
   rcases Hv.mp hr with z | z
   ·exact h.ord r (II _ z)
   ·rcases Ho.mp z with z | z
    ·subst z;exact ⟨fun z=>by rw [z] at B;have:=IF.mpr o1.1;simp at B;lia,om⟩
    ·exact h.ord r (by simp [z])
  ·rw [F9];have e3:(((Hx st).setIfInBounds i (0+l.flatten.length,j.length+F.length,L)).eraseIdxIfInBounds (i+1)).toList=pl++(0+l.flatten.length,j.length+F.length,L)::t2:=by
    rw [Array.toList_eraseIdxIfInBounds,Na,ep,hi, <- J];rw [List.set_append_right _ _ (by lia),MM,List.eraseIdx_append_of_length_le (by lia),show pl.length+1 - pl.length=1 by lia];rfl
   rw [e3];refine F5.join ⟨L,t2,by rw [B], ?_⟩
   rw [B, <- NA];exact F8
theorem oS {α:Type} {l:List α} (h : 1 < l.length):∃ t a b,l=t++[a,b]:=by
 obtain ⟨t1,b,e1⟩:∃ t b,l=t++[b]:=⟨l.dropLast,l.getLast (fun z=>by rw [z] at h;simp at h),(JL _).symm⟩
 obtain ⟨j,a,e2⟩:∃ t b,t1=t++[b]:=⟨t1.dropLast,t1.getLast (fun z=>by rw [e1,z] at h;simp at h),(JL _).symm⟩
 exact ⟨j,a,b,by rw [e1,e2];simp⟩
theorem CV {α:Type} {l:List α} {i:Nat} (h:i+1 < l.length):∃ t a b u,l=t++a::b::u/\t.length=i:=by
 refine ⟨l.take i,l[i],l[i+1],l.drop (i+2), ?_,by rw [HD];lia⟩
 rw [<- IG (by lia), <- IG (by lia),J0]
theorem Rn.size {a₀:List Hk} {st:IC} {rs:List (List Hk)} {R:List Hk} (h:Rn lt kd a₀ st rs R):rs.flatten.length+R.length=a₀.length:=by
 have:=h.perm.length_eq;rw [D0] at this;exact this
theorem r6:∀ {rs:List (List Hk)},(∀ r∈rs,r≠[])->rs.length<=rs.flatten.length
 | [],_=>by simp
 | r::rs,h=>by
   have h1:=IF.mpr (h r (by simp))
   have h2:=r6 (rs:=rs) fun r j=>h r (by simp [j])
   rw [IJ,D0,Ic];lia
theorem vA {l:List (List Hk)} {s pw:Nat} {ps:Array (Nat×Nat×Nat)} (h:Pd s l ps.toList):Pd s l (ps.modify (ps.size - 1) fun x=>(x.1,x.2.1,pw)).toList:=by
 rw [Array.toList_modify];have g:∀ (l:List (List Hk)) (s k:Nat) (ps:List (Nat×Nat×Nat)),Pd s l ps->Pd s l (ps.modify k fun x=>(x.1,x.2.1,pw)):=by
  intro l
  induction l with
  | nil=>intro s k ps h;have:ps=[]:=h;subst this;cases k <;> rfl
  | cons r l ih =>
    intro s k ps h;obtain ⟨p,t,e,h⟩:=h;subst e
    cases k with
    | zero=>exact ⟨pw,t,rfl,h⟩
    | succ k=>exact ⟨p,_,rfl,ih _ k t h⟩
 exact g _ _ _ _ h
theorem qD (c:Cm prog w A s kd P lt) {st:IC} {Q:Unit->IC->Prop} (hk:Ja st=kd) (hf:JM st=none) (hp:Hx st = #[]) (hP:∀ x∈(Ib st).toList,P x)
 (q:∀ st',(Ib st').toList.Perm (Ib st).toList->Ord lt (Ib st').toList->JM st'=none->Q () st'):wpS (Hy prog w) A E s sortRuns' Q st:=by
 rw [sortRuns'_eq];refine Hh (Lj ?_)
 try dsimp only
 have hsz:(Ib st).size=(Ib st).toList.length:=by simp
 generalize hA:(Ib st).toList=a₀ at hP q hsz;generalize hS:(Ib st).size=size at hsz;generalize minRun' size size 0=minrun;refine Hh (aF (Q:=fun r st' => ∃ rs lo,r=(none,lo)/\Rn lt kd a₀ st' rs [])
  (Iy (fun i r st' => ∃ rs R,r=(none,rs.flatten.length)/\Rn lt kd a₀ st' rs R/\i<=rs.flatten.length) ?_ ?_ ⟨[],a₀,rfl,⟨by simpa using hA,by simp,by simp,by rw [hp];rfl,hk,hf⟩,by simp⟩) ?_)
 ·rintro i r Fc _ hi ⟨rs,R,rfl,L,F9⟩
  try dsimp only
  have Fn:=L.size;refine af (fun Fk => ?_) (fun Fk => ?_)
  ·have:R=[]:=I9.mp (by lia)
   subst this;exact ab ⟨rs,_,rfl,L⟩
  ·have Fd:size - rs.flatten.length=R.length:=by lia
   have Fl:R≠[]:=fun z=>by rw [z,Jw] at Fd;lia
   have Fe:∀ x∈R,P x:=fun x hx=>hP x (L.perm.mem_iff.mp (HA _ hx));rw [Fd];refine Hh (qC c L.kind L.arr Fl Fe fun r R1 J ea F5 U ho kp => ?_)
   try dsimp only
   have F:Rn lt kd a₀ J rs (r++R1):=⟨ea,(Iw _ F5).trans L.perm,L.ord,by rw [kp.pend];exact L.pend,kp.kind.trans L.kind,kp.fail.trans L.fail⟩
   have Ff:r.length+R1.length=R.length:=by rw [<- F5.length_eq];simp
   refine af (fun Fa => ?_) (fun Fa => ?_)
   ·refine Hh (dg ?_);refine Hh (vz c F.kind F.arr U ho (n:=min R.length minrun) (by lia) (by simp;lia) (fun x hx=>Fe x (F5.mem_iff.mp hx)) fun r2 R2 B Fg F8 G Fm F7 => ?_)
    try dsimp only
    refine af (fun h=>absurd h (by simp)) (fun _ => ?_)
    have Fh:r2≠[]:=fun z=>by
     rw [z] at G;simp at G;have:=IF.mpr U;lia
    have F:Rn lt kd a₀ B rs (r2++R2):=⟨Fg,(Iw _ F8).trans F.perm,F.ord,by rw [F7.pend];exact F.pend,F7.kind.trans F.kind,F7.fail.trans F.fail⟩
    rw [<- G];clear G F8 Fg F7 ea F5 kp Ff Fa;generalize B=J at F;clear ho U;have ho:=Fm;have U:=Fh;generalize r2=r at F ho U;generalize R2=R1 at F;refine Hh (Lj ?_)
    try dsimp only
    have Fi:(Hx J).size=rs.length:=by rw [<- HN];exact F.pend.length
    cases hb:(Hx J).back? with
    | none =>
      try dsimp only
      have HL:rs.flatten.length=rs.flatten.length:=rfl;refine Hh (Jz ?_);have Fb:=IF.mpr U;have Y:(rs++[r]).flatten.length=rs.flatten.length+r.length:=by rw [JN,D0,HL];simp
      refine ab ⟨rs++[r],R1,by rw [Y],⟨by rw [show _=_ from F.arr];simp, ?_, ?_, ?_,F.kind,F.fail⟩,by rw [Y];lia⟩
      ·refine JJ.trans (KS (by simp)) F.perm
      ·intro u hu
       rcases Hv.mp hu with z | z
       ·exact F.ord u z
       ·simp at z;subst z;exact ⟨U,ho⟩
      ·have h8:(Hx (Ln J ((Hx J).push (rs.flatten.length,r.length,0)))).toList=(Hx J).toList++[(rs.flatten.length,r.length,0)]:=by
        show ((Hx J).push _).toList=_;rw [Hw]
       rw [show _=_ from h8];exact F.pend.join ⟨0,[],by rw [HL,MN],rfl⟩
    | some v =>
      obtain ⟨s1,n1,p1⟩:=v
      try dsimp only
      refine Hh (aF (Q:=fun x st'=>x=(none,()) /\ ∃ rs',Rn lt kd a₀ st' rs' (r++R1)/\rs'.flatten.length=rs.flatten.length)
       (Iy (fun i x st'=>x=(none,()) /\ ∃ rs',Rn lt kd a₀ st' rs' (r++R1)/\rs'.flatten.length=rs.flatten.length) ?_ ?_ ⟨rfl,rs,F,rfl⟩) ?_)
      ·rintro j x B _ hj ⟨rfl,rs',O,G⟩;refine Hh (Lj ?_)
       try dsimp only
       have F6:(Hx B).size=rs'.length:=by rw [<- HN];exact O.pend.length
       by_cases h1:(Hx B).size > 1
       ·rw [if_pos h1];have h2:(Hx B)[(Hx B).size - 2]? = some ((Hx B)[(Hx B).size - 2]'(by lia)):=HY (by lia)
        rw [h2]
        try dsimp only
        refine af (fun h => ?_) (fun h => ?_)
        ·exact ab ⟨rfl,rs',O,G⟩
        ·obtain ⟨t,a,b,e⟩:=oS (l:=rs') (by lia)
         subst e;refine Hh (O.merge c hP (by rw [F6];simp) fun m Z h4 hm => ?_)
         refine af (fun h=>absurd h (by simp)) (fun _=>ab ⟨rfl,_,h4, ?_⟩)
         rw [<- G];simp [hm]
       ·rw [if_neg h1];exact ab ⟨rfl,rs',O,G⟩
      ·rintro x B ⟨rfl,rs',O,G⟩;exact ⟨rfl,rs',O,G⟩
      ·rintro x B ⟨rfl,rs',O,G⟩
       try dsimp only
       refine Hh (Jz ?_);have h4:Rn lt kd a₀ (Ln B ((Hx B).modify ((Hx B).size - 1) fun x=>(x.1,x.2.1,power' size (2*s1+n1) (2*s1+n1+n1+r.length) size))) rs' (r++R1):=⟨O.arr,O.perm,O.ord,vA O.pend,O.kind,O.fail⟩;generalize Fj:Ln B ((Hx B).modify ((Hx B).size - 1) fun x=>(x.1,x.2.1,power' size (2*s1+n1) (2*s1+n1+n1+r.length) size))=Z at h4;have HL:=G;refine Hh (Jz ?_);have Fb:=IF.mpr U;have Y:(rs'++[r]).flatten.length=rs.flatten.length+r.length:=by rw [JN,D0,HL];simp
       refine ab ⟨rs'++[r],R1,by rw [Y],⟨by rw [show _=_ from h4.arr];simp, ?_, ?_, ?_,h4.kind,h4.fail⟩,by rw [Y];lia⟩
       ·refine JJ.trans (KS (by simp)) h4.perm
       ·intro u hu
        rcases Hv.mp hu with z | z
        ·exact h4.ord u z
        ·simp at z;subst z;exact ⟨U,ho⟩
       ·have h8:(Hx (Ln Z ((Hx Z).push (rs.flatten.length,r.length,0)))).toList=(Hx Z).toList++[(rs.flatten.length,r.length,0)]:=by
         show ((Hx Z).push _).toList=_;rw [Hw]
        rw [show _=_ from h8];exact h4.pend.join ⟨0,[],by rw [HL,MN],rfl⟩
   ·clear ea F5 kp Ff Fa;refine Hh (Lj ?_)
    try dsimp only
    have Fi:(Hx J).size=rs.length:=by rw [<- HN];exact F.pend.length
    cases hb:(Hx J).back? with
    | none =>
      try dsimp only
      have HL:rs.flatten.length=rs.flatten.length:=rfl;refine Hh (Jz ?_);have Fb:=IF.mpr U;have Y:(rs++[r]).flatten.length=rs.flatten.length+r.length:=by rw [JN,D0,HL];simp
      refine ab ⟨rs++[r],R1,by rw [Y],⟨by rw [show _=_ from F.arr];simp, ?_, ?_, ?_,F.kind,F.fail⟩,by rw [Y];lia⟩
      ·refine JJ.trans (KS (by simp)) F.perm
      ·intro u hu
       rcases Hv.mp hu with z | z
       ·exact F.ord u z
       ·simp at z;subst z;exact ⟨U,ho⟩
      ·have h8:(Hx (Ln J ((Hx J).push (rs.flatten.length,r.length,0)))).toList=(Hx J).toList++[(rs.flatten.length,r.length,0)]:=by
        show ((Hx J).push _).toList=_;rw [Hw]
       rw [show _=_ from h8];exact F.pend.join ⟨0,[],by rw [HL,MN],rfl⟩
    | some v =>
      obtain ⟨s1,n1,p1⟩:=v
      try dsimp only
      refine Hh (aF (Q:=fun x st'=>x=(none,()) /\ ∃ rs',Rn lt kd a₀ st' rs' (r++R1)/\rs'.flatten.length=rs.flatten.length)
       (Iy (fun i x st'=>x=(none,()) /\ ∃ rs',Rn lt kd a₀ st' rs' (r++R1)/\rs'.flatten.length=rs.flatten.length) ?_ ?_ ⟨rfl,rs,F,rfl⟩) ?_)
      ·rintro j x B _ hj ⟨rfl,rs',O,G⟩;refine Hh (Lj ?_)
       try dsimp only
       have F6:(Hx B).size=rs'.length:=by rw [<- HN];exact O.pend.length
       by_cases h1:(Hx B).size > 1
       ·rw [if_pos h1];have h2:(Hx B)[(Hx B).size - 2]? = some ((Hx B)[(Hx B).size - 2]'(by lia)):=HY (by lia)
        rw [h2]
        try dsimp only
        refine af (fun h => ?_) (fun h => ?_)
        ·exact ab ⟨rfl,rs',O,G⟩
        ·obtain ⟨t,a,b,e⟩:=oS (l:=rs') (by lia)
         subst e;refine Hh (O.merge c hP (by rw [F6];simp) fun m Z h4 hm => ?_)
         refine af (fun h=>absurd h (by simp)) (fun _=>ab ⟨rfl,_,h4, ?_⟩)
         rw [<- G];simp [hm]
       ·rw [if_neg h1];exact ab ⟨rfl,rs',O,G⟩
      ·rintro x B ⟨rfl,rs',O,G⟩;exact ⟨rfl,rs',O,G⟩
      ·rintro x B ⟨rfl,rs',O,G⟩
       try dsimp only
       refine Hh (Jz ?_);have h4:Rn lt kd a₀ (Ln B ((Hx B).modify ((Hx B).size - 1) fun x=>(x.1,x.2.1,power' size (2*s1+n1) (2*s1+n1+n1+r.length) size))) rs' (r++R1):=⟨O.arr,O.perm,O.ord,vA O.pend,O.kind,O.fail⟩;generalize Fj:Ln B ((Hx B).modify ((Hx B).size - 1) fun x=>(x.1,x.2.1,power' size (2*s1+n1) (2*s1+n1+n1+r.length) size))=Z at h4;have HL:=G;refine Hh (Jz ?_);have Fb:=IF.mpr U;have Y:(rs'++[r]).flatten.length=rs.flatten.length+r.length:=by rw [JN,D0,HL];simp
       refine ab ⟨rs'++[r],R1,by rw [Y],⟨by rw [show _=_ from h4.arr];simp, ?_, ?_, ?_,h4.kind,h4.fail⟩,by rw [Y];lia⟩
       ·refine JJ.trans (KS (by simp)) h4.perm
       ·intro u hu
        rcases Hv.mp hu with z | z
        ·exact h4.ord u z
        ·simp at z;subst z;exact ⟨U,ho⟩
       ·have h8:(Hx (Ln Z ((Hx Z).push (rs.flatten.length,r.length,0)))).toList=(Hx Z).toList++[(rs.flatten.length,r.length,0)]:=by
         show ((Hx Z).push _).toList=_;rw [Hw]
        rw [show _=_ from h8];exact h4.pend.join ⟨0,[],by rw [HL,MN],rfl⟩
 ·rintro r Fc ⟨rs,R,rfl,L,F9⟩;have:=L.size;have:R=[]:=I9.mp (by lia)
  subst this;exact ⟨rs,_,rfl,L⟩
 ·rintro r Fc ⟨rs,lo,rfl,L⟩
  try dsimp only
  refine Hh (aF (Q:=fun r st'=>r=(none,()) /\ ∃ rs,Rn lt kd a₀ st' rs []/\rs.length<=1)
   (Iy (fun i r st'=>r=(none,()) /\ ∃ rs,Rn lt kd a₀ st' rs []/\rs.length+i<=size) ?_ ?_ ⟨rfl,rs,L, ?_⟩) ?_)
  ·rintro i r J _ hi ⟨rfl,rs,L,F9⟩;refine Hh (Lj ?_)
   try dsimp only
   have Fi:(Hx J).size=rs.length:=by rw [<- HN];exact L.pend.length
   refine af (fun h => ?_) (fun h => ?_)
   ·exact ab ⟨rfl,rs,L,by lia⟩
   ·have go:∀ k,k+1 < rs.length->wpS (Hy prog w) A E s (QZ k) (fun b st'=>b=true /\ ∃ rs',Rn lt kd a₀ st' rs' []/\rs'.length+1=rs.length) J:=by
     intro k hk;obtain ⟨t,a,b,u,e,ht⟩:=CV hk;subst e;refine L.merge c hP ht.symm fun m B O _=>⟨rfl,_,O,by simp;lia⟩
    refine Hh (aF (go _ ?_) ?_)
    ·(repeat' split) <;> lia
    ·rintro b B ⟨rfl,rs',O,G⟩;refine af (fun h=>absurd h (by simp)) (fun _=>ab ⟨rfl,rs',O,by lia⟩)
  ·rintro r J ⟨rfl,rs,L,F9⟩;exact ⟨rfl,rs,L,by lia⟩
  ·have h1:=r6 fun r hr=>(L.ord r hr).1;have h2:=L.size;simp only [Jw] at h2;lia
  ·rintro r J ⟨rfl,rs,L,hl⟩;refine ab (q J (by rw [L.arr];exact L.perm) ?_ L.fail)
   rw [L.arr,IH]
   match rs,hl,L with
   | [],_,_=>exact Nq
   | [r],_,L=>simpa using (L.ord r (by simp)).2
end
end Srt
end L2
namespace L2
namespace Srt
open PySem PySem.Spec PyProof.Rows
def iq (cap:Nat):Prop := ∀ (prog:HK) (w:Ie) (A:Io) (E:h6->hI->Prop) (s:hI) (kd:Lh) (P:Hk->Prop) (lt:Hk->Hk->Bool),Cm prog w A s kd P lt -> ∀ (st:IC) (Q:Unit->IC->Prop),Ja st=kd->JM st=none->Hx st = #[]->(∀ x∈(Ib st).toList,P x)->2<=(Ib st).size->(Ib st).size<=cap ->
 (∀ st',(Ib st').toList.Perm (Ib st).toList->Ord lt (Ib st').toList->JM st'=none->Q () st')->wpS (Hy prog w) A E s sortRuns' Q st
theorem sZ {cap:Nat}:iq cap:=fun _ _ _ _ _ _ _ _ c _ _ j hf z B _ _ q=>qD c j hf z B q
end Srt
end L2
namespace L2
namespace Srt
open PySem PySem.Spec PyProof.Rows
inductive Ky where
 | int (i:Int)
 | tup (l:List Ky)
mutual
noncomputable def aA:Ky->Ky->Ordering
 | .int a, .int b=>if a < b then .lt else if a=b then .eq else .gt
 | .int _, .tup _ => .lt
 | .tup _, .int _ => .gt
 | .tup a, .tup b=>cmpKs a b
noncomputable def cmpKs:List Ky->List Ky->Ordering
 | [],[] => .eq
 | [],_::_ => .lt
 | _::_,[] => .gt
 | x::xs,y::ys=>(aA x y).then (cmpKs xs ys)
end
mutual
theorem dC:∀ a b,aA b a=(aA a b).swap
 | .int a, .int b=>by
  simp only [aA]
  by_cases h1:a < b
  ·rw [if_pos h1,if_neg (by lia),if_neg (by lia)];rfl
  ·by_cases h2:a=b
   ·rw [if_neg h1,if_pos h2,if_neg (by lia),if_pos h2.symm];rfl
   ·rw [if_neg h1,if_neg h2,if_pos (by lia)];rfl
 | .int _, .tup _=>by simp [aA]
 | .tup _, .int _=>by simp [aA]
 | .tup a, .tup b=>by simp only [aA];exact cmpKs_swap a b
theorem cmpKs_swap:∀ a b,cmpKs b a=(cmpKs a b).swap
 | [],[] => rfl
 | [],_::_=>rfl
 | _::_,[] => rfl
 | x::xs,y::ys=>by
   simp only [cmpKs];rw [dC x y,cmpKs_swap xs ys]
   cases aA x y <;> rfl
end
mutual
theorem ir:∀ a b,aA a b = .eq->a=b
 | .int a, .int b,h=>by
  simp only [aA] at h
  by_cases h1:a < b
  ·rw [if_pos h1] at h;cases h
  ·by_cases h2:a=b
   ·rw [h2]
   ·rw [if_neg h1,if_neg h2] at h;cases h
 | .int _, .tup _,h=>by simp [aA] at h
 | .tup _, .int _,h=>by simp [aA] at h
 | .tup a, .tup b,h=>by simp only [aA] at h;rw [cmpKs_eq a b h]
theorem cmpKs_eq:∀ a b,cmpKs a b = .eq->a=b
 | [],[],_=>rfl
 | [],_::_,h=>by simp [cmpKs] at h
 | _::_,[],h=>by simp [cmpKs] at h
 | x::xs,y::ys,h=>by
   simp only [cmpKs] at h
   cases e:aA x y with
   | lt=>rw [e] at h;cases h
   | gt=>rw [e] at h;cases h
   | eq=>rw [e] at h;rw [ir x y e,cmpKs_eq xs ys h]
end
mutual
theorem kb:∀ a b c,aA a b = .lt->aA b c = .lt->aA a c = .lt
 | .int a, .int b, .int c,h,g=>by
  simp only [aA] at h g ⊢;have h1:a < b:=by
   by_cases h1:a < b
   ·exact h1
   ·rw [if_neg h1] at h;split at h <;> cases h
  have h2:b < c:=by
   by_cases h1:b < c
   ·exact h1
   ·rw [if_neg h1] at g;split at g <;> cases g
  rw [if_pos (by lia)]
 | .int _, .tup _, .int _,_,g=>by simp [aA] at g
 | .int _, .int _, .tup _,_,_=>by simp [aA]
 | .int _, .tup _, .tup _,_,_=>by simp [aA]
 | .tup _, .int _,_,h,_=>by simp [aA] at h
 | .tup _, .tup _, .int _,_,g=>by simp [aA] at g
 | .tup a, .tup b, .tup c,h,g=>by simp only [aA] at h g ⊢;exact cmpKs_trans a b c h g
theorem cmpKs_trans:∀ a b c,cmpKs a b = .lt->cmpKs b c = .lt->cmpKs a c = .lt
 | [],[],_,h,_=>by simp [cmpKs] at h
 | [],_::_,[],_,g=>by simp [cmpKs] at g
 | [],_::_,_::_,_,_=>by simp [cmpKs]
 | _::_,[],_,h,_=>by simp [cmpKs] at h
 | _::_,_::_,[],_,g=>by simp [cmpKs] at g
 | x::xs,y::ys,z::zs,h,g=>by
   simp only [cmpKs] at h g ⊢
   cases e:aA x y with
   | gt=>rw [e] at h;cases h
   | eq =>
     have:=ir x y e;subst this;rw [e] at h
     cases e2:aA x z with
     | gt=>rw [e2] at g;cases g
     | lt=>rfl
     | eq=>rw [e2] at g;exact cmpKs_trans xs ys zs h g
   | lt =>
     cases e2:aA y z with
     | gt=>rw [e2] at g;cases g
     | lt=>rw [kb x y z e e2];rfl
     | eq =>
       have:=ir y z e2;subst this;rw [e];rfl
end
noncomputable def ltK (a b:Ky):Bool:=aA a b == .lt
noncomputable def oT (a b:List Ky):Bool:=cmpKs a b == .lt
theorem yz (a b:Ky) (h:ltK a b=true):ltK b a=false:=by
 unfold ltK at h ⊢;rw [dC a b,(by simpa using h:aA a b = .lt)];rfl
theorem mG (a b:Ky) (h:ltK a b=false) (g:ltK b a=false):a=b:=by
 unfold ltK at h g;rw [dC a b] at g;apply ir
 cases e:aA a b with
 | eq=>rfl
 | lt=>rw [e] at h;cases h
 | gt=>rw [e] at g;cases g
theorem B0 (a b c:Ky) (h:ltK a c=true):ltK a b=true∨ltK b c=true:=by
 cases e:ltK a b with
 | true=>exact .inl rfl
 | false =>
   right
   cases e2:ltK b a with
   | false=>rw [mG a b e e2] at h;exact h
   | true =>
     unfold ltK at h e2 ⊢;rw [kb b a c (by simpa using e2) (by simpa using h)];rfl
theorem vB (x y:Ky) (xs ys:List Ky):oT (x::xs) (y::ys)=if (!ltK x y && !ltK y x)=true then oT xs ys else ltK x y:=by
 unfold oT ltK;rw [dC x y];simp only [cmpKs]
 cases aA x y <;> simp
mutual
noncomputable def toK:IU->Ky
 | .int i => .int i
 | .tuple xs => .tup (toKs xs)
 | _ => .int 0
noncomputable def toKs:List IU->List Ky
 | [] => []
 | x::xs=>toK x::toKs xs
end
inductive Cmpb:IU->IU->Prop where
 | int (a b:Int):Cmpb (.int a) (.int b)
 | nil (ys:List IU):Cmpb (.tuple []) (.tuple ys)
 | nil' (xs:List IU):Cmpb (.tuple xs) (.tuple [])
 | cons {x y:IU} {xs ys:List IU}:Cmpb x y->Cmpb (.tuple xs) (.tuple ys)->Cmpb (.tuple (x::xs)) (.tuple (y::ys))
theorem Cmpb.eqv {x y:IU} (h:Cmpb x y):Im x y=(!ltK (toK x) (toK y) && !ltK (toK y) (toK x)):=by
 have g:∀ {x y:IU},Cmpb x y->Im x y=(aA (toK x) (toK y) == .eq):=by
  intro x y h
  induction h with
  | int a b =>
    simp only [Im,toK,aA]
    by_cases h1:a < b
    ·rw [if_pos h1];simp;lia
    ·by_cases h2:a=b
     ·rw [if_neg h1,if_pos h2];simp [h2]
     ·rw [if_neg h1,if_neg h2];simp;lia
  | nil ys=>cases ys <;> simp [Im,IW,toK,toKs,aA,cmpKs]
  | nil' xs=>cases xs <;> simp [Im,IW,toK,toKs,aA,cmpKs]
  | @cons x y xs ys h1 h2 ih1 j =>
   simp only [Im] at j ⊢;simp only [IW,toK,toKs,aA,cmpKs] at j ⊢;rw [ih1,j]
   cases aA (toK x) (toK y) <;> simp
 rw [g h];unfold ltK;rw [dC (toK x) (toK y)]
 cases aA (toK x) (toK y) <;> rfl
section
variable {prog:HK} {w:Ie} {A:Io} {E:h6->hI->Prop} {s:hI}
theorem trd {b:Bool} {Q:Bool->hI->Prop} (q:Q b s):Ht (Hy prog w) A (truthOfDropped (.bool b)) Q E s:=by
 unfold truthOfDropped
 wp_walk
 exact q
theorem iu (a b:Int):ltK (.int a) (.int b)=decide (a < b):=by
 simp only [ltK,aA]
 by_cases h:a < b
 ·simp [h]
 ·by_cases h2:a=b <;> simp [h,h2]
theorem vC {a b:Int} {t u:Tok} {Q:h6->hI->Prop} (q:Q (.bool (decide (a < b))) s):Ht (Hy prog w) A (QB .Lt (.int a t) (.int b u)) Q E s :=
 wpAny_richCompare_same (T := "int") rfl rfl F.slot_int_lt (call_int_lt ⟨by simp,q⟩)
noncomputable def cI:List IU->List IU->Option Bool
 | x::xs,y::ys=>if Im x y=true then cI xs ys else some (ltK (toK x) (toK y))
 | _,_=>none
theorem j7:∀ {xs ys:List IU},Cmpb (.tuple xs) (.tuple ys)->ltK (toK (.tuple xs)) (toK (.tuple ys))=match cI xs ys with | some b=>b | none=>decide (xs.length < ys.length)
 | [],[],_=>rfl
 | [],_::_,_=>by simp [cI,toK,toKs,ltK,aA,cmpKs]
 | _::_,[],_=>by simp [cI,toK,toKs,ltK,aA,cmpKs]
 | x::xs,y::ys,h=>by
   cases h with
   | cons h1 h2 =>
     have ih:=j7 h2;have e:∀ a b:List Ky,ltK (.tup a) (.tup b)=oT a b:=fun a b=>by simp [ltK,oT,aA]
     simp only [toK,toKs,e] at ih ⊢;rw [vB, <- h1.eqv];simp only [cI]
     split
     ·rw [ih];simp
     ·rfl
noncomputable def cR {α β:Type} (M:Mn) (A:Io) (E:h6->hI->Prop) (f : α -> β -> Sem (ForInStep β)) (Q : β -> hI->Prop):List α -> β -> hI->Prop
 | [],c,s=>Q c s
 | x::xs,c,s=>Ht M A (f x c) (fun r s'=>match r with | .done c'=>Q c' s' | .yield c'=>cR M A E f Q xs c' s') E s
theorem fW {α β:Type} {M:Mn} {f : α -> β -> Sem (ForInStep β)} {Q : β -> hI->Prop}:∀ {l:List α} {c : β} {s:hI},cR M A E f Q l c s->Ht M A (forIn l c f) Q E s
 | [],c,s,h=>by rw [Oz];exact r4 h
 | x::xs,c,s,h=>by
   rw [KP];refine gV (Jy h (fun r s' j => ?_) fun _ _ z=>z)
   cases r with
   | done c'=>exact r4 j
   | yield c'=>exact fW j
theorem cw {h:Heap}:∀ {vs:List h6} {xs:List IU} {as:List Addr},OG h vs xs as->vs.length=xs.length
 | _,_,_, .nil=>rfl
 | _,_,_, .cons _ r=>by simp [cw r]
theorem j8 {α β:Type} {M:Mn} {n:Nat} {f : α -> Option β × Unit->Sem (ForInStep (Option β × Unit))} {g:Bool -> β} {pr : α -> h6×h6} {Q:Option β × Unit->hI->Prop} :
 ∀ {l:List α} {vs us:List h6} {xs ys:List IU} {as bs:List Addr},l.map pr=vs.zip us->OG s.heap vs xs as->OG s.heap us ys bs->Cmpb (.tuple xs) (.tuple ys)->J2 xs=true->J2 ys=true->JK xs<=n ->
  (∀ (z : α) (x y:h6) (d e:IU) (as bs:List Addr) (R:ForInStep (Option β × Unit)->hI->Prop),z∈l->pr z=(x,y)->LH s.heap x d as->LH s.heap y e bs->Cmpb d e->d.canLay0=true->e.canLay0=true->d.depth<=n ->
   R (if Im d e=true then .yield (none,()) else .done (some (g (ltK (toK d) (toK e))),())) s->Ht M A (f z (none,())) R E s) ->
  Q ((cI xs ys).map g,()) s->cR M A E f Q l (none,()) s
 | [],vs,us,xs,ys,as,bs,e,j,B,F,_,_,_,_,q=>by
  have h1:=cw j;have h2:=cw B;have:vs=[]∨us=[]:=by
   cases vs with
   | nil=>exact .inl rfl
   | cons v vs=>cases us with
     | nil=>exact .inr rfl
     | cons u us=>simp at e
  have e2:cI xs ys=none:=by
   rcases this with rfl | rfl
   ·cases xs with
    | nil=>simp [cI]
    | cons x xs=>simp at h1
   ·cases ys with
    | nil=>cases xs <;> simp [cI]
    | cons y ys=>simp at h2
  rw [e2] at q;exact q
 | z::l,vs,us,xs,ys,as,bs,e,j,B,F,lx,ly,hd,hf,q=>by
   cases j with
   | nil=>simp at e
   | cons rx j =>
     cases B with
     | nil=>simp at e
     | cons ry B =>
       simp only [HE,List.zip_cons_cons,QL] at e;simp only [J2,hH] at lx ly;simp only [JK] at hd
       cases F with
       | cons G J =>
         simp only [cR];refine hf z _ _ _ _ _ _ _ (by simp) e.1 rx ry G lx.1 ly.1 (by lia) ?_
         simp only [cI] at q
         split at q
         ·next h =>
          rw [if_pos h];exact j8 e.2 j B J lx.2 ly.2 (by lia) (fun z x y d e as bs R L=>hf z x y d e as bs R (by simp [L])) q
         ·next h =>
          rw [if_neg h];exact q
def EX (n:Nat):Prop := ∀ (prog:HK) (w:Ie) (A:Io) (s:hI) (a b:h6) (d e:IU) (as bs:List Addr) (E:h6->hI->Prop) (Q:h6->hI->Prop),d.depth<=n->Cmpb d e->LH s.heap a d as->LH s.heap b e bs->d.canLay0=true->e.canLay0=true->A.units+n+1 < K1 ->
 Q (.bool (ltK (toK d) (toK e))) s->Ht (Hy prog w) A (QB .Lt a b) Q E s
theorem Eb:∀ n,EX n:=by
 intro n
 induction n with
 | zero =>
   intro prog w A s a b d e as bs E Q hd z ra rb ld le Y q
   cases z with
   | int i j =>
     cases ra;cases rb
     exact vC (by rw [<- iu];exact q)
   | nil ys=>simp [KL] at hd
   | nil' xs=>simp [KL] at hd
   | cons _ _=>simp [KL] at hd
 | succ n ih =>
   intro prog w A s a b d e as bs E Q hd z ra rb ld le Y q;have tup:∀ xs ys,d = .tuple xs->e = .tuple ys->Ht (Hy prog w) A (QB .Lt a b) Q E s:=by
    rintro xs ys rfl rfl
    cases ra with
    | tuple h1 h2 Z G =>
      cases rb with
      | tuple g1 g2 g3 J =>
        rename_i l ol vl nl p ob vb nb;have tl:s.TypeIs (.ref l) "tuple" := ⟨_,h1,h2⟩;have tb:s.TypeIs (.ref p) "tuple" := ⟨_,g1,g2⟩;refine MP tl tb QM (Iq QM tl F.entry_tuple_lt ?_ (F.args_tuple_lt_2 _ _)) (by lia)
        unfold JZ.«tuple.__lt__»;refine gV ?_;have L:isSubtype (.type "tuple") (.type "tuple")=pure true:=by rw [LL];kernel_rfl
        wp_walk
        rw [Z]
        wp_walk
        rw [g3];refine r4 ?_;refine r4 ?_;refine gV (fW (j8 (n:=n) (g:=fun b=>Fin.done (Flow.ret (NU b))) (pr:=id) (List.map_id _) G J z ld le (by simp [KL] at hd;lia) ?_ ?_))
        ·rintro ⟨x,y⟩ x' y' d e as bs R _ hz rx ry z ld le hd r
         cases hz
         dsimp only;refine gV (Qj d e _ _ _ _ _ _ rx ry ld le ?_ prog w E _ ?_)
         ·show A.units+1+min d.depth e.depth < K1;lia
         ·by_cases B:Im d e=true
          ·rw [if_pos B] at r;rw [B];exact r4 r
          ·rw [if_neg B] at r;have B:Im d e=false:=by simpa using B
           rw [B];refine gV (Jq (gV (ih prog w _ s x y d e as bs E _ hd z rx ry ld le ?_ ?_)))
           ·show A.units+1+n+1 < K1;lia
           ·exact r4 r
        ·have e1:=j7 z
         cases e2:cI xs ys with
         | some b =>
           rw [e2] at e1;dsimp only at e1;rw [e1] at q;exact r4 ⟨_,rfl,by simp,q⟩
         | none =>
           rw [e2] at e1;dsimp only at e1;rw [e1] at q;have O:=cw G;have U:=cw J;refine r4 ⟨_,rfl, ?_, ?_⟩
           ·simp [LQ]
           ·simp only [HN] at O U;simp only [LQ];rw [O,U];exact q
   cases z with
   | int i j =>
     cases ra;cases rb
     exact vC (by rw [<- iu];exact q)
   | nil ys=>exact tup _ _ rfl rfl
   | nil' xs=>exact tup _ _ rfl rfl
   | cons _ _=>exact tup _ _ rfl rfl
end
end Srt
end L2
namespace L2
namespace Srt
open PySem PySem.Spec PyProof.Rows
section
variable {prog:HK} {w:Ie} {A:Io} {E:h6->hI->Prop} {s:hI}
theorem kc {α β:Type} {M:Mn} {f : α -> Sem β} {g : α -> β}:∀ {l:List α} {Q:List β -> hI->Prop},(∀ x∈l, ∀ R : β -> hI->Prop,R (g x) s->Ht M A (f x) R E s)->Q (l.map g) s->Ht M A (l.mapM f) Q E s
 | [],Q,_,q=>by rw [List.mapM_nil];exact r4 q
 | x::xs,Q,h,q=>by
   rw [List.mapM_cons];refine gV (h x (by simp) _ (gV (kc (fun y j=>h y (by simp [j])) (r4 q))))
theorem eT {α β:Type} {M:Mn} {f : α -> Sem β} {g : α -> β} {xs:Array α} {Q:Array β -> hI->Prop} (h:∀ x∈xs.toList, ∀ R : β -> hI->Prop,R (g x) s->Ht M A (f x) R E s) (q:Q (xs.map g) s):Ht M A (xs.mapM f) Q E s:=by
 rw [Array.mapM_eq_mapM_toList];rw [map_eq_pure_bind];refine gV (kc h (r4 ?_));have:(xs.toList.map g).toArray=xs.map g:=by
  apply Mh.mp;simp
 rw [this];exact q
theorem mH {a:Addr} {v:h6} {vs:List h6} {o:Obj} {n:Nat} (h1:s.heap.get? a=some o) (h2:o.cls = .type "tuple") (j:o.data = .seq (v::vs).toArray n) {Q:Option h6->hI->Prop} (q:Q (some v) s):Ht (Hy prog w) A (firstOfTuple' (.ref a)) Q E s:=by
 unfold firstOfTuple';have ty:s.TypeIs (.ref a) "tuple" := ⟨_,h1,h2⟩
 wp_walk
 rw [j];refine r4 ?_;refine r4 ?_;exact r4 q
theorem B1 {a:Addr} {o:Obj} {T:h6} (h1:s.heap.get? a=some o) (h2:o.cls=T) {Q:h6->hI->Prop} (q:Q T s):Ht (Hy prog w) A (typeOf (.ref a)) Q E s:=by
 wp_walk
 rw [h2];exact q
theorem vD {n:Nat} {x y:h6} {d e:IU} {as bs:List Addr} (j:Cmpb d e) (rx:LH s.heap x d as) (ry:LH s.heap y e bs) (ld:d.canLay0=true) (le:e.canLay0=true) (hd:d.depth<=n) (z:A.units+n+1 < K1) {Q:Bool->hI->Prop} (q:Q (ltK (toK d) (toK e)) s):Ht (Hy prog w) A (oneLt' false x y) Q E s:=by
 rw [oneLt'_eq];exact gV (Eb n prog w A s x y d e as bs E _ hd j rx ry ld le z (trd q))
theorem mJ {n:Nat} {b:Bool} {x y:h6} {xs ys:List IU} {as bs:List Addr} (hb:b=true -> ∀ d e,xs.head? = some d->ys.head? = some e->(∃ i,d = .int i) /\ ∃ i,e = .int i)
 (F:Cmpb (.tuple xs) (.tuple ys)) (rx:LH s.heap x (.tuple xs) as) (ry:LH s.heap y (.tuple ys) bs) (lx:J2 xs=true) (ly:J2 ys=true) (hd:JK xs<=n) (hu:A.units+n+1 < K1) {Q:Bool->hI->Prop} (q:Q (ltK (toK (.tuple xs)) (toK (.tuple ys))) s) :
 Ht (Hy prog w) A (keyLt' (tuples' b) x y) Q E s:=by
 cases rx with
 | tuple h1 h2 h3 G =>
   cases ry with
   | tuple g1 g2 g3 J =>
     refine gV (Q1 h1 h3 ?_);refine gV (Q1 g1 g3 ?_);refine gV (fW (j8 (n:=n) (g:=id) (pr:=Prod.fst) (List.zipIdx_map_fst _ _) G J F lx ly hd ?_ ?_))
     ·rintro ⟨⟨x,y⟩,i⟩ x' y' d e as bs R hz hp rx ry F ld le hd r
      cases hp
      dsimp only;refine gV (Qj d e _ _ _ _ _ _ rx ry ld le (by lia) prog w E _ ?_)
      by_cases B:Im d e=true
      ·rw [if_pos B] at r;rw [B];exact r4 r
      ·rw [if_neg B] at r;have B:Im d e=false:=by simpa using B
       rw [B];refine gV ?_
       by_cases z:(b&&i==0)=true
       ·rw [z];simp only [hH,beq_iff_eq] at z;obtain ⟨rfl,rfl⟩:=z;have j:=List.mem_zipIdx_iff_getElem?.mp hz;obtain ⟨L,O,t1,U,e1,e2⟩:∃ (L O:Int) (t1 U:Tok),x = .int L t1/\y = .int O U:=by
         generalize hV:NV _=vl at G j;generalize hU:NV _=ul at J j
         cases G with
         | nil=>simp at j
         | cons p1 p2 =>
           cases J with
           | nil=>simp at j
           | cons q1 q2 =>
             simp at j;obtain ⟨⟨L,ei⟩,⟨O,ej⟩⟩:=hb rfl _ _ rfl rfl;subst ei ej
             cases p1;cases q1
             exact ⟨_,_,_,_,j.1.symm,j.2.symm⟩
        subst e1 e2
        cases rx;cases ry
        refine oneLt_int ?_;rw [<- iu];exact r4 r
       ·have z:(b&&i==0)=false:=by simpa using z
        rw [z];exact vD F rx ry ld le hd hu (r4 r)
     ·have e1:=j7 F
      cases e2:cI xs ys with
      | some b =>
        rw [e2] at e1;dsimp only at e1;rw [e1] at q;exact r4 q
      | none =>
        rw [e2] at e1;dsimp only at e1;rw [e1] at q;have Y:=cw G;have Z:=cw J;refine r4 ?_;simp only [HN] at Y Z;rw [Y,Z];exact q
end
end Srt
end L2
namespace L2
namespace Srt
open PySem PySem.Spec PyProof.Rows
structure oU (n:Nat) (ds:List IU):Prop where
 cmp:∀ d∈ds, ∀ e∈ds,Cmpb d e
 lay:∀ d∈ds,d.canLay0=true/\d.depth<=n
 kind:(∀ d∈ds, ∃ i,d = .int i)∨(∀ d∈ds, ∃ i xs,d = .tuple (.int i::xs))∨(∀ d∈ds, ∃ ys xs,d = .tuple (.tuple ys::xs))
noncomputable def cU (h:Heap):h6->Option h6
 | .ref a=>(h.get? a).bind fun o=>match o.data with | .seq xs _=>xs[0]? | _=>none
 | _=>none
section
variable {prog:HK} {w:Ie} {A:Io} {E:h6->hI->Prop} {s:hI}
noncomputable def dR (h:Heap) (x:Hk):Ky:=toK (Js h x.1)
def RdL (h:Heap) (vs:List h6) (ds:List IU):Prop := ∀ v∈vs, ∃ d∈ds, ∃ as,LH h v d as
theorem gK {arr:Array h6} {T:String} (h0 : 0 < arr.size) (h:∀ v∈arr.toList, ∀ R:h6->hI->Prop,R (.type T) s->Ht (Hy prog w) A (typeOf v) R E s) {Q:Option h6->hI->Prop} (q:Q (some (.type T)) s):Ht (Hy prog w) A (oneTypeOnly' arr) Q E s:=by
 rw [oneTypeOnly'_eq];refine gV (eT (g:=fun _=>IZ T) h ?_);have e:(Mj (fun _=>IZ T) arr)[0]? = some (IZ T):=by
  rw [Array.getElem?_map,HY h0];rfl
 rw [e];dsimp only;have e2:((Mj (fun _=>IZ T) arr).all fun x=>x==IZ T)=true:=by
  rw [Q2];intro i hi;simp
 rw [e2];exact r4 q
theorem t5 {n:Nat} {kd:Lh} {vs:List h6} {ds:List IU} (j:RdL s.heap vs ds) (hs:oU n ds)
 (h:∀ (x y:h6) (d e:IU) (as bs:List Addr) (E:h6->hI->Prop) (Q:Bool->hI->Prop),d∈ds->e∈ds->LH s.heap x d as->LH s.heap y e bs->Q (ltK (toK d) (toK e)) s->Ht (Hy prog w) A (keyLt' kd x y) Q E s) :
 Cm prog w A s kd (fun x=>x.1∈vs) (fun x y=>ltK (dR s.heap x) (dR s.heap y)) where
 asym:=fun x y=>yz _ _
 neg:=fun x y z=>B0 _ _ _
 run:=fun x y E Q hx B q=>by
  obtain ⟨d,hd,as,ra⟩:=j _ hx;obtain ⟨e,he,bs,rb⟩:=j _ B;have e1:=K8 (hs.lay d hd).1 ra;have e2:=K8 (hs.lay e he).1 rb;unfold dR at q;rw [e1,e2] at q;exact h _ _ d e as bs E Q hd he ra rb q
theorem oV {h:Heap} {vs:List h6} (j:∀ v∈vs, ∃ u,cU h v=some u):((vs.toArray.map (cU h)).all fun x=>x.isSome)=true:=by
 rw [Q2];intro i hi;simp at hi;obtain ⟨u,q⟩:=j vs[i] (Mg hi);simp [q]
theorem vE {h:Heap} {vs:List h6} {x:h6} (hx:x∈(QN id (vs.toArray.map (cU h))).toList):∃ v∈vs,cU h v=some x:=by
 simp at hx;exact hx
theorem vF {h:Heap} {v:h6} {vs:List h6} {u:h6} (j:cU h v=some u) : 0 < (QN id ((v::vs).toArray.map (cU h))).size:=by
 rw [<- HN];simp [j]
theorem mK {h:Heap} {v:h6} {d:IU} {xs:List IU} {as:List Addr} (r:LH h v (.tuple (d::xs)) as):∃ a o u us n bs,v = .ref a/\h.get? a=some o/\o.cls = .type "tuple" /\ o.data = .seq (u::us).toArray n/\LH h u d bs:=by
 cases r with
 | @tuple a o vs n xs as h1 h2 j h4 =>
  generalize q:vs.toList=vl at h4
  cases h4 with
  | @cons u us _ _ bs _ z p2=>exact ⟨_,_,u,us,n,bs,rfl,h1,h2,by rw [j];congr 1;apply Mh.mp;simpa using q,z⟩
theorem Ec {n:Nat} {v:h6} {vs:List h6} {ds:List IU} (U:RdL s.heap (v::vs) ds) (hs:oU n ds) (z:A.units+n+1 < K1) :
 ∃ kd,(∀ (E:h6->hI->Prop) (Q:Lh->hI->Prop),Q kd s->Ht (Hy prog w) A (keyKind' (v::vs).toArray) Q E s)/\Cm prog w A s kd (fun x=>x.1∈v::vs) (fun x y=>ltK (dR s.heap x) (dR s.heap y)):=by
 rcases hs.kind with G | G | G
 ·refine ⟨oneType',fun E Q q => ?_,t5 U hs fun x y d e as bs E Q hd he ra rb q => ?_⟩
  ·have hint:∀ u∈v::vs, ∃ i t,u = .int i t:=fun u z=>by
    obtain ⟨d,hd,as,ra⟩:=U u z;obtain ⟨i,rfl⟩:=G d hd
    cases ra
    exact ⟨_,_,rfl⟩
   rw [QC];refine gV (eT (g:=fun _=>(none:Option h6)) (fun u z R r => ?_) ?_)
   ·obtain ⟨i,t,rfl⟩:=hint u (by simpa using z)
    rw [firstOfTuple'_int];exact r4 r
   ·have e1:((Mj (fun _=>(none:Option h6)) (v::vs).toArray).all fun x=>x.isSome)=false:=by
     simp
    rw [e1];have e2:((Mj (fun _=>(none:Option h6)) (v::vs).toArray)[0]?.bind id).isSome=false:=by simp
    simp only [e2,IT,if_false];refine gV (gK (T := "int") (by simp) (fun u z R r => ?_) ?_)
    ·obtain ⟨i,t,rfl⟩:=hint u (by simpa using z)
     exact r4 r
    ·exact r4 q
  ·obtain ⟨i,rfl⟩:=G d hd;obtain ⟨j,rfl⟩:=G e he
   cases ra;cases rb
   rw [keyLt'_oneType];exact oneLt_int (by rw [<- iu];exact q)
 ·refine ⟨tuples' true,fun E Q q => ?_,t5 U hs fun x y d e as bs E Q hd he ra rb q => ?_⟩
  ·have hf:∀ u∈v::vs, ∃ a o i t us n,u = .ref a/\s.heap.get? a=some o/\o.cls = .type "tuple" /\ o.data = .seq (.int i t::us).toArray n:=fun u z=>by
    obtain ⟨d,hd,as,ra⟩:=U u z;obtain ⟨i,xs,rfl⟩:=G d hd;obtain ⟨a,o,Z,us,n,bs,e1,e2,J,F,L⟩:=mK ra
    cases L
    exact ⟨a,o,_,_,us,n,e1,e2,J,F⟩
   have B:∀ u∈v::vs, ∃ i t,cU s.heap u=some (.int i t):=fun u z=>by
    obtain ⟨a,o,i,t,us,n,rfl,e2,J,F⟩:=hf u z;exact ⟨i,t,by simp [cU,e2,F]⟩
   rw [QC];refine gV (eT (g:=cU s.heap) (fun u z R r => ?_) ?_)
   ·obtain ⟨a,o,i,t,us,n,rfl,e2,J,F⟩:=hf u (by simpa using z)
    refine mH e2 J F ?_;simpa [cU,e2,F] using r
   ·rw [oV (fun u z=>let ⟨i,t,e⟩:=B u z; ⟨_,e⟩)];refine gV (Jq ?_);obtain ⟨i0,t0,e0⟩:=B v (by simp)
    refine gV (gK (T := "int") (vF e0) (fun u z R r => ?_) ?_)
    ·obtain ⟨u',O,e⟩:=vE z;obtain ⟨i,t,e'⟩:=B u' O;rw [e'] at e;cases e;exact r4 r
    ·exact r4 q
  ·obtain ⟨i,xs,rfl⟩:=G d hd;obtain ⟨j,ys,rfl⟩:=G e he;have l1:=hs.lay _ hd;have l2:=hs.lay _ he;refine mJ (n:=n) (fun _ d e hd he => ?_) (hs.cmp _ hd _ he) ra rb (by simpa [LM] using l1.1) (by simpa [LM] using l2.1) (by have:=l1.2;simp [KL] at this;lia) z q
   simp at hd he;subst hd he;exact ⟨⟨_,rfl⟩,_,rfl⟩
 ·refine ⟨tuples' false,fun E Q q => ?_,t5 U hs fun x y d e as bs E Q hd he ra rb q => ?_⟩
  ·have hf:∀ u∈v::vs, ∃ a o b ob us n,u = .ref a/\s.heap.get? a=some o/\o.cls = .type "tuple" /\ o.data = .seq (.ref b::us).toArray n/\s.heap.get? b=some ob/\ob.cls = .type "tuple" := fun u z=>by
    obtain ⟨d,hd,as,ra⟩:=U u z;obtain ⟨ys,xs,rfl⟩:=G d hd;obtain ⟨a,o,Z,us,n,bs,e1,e2,J,F,L⟩:=mK ra
    cases L with
    | tuple h1 h2 h3 h4=>exact ⟨a,o,_,_,us,n,e1,e2,J,F,h1,h2⟩
   have B:∀ u∈v::vs, ∃ b ob,cU s.heap u=some (.ref b)/\s.heap.get? b=some ob/\ob.cls = .type "tuple" := fun u z=>by
    obtain ⟨a,o,b,ob,us,n,rfl,e2,J,F,L,Y⟩:=hf u z;exact ⟨b,ob,by simp [cU,e2,F],L,Y⟩
   rw [QC];refine gV (eT (g:=cU s.heap) (fun u z R r => ?_) ?_)
   ·obtain ⟨a,o,b,ob,us,n,rfl,e2,J,F,L,Y⟩:=hf u (by simpa using z)
    refine mH e2 J F ?_;simpa [cU,e2,F] using r
   ·rw [oV (fun u z=>let ⟨i,t,e,_⟩:=B u z; ⟨_,e⟩)];refine gV (Jq ?_);obtain ⟨i0,t0,e0,_⟩:=B v (by simp)
    refine gV (gK (T := "tuple") (vF e0) (fun u z R r => ?_) ?_)
    ·obtain ⟨u',O,e⟩:=vE z;obtain ⟨b,ob,e',L,Y⟩:=B u' O;rw [e'] at e;cases e;exact B1 L Y r
    ·exact r4 q
  ·obtain ⟨zs,xs,rfl⟩:=G d hd;obtain ⟨zs',ys,rfl⟩:=G e he;have l1:=hs.lay _ hd;have l2:=hs.lay _ he;exact mJ (n:=n) (fun h=>by cases h) (hs.cmp _ hd _ he) ra rb (by simpa [LM] using l1.1) (by simpa [LM] using l2.1) (by have:=l1.2;simp [KL] at this;lia) z q
end
end Srt
end L2
namespace L2
namespace Srt
open PySem PySem.Spec PyProof.Rows
inductive Pl:IU->Prop where
 | int (i:Int):Pl (.int i)
 | tup (xs:List IU):(∀ x∈xs,Pl x)->Pl (.tuple xs)
theorem bO {h h':Heap} (k:∀ b o,h.get? b=some o->o.cls = .type "tuple" -> h'.get? b=some o) {d:IU} (p:Pl d):∀ {v:h6} {as:List Addr},LH h v d as->LH h' v d as:=by
 induction p with
 | int i=>intro v as r;cases r;exact .int _ _
 | tup xs hx ih =>
   intro v as r
   cases r with
   | tuple h1 h2 q z =>
     refine .tuple (k _ _ h1 h2) h2 q ?_;have g:∀ (xs:List IU),(∀ x∈xs, ∀ {v:h6} {as:List Addr},LH h v x as->LH h' v x as) -> ∀ (vs:List h6) (as:List Addr),OG h vs xs as->OG h' vs xs as:=by
      intro xs
      induction xs with
      | nil=>intro _ vs as r;cases r;exact .nil
      | cons x xs ihx =>
        intro j vs as r
        cases r with
        | cons B p2=>exact .cons (j x (by simp) B) (ihx (fun y F=>j y (by simp [F])) _ _ p2)
     exact g xs ih _ _ z
section
variable {prog:HK} {w:Ie} {A:Io} {E:h6->hI->Prop} {s:hI}
theorem B2 {cap:Nat} (S:iq cap) {m:Nat} {a:Addr} {vs:List h6} {n:Nat} {ds:List IU} (ha:s.heap.get? a=some (Qk "list" vs.toArray n)) (Z:RdL s.heap vs ds) (hs:oU m ds) (hp:∀ d∈ds,Pl d) (hl:vs.length<=Hj) (F9:vs.length<=cap) (hu:A.units+m+1 < K1) {Q:PySem.Fin->hI->Prop}
 (q:∀ (h':Heap) (out:List h6) (n':Nat),(∀ b o,b≠a->s.heap.get? b=some o->h'.get? b=some o)->h'.get? a=some (Qk "list" out.toArray n')->out.Perm vs->out.Pairwise (fun x y=>ltK (toK (Js s.heap y)) (toK (Js s.heap x))=false)->Q (.done (.ret .none)) { s with heap:=h' }) :
 Ht (Hy prog w) A (JZ.«list.sort» ⟨[.ref a],[]⟩) Q E s:=by
 rw [list_sort_plain];refine gV (Q1 ha rfl ?_);refine gV (Mm ha rfl ?_ (by simpa using hl) (by simp))
 have g1:=Ll ha (fun _ => #[]);generalize Fa:s.heap.update a (KG fun _ => #[])=h1 at g1;generalize (if ((#[]:Array h6).size==vs.toArray.size)=true then n else n+1)=n1 at g1
 refine gV (QE g1 rfl ?_);refine gV (OB ?_ (by simpa using hl))
 refine gV (Nx ?_ (by simp))
 refine I8 ?_;dsimp only;generalize O:({ heap:=(h1.push { cls:=IZ "tuple",data:=Mp vs.toArray.toList.toArray }).push { cls:=IZ "list",data:=Mp [].toArray },gens:=s.gens,drawn:=s.drawn,toks:=s.toks,os:=s.os }:hI)=s3;have g3:s3.heap.get? a=some (Qk "list" #[] n1):=by
  rw [<- O];exact h7 _ (h7 _ g1)
 have keep:∀ b o,b≠a->s.heap.get? b=some o->s3.heap.get? b=some o:=fun b o G J=>by
  rw [<- O, <- Fa];exact h7 _ (h7 _ (by rw [Ju _ _ _ _ G];exact J))
 have keepT:∀ b o,s.heap.get? b=some o->o.cls = .type "tuple" -> s3.heap.get? b=some o:=fun b o G hc=>keep b o (fun z=>by
  rw [z,ha] at G;cases G;simp at hc) G
 have Fb:RdL s3.heap vs ds:=fun v hv=>by
  obtain ⟨d,hd,as,r⟩:=Z v hv;exact ⟨d,hd,as,bO keepT (hp d hd) r⟩
 have same:∀ v∈vs,Js s3.heap v=Js s.heap v:=fun v hv=>by
  obtain ⟨d,hd,as,r⟩:=Z v hv;rw [K8 (hs.lay d hd).1 r,K8 (hs.lay d hd).1 (bO keepT (hp d hd) r)]
 have q:∀ (h':Heap) (out:List h6) (n':Nat),(∀ b o,b≠a->s.heap.get? b=some o->h'.get? b=some o)->h'.get? a=some (Qk "list" out.toArray n')->out.Perm vs->out.Pairwise (fun x y=>ltK (toK (Js s.heap y)) (toK (Js s.heap x))=false)->Q (.done (.ret .none)) { s3 with heap:=h' }:=by
  rw [<- O];exact q
 have Fc:∀ A':Io,A'.units=A.units->True:=fun _ _=>trivial;clear O
 let Good:IC->Prop:=fun st'=>JM st'=none/\(Ib st').toList.Perm (vs.zip vs)/\(Ib st').toList.Pairwise (fun x y=>ltK (dR s3.heap y) (dR s3.heap x)=false)
 by_cases F:vs.toArray.size < 2
 ·rw [if_pos F,if_pos F];refine gV (r4 ?_);have B:vs.length < 2:=by simpa using F
  have run:Ht (Hy prog w) A ((pure ():StateT IC Sem Unit).run (LZ general' (vs.toArray.zip vs.toArray) #[] 7 none)) (fun r s'=>s'=s3/\Good r.2) E s3:=by
   refine r4 ⟨rfl,rfl, ?_, ?_⟩
   ·show (vs.toArray.zip vs.toArray).toList.Perm _;simp
   ·show List.Pairwise _ (vs.toArray.zip vs.toArray).toList
    match vs,B with
    | [],_=>simp
    | [x],_=>simp
  refine gV (Jy (Q:=fun r s'=>s'=s3/\Good r.2) run (fun r s' Z => ?_) (fun _ _ z=>z));obtain ⟨rfl,L,j,U⟩:=Z;obtain ⟨u,st'⟩:=r;refine gV (QE g3 rfl ?_);refine gV (Mm g3 rfl ?_ (by simp) (by simp only [Array.size_map];have:=j.length_eq;simp at this;rw [this];lia))
  dsimp only at L;rw [L];simp only [bne_self_eq_false,IT,if_false];refine r4 ?_;have gq:=Ll g3 (fun _=>Mj (fun x=>x.snd) (Ib st'));have eo:Mj (fun x=>x.snd) (Ib st')=((Ib st').toList.map fun x=>x.snd).toArray:=by apply Mh.mp;simp
  refine q _ ((Ib st').toList.map fun x=>x.snd) _ (fun b o G J => ?_) (by rw [gq,eo]) ?_ ?_
  ·rw [Ju _ _ _ _ G];exact keep b o G J
  ·have h8:=j.map (fun x:Hk=>x.snd);rw [Ql (by simp)] at h8
   exact h8
  ·rw [Jd];refine U.imp_of_mem fun {x y} hx hy hxy => ?_;have mx:=MQ (j.mem_iff.mp hx);have my:=MQ (j.mem_iff.mp hy);unfold dR at hxy;rw [mx.1,my.1,same y.2 (by rw [<- my.1];exact my.2),same x.2 (by rw [<- mx.1];exact mx.2)] at hxy
   exact hxy
 ·rw [if_neg F,if_neg F];have B : 2<=vs.length:=by simpa using F
  obtain ⟨v0,Y,F5⟩:∃ v0 Y,vs=v0::Y:=by
   match vs,B with
   | v::t,_=>exact ⟨v,t,rfl⟩
  obtain ⟨kd,F6,F7⟩:=Ec (prog:=prog) (w:=w) (A:=A) (v:=v0) (vs:=Y) (by rw [<- F5];exact Fb) hs hu
  rw [<- F5] at F6 F7;refine gV (F6 E _ ?_);have run:Ht (Hy prog w) A (sortRuns'.run (LZ kd (vs.toArray.zip vs.toArray) #[] 7 none)) (fun r s'=>s'=s3/\Good r.2) E s3:=by
   have ez:(Ib (LZ kd (vs.toArray.zip vs.toArray) #[] 7 none)).toList=vs.zip vs:=by
    show (vs.toArray.zip vs.toArray).toList=_;simp
   have h9:wpS (Hy prog w) A E s3 sortRuns' (fun _ st'=>Good st') (LZ kd (vs.toArray.zip vs.toArray) #[] 7 none):=by
    have F8:(Ib (LZ kd (vs.toArray.zip vs.toArray) #[] 7 none)).size=vs.length:=by rw [<- HN,ez];simp
    refine S _ _ _ _ _ _ _ _ F7 (LZ kd (vs.toArray.zip vs.toArray) #[] 7 none) _ rfl rfl rfl (fun x hx => ?_) (by rw [F8];exact B) (by rw [F8];exact F9) fun st' p1 p2 p3=>⟨p3,by rw [ez] at p1;exact p1,p2⟩
    rw [ez] at hx;exact (MQ hx).2
   exact h9
  refine gV (Jy (Q:=fun r s'=>s'=s3/\Good r.2) run (fun r s' Z => ?_) (fun _ _ z=>z));obtain ⟨rfl,L,j,U⟩:=Z;obtain ⟨u,st'⟩:=r;refine gV (QE g3 rfl ?_);refine gV (Mm g3 rfl ?_ (by simp) (by simp only [Array.size_map];have:=j.length_eq;simp at this;rw [this];lia))
  dsimp only at L;rw [L];simp only [bne_self_eq_false,IT,if_false];refine r4 ?_;have gq:=Ll g3 (fun _=>Mj (fun x=>x.snd) (Ib st'));have eo:Mj (fun x=>x.snd) (Ib st')=((Ib st').toList.map fun x=>x.snd).toArray:=by apply Mh.mp;simp
  refine q _ ((Ib st').toList.map fun x=>x.snd) _ (fun b o G J => ?_) (by rw [gq,eo]) ?_ ?_
  ·rw [Ju _ _ _ _ G];exact keep b o G J
  ·have h8:=j.map (fun x:Hk=>x.snd);rw [Ql (by simp)] at h8
   exact h8
  ·rw [Jd];refine U.imp_of_mem fun {x y} hx hy hxy => ?_;have mx:=MQ (j.mem_iff.mp hx);have my:=MQ (j.mem_iff.mp hy);unfold dR at hxy;rw [mx.1,my.1,same y.2 (by rw [<- my.1];exact my.2),same x.2 (by rw [<- mx.1];exact mx.2)] at hxy
   exact hxy
theorem t6 (u:h6):checkBuiltinCall "sorted" ⟨[u],[]⟩=pure ():=by kernel_rfl
theorem vG {cap:Nat} (S:iq cap) {m:Nat} {u:h6} {ds:List IU} {C:Heap->List h6->Prop} {Q:h6->hI->Prop} (hu:A.units+m+3 < K1) (hs:oU m ds) (F:∀ d∈ds,Pl d)
 (G:∀ (E:h6->hI->Prop) (R:List h6->hI->Prop),(∀ (h':Heap) (vs':List h6) (t':Nat),C h' vs'->RdL h' vs' ds->vs'.length<=Hj/\vs'.length<=cap->s.toks<=t'->R vs' { s with heap:=h',toks:=t' })->Ht (Hy prog w) A.in1 (collect u) R E s)
 (q:∀ (h1 h2:Heap) (vs out:List h6) (n' t':Nat),C h1 vs->(∀ b o,h1.get? b=some o->h2.get? b=some o)->h2.get? h1.objs.size=some (Qk "list" out.toArray n')->out.Perm vs->out.Pairwise (fun x y=>ltK (toK (Js h2 y)) (toK (Js h2 x))=false)->RdL h2 out ds->vs.length<=Hj->s.toks<=t'->Q (.ref h1.objs.size) { s with heap:=h2,toks:=t' }) :
 Ht (Hy prog w) A (call (.builtin "sorted") [u]) Q E s:=by
 refine wpAny_call (codeAny_call_builtin plain_sorted entry_sorted (Kv (t6 u) ?_));unfold Builtin.sorted;refine gV (Kv (a:=()) (by kernel_rfl) ?_)
 refine gV (G _ _ fun h1 vs t' hC L J ht => ?_);obtain ⟨J,O⟩:=J;refine gV (Nx ?_ J);refine gV (I8 ?_);have U:RdL (h1.push { cls:=IZ "list",data:=Mp vs.toArray }) vs ds:=fun v B=>by
  obtain ⟨d,hd,as,r⟩:=L v B;exact ⟨d,hd,as,bO (fun b o z _=>h7 _ z) (F d hd) r⟩
 have ha:(h1.push { cls:=IZ "list",data:=Mp vs.toArray }).get? h1.objs.size=some (Qk "list" vs.toArray 0):=Hm _ rfl;refine Iq slot_list_sort (T := "list") ⟨_,ha,rfl⟩ entry_list_sort ?_ (args_list_sort _);refine B2 S (m:=m) ha U hs F J O (by show A.units+1+1+m+1 < K1;lia) fun h2 out n' keep g2 j Y=>⟨_,rfl,r4 ?_⟩
 have old:∀ b o,h1.get? b=some o->h2.get? b=some o:=fun b o z=>keep b o (HV (Hq z)) (h7 _ z);have Z:RdL h2 vs ds:=fun v B=>by
  obtain ⟨d,hd,as,r⟩:=L v B;exact ⟨d,hd,as,bO (fun b o z _=>old b o z) (F d hd) r⟩
 refine q h1 h2 vs out n' t' hC old g2 j ?_ (fun v B=>Z v (j.mem_iff.mp B)) J ht;have same:∀ v∈vs,Js (h1.push { cls:=IZ "list",data:=Mp vs.toArray }) v=Js h2 v:=fun v B=>by
  obtain ⟨d,hd,as,r⟩:=L v B;rw [K8 (hs.lay d hd).1 (bO (fun b o z _=>old b o z) (F d hd) r),K8 (hs.lay d hd).1 (bO (fun b o z _=>h7 _ z) (F d hd) r)]
 refine Y.imp_of_mem fun {x y} hx hy hxy => ?_;rw [same y (j.mem_iff.mp hy),same x (j.mem_iff.mp hx)] at hxy;exact hxy
end
end Srt
end L2
namespace L2
namespace It
open PySem PySem.Spec PyProof.Rows
end It
end L2
namespace L2
namespace It
open PySem PySem.Spec PyProof.Rows
end It
end L2
namespace L2
namespace It
open PySem PySem.Spec PyProof.Rows
end It
end L2
namespace L2
open PySem PySem.Spec PyProof.Rows
section
section
variable {P:HK} {w:Ie} {H:Hp} {h:Heap} {a:Addr} {o:HO}
theorem ObjOk.there (x:ObjOk P w H h a o):∃ ob,h.get? a=some ob:=by
 cases o with
 | lst xs=>obtain ⟨_,_,_,_,e⟩:=x;exact ⟨_,e⟩
 | tup xs=>obtain ⟨_,_,_,_,e,_⟩:=x;exact ⟨_,e⟩
 | dK kvs=>obtain ⟨_,_,_,_,o,_,_,e,_⟩:=x;exact ⟨_,e⟩
 | dT kvs=>obtain ⟨_,_,_,_,o,_,_,e,_⟩:=x;exact ⟨_,e⟩
 | set S n=>obtain ⟨o,_,_,_,e,_⟩:=x;exact ⟨_,e⟩
 | ins C dx fs=>obtain ⟨_,_,_,e,_⟩:=x;exact ⟨_,e⟩
 | own y=>obtain ⟨_,e⟩:=x;exact ⟨_,e⟩
 | xd fs=>obtain ⟨_,⟨_,_,_,e,_⟩,_⟩:=x;exact ⟨_,e⟩
 | rng lo hi=>obtain ⟨_,_,_,e⟩:=x;exact ⟨_,e⟩
 | frz ob u=>obtain ⟨e,_⟩:=x;exact ⟨_,e⟩
 | tbl ps=>exact ⟨_,show h.get? a=some _ from x⟩
 | met f y=>exact ⟨_,show h.get? a=some _ from x⟩
 | ext φ => obtain ⟨_,⟨_,e⟩,_⟩:=x;exact ⟨_,e⟩
end
noncomputable def lay (H:Hp) (N:Addr->Option HO):Hp:=fun b=>match N b with | some o=>some o | none=>H b
section
variable {X:Cx} {pins:List (Addr×Obj)} {σ:List (Option V)} {H:Hp} {s:hI} {h':Heap} {N:Addr->Option HO}
theorem B3 {b:Addr} {o:HO} (e:N b=some o):lay H N b=some o:=by unfold lay;rw [e]
theorem kZ {b:Addr} (e:N b=none):lay H N b=H b:=by unfold lay;rw [e]
theorem Inv.fresh' (I:Inv X pins σ H s) {b:Addr} (e:s.heap.get? b=none):H b=none:=by
 cases q:H b with
 | none=>rfl
 | some o=>obtain ⟨ob,eo⟩:=(I.hok b o q).there;rw [e] at eo;cases eo
theorem Inv.laidN {t':Nat} (I:Inv X pins σ H s) (k:∀ b u,s.heap.get? b=some u->h'.get? b=some u) (j:∀ b o,N b=some o->s.heap.get? b=none) (new:∀ b o,N b=some o->ObjOk X.prog X.w (lay H N) h' b o):Inv X pins σ (lay H N) { s with heap:=h',toks:=t' }:=by
 have old:∀ b u,s.heap.get? b=some u->N b=none:=fun b u e=>by
  cases q:N b with
  | none=>rfl
  | some o=>rw [j b o q] at e;cases e
 have oldH:∀ b o,H b=some o->lay H N b=some o:=fun b o e=>by
  obtain ⟨ob,eo⟩:=(I.hok b o e).there;rw [kZ (old b ob eo)];exact e
 refine I.un ⟨fun b u q _ _ _=>k b u q,fun b u q _ _ _=>⟨u.slots,k b u q⟩,fun b u q n _=>by rw [kZ (old b u q)];exact n,fun b u q _=>⟨u,k b u q⟩,fun b xs q=>oldH b _ q,fun b u xs q=>oldH b _ q,fun b ps q=>⟨#[],by rw [oldH b _ q];simp⟩⟩ fun b o e => ?_
 cases q:N b with
 | some o'=>rw [B3 q] at e;cases e;exact new b o q
 | none =>
   rw [kZ q] at e;exact (I.hok b o e).stay (fun c v _ q=>k c v q) (fun c q=>oldH c _ q) fun c xs q=>oldH c _ q
end
namespace Mi
open L2.Srt
inductive Sh where
 | int
 | tup (l:List Sh)
mutual
noncomputable def hs:Sh->D->Bool
 | .int, .int _=>true
 | .tup l, .tup ds=>hss l ds
 | _,_=>false
noncomputable def hss:List Sh->List D->Bool
 | [],[] => true
 | s::l,d::ds=>hs s d&&hss l ds
 | _,_=>false
end
mutual
noncomputable def pd:D->IU
 | .int i => .int i
 | .tup ds => .tuple (pds ds)
 | _ => .none
noncomputable def pds:List D->List IU
 | [] => []
 | d::ds=>pd d::pds ds
end
mutual
noncomputable def dep:Sh->Nat
 | .int => 0
 | .tup l=>deps l+1
noncomputable def deps:List Sh->Nat
 | [] => 0
 | s::l=>max (dep s) (deps l)
end
noncomputable def j9:Sh->Bool
 | .int=>true
 | .tup (.int::l)=>decide (deps l<=6)
 | .tup (.tup a::l)=>decide (deps (.tup a::l)<=6)
 | .tup [] => false
noncomputable def kyD (d:D):Ky:=toK (pd d)
mutual
theorem vH:∀ (s:Sh) (x y:D),hs s x=true->hs s y=true->Cmpb (pd x) (pd y)
 | .int, .int a, .int b,_,_=>by simp only [pd];exact .int a b
 | .tup l, .tup a, .tup b,h,g=>by simp only [hs] at h g;simp only [pd];exact hss_cmp l a b h g
 | .int, .int _, .non,_,g=>by simp [hs] at g
 | .int, .int _, .bl _,_,g=>by simp [hs] at g
 | .int, .int _, .str _,_,g=>by simp [hs] at g
 | .int, .int _, .tup _,_,g=>by simp [hs] at g
 | .int, .int _, .con _,_,g=>by simp [hs] at g
 | .int, .int _, .ref _,_,g=>by simp [hs] at g
 | .int, .non,_,h,_=>by simp [hs] at h
 | .int, .bl _,_,h,_=>by simp [hs] at h
 | .int, .str _,_,h,_=>by simp [hs] at h
 | .int, .tup _,_,h,_=>by simp [hs] at h
 | .int, .con _,_,h,_=>by simp [hs] at h
 | .int, .ref _,_,h,_=>by simp [hs] at h
 | .tup _, .non,_,h,_=>by simp [hs] at h
 | .tup _, .bl _,_,h,_=>by simp [hs] at h
 | .tup _, .int _,_,h,_=>by simp [hs] at h
 | .tup _, .str _,_,h,_=>by simp [hs] at h
 | .tup _, .con _,_,h,_=>by simp [hs] at h
 | .tup _, .ref _,_,h,_=>by simp [hs] at h
 | .tup _, .tup _, .non,_,g=>by simp [hs] at g
 | .tup _, .tup _, .bl _,_,g=>by simp [hs] at g
 | .tup _, .tup _, .int _,_,g=>by simp [hs] at g
 | .tup _, .tup _, .str _,_,g=>by simp [hs] at g
 | .tup _, .tup _, .con _,_,g=>by simp [hs] at g
 | .tup _, .tup _, .ref _,_,g=>by simp [hs] at g
theorem hss_cmp:∀ (l:List Sh) (a b:List D),hss l a=true->hss l b=true->Cmpb (.tuple (pds a)) (.tuple (pds b))
 | [],[],[],_,_=>by simp only [pds];exact .nil _
 | [],[],_::_,_,g=>by simp [hss] at g
 | [],_::_,_,h,_=>by simp [hss] at h
 | _::_,[],_,h,_=>by simp [hss] at h
 | _::_,_::_,[],_,g=>by simp [hss] at g
 | s::l,x::a,y::b,h,g=>by
   simp only [hss,hH] at h g;simp only [pds];exact .cons (vH s x y h.1 g.1) (hss_cmp l a b h.2 g.2)
end
mutual
theorem t7:∀ (s:Sh) (x:D),hs s x=true->Pl (pd x)/\(pd x).canLay0=true/\(pd x).depth<=dep s
 | .int, .int a,_=>by simp only [pd];exact ⟨.int a,rfl,by simp [KL]⟩
 | .tup l, .tup a,h=>by
  simp only [hs] at h;obtain ⟨h1,h2,j⟩:=hss_pl l a h;simp only [pd];exact ⟨.tup _ h1,by simpa [LM] using h2,by simp [KL,dep];lia⟩
 | .int, .non,h=>by simp [hs] at h
 | .int, .bl _,h=>by simp [hs] at h
 | .int, .str _,h=>by simp [hs] at h
 | .int, .tup _,h=>by simp [hs] at h
 | .int, .con _,h=>by simp [hs] at h
 | .int, .ref _,h=>by simp [hs] at h
 | .tup _, .non,h=>by simp [hs] at h
 | .tup _, .bl _,h=>by simp [hs] at h
 | .tup _, .int _,h=>by simp [hs] at h
 | .tup _, .str _,h=>by simp [hs] at h
 | .tup _, .con _,h=>by simp [hs] at h
 | .tup _, .ref _,h=>by simp [hs] at h
theorem hss_pl:∀ (l:List Sh) (a:List D),hss l a=true->(∀ x∈pds a,Pl x)/\J2 (pds a)=true/\JK (pds a)<=deps l
 | [],[],_=>by simp [pds,J2,JK]
 | [],_::_,h=>by simp [hss] at h
 | _::_,[],h=>by simp [hss] at h
 | s::l,x::a,h=>by
   simp only [hss,hH] at h;obtain ⟨h1,h2,q⟩:=t7 s x h.1;obtain ⟨g1,g2,g3⟩:=hss_pl l a h.2;simp only [pds];refine ⟨fun y j => ?_,by simp [J2,h2,g2],by simp [JK,deps];lia⟩
   rcases Ho.mp j with z | z
   ·rw [z];exact h1
   ·exact g1 y z
end
mutual
theorem zP (M:Mem):∀ (s:Sh) (x:D) (n:Nat),hs s x=true->dep s<=n->rb n M x=some (pd x)
 | .int, .int a,n,_,_=>by cases n <;> simp [rb,pd]
 | .tup l, .tup a,n,h,j=>by
  simp only [hs] at h;simp only [dep] at j;obtain ⟨k,rfl⟩:∃ k,n=k+1:=⟨n - 1,by lia⟩
  simp only [rb,pd];rw [hss_rb M l a k h (by lia)];rfl
 | .int, .non,_,h,_=>by simp [hs] at h
 | .int, .bl _,_,h,_=>by simp [hs] at h
 | .int, .str _,_,h,_=>by simp [hs] at h
 | .int, .tup _,_,h,_=>by simp [hs] at h
 | .int, .con _,_,h,_=>by simp [hs] at h
 | .int, .ref _,_,h,_=>by simp [hs] at h
 | .tup _, .non,_,h,_=>by simp [hs] at h
 | .tup _, .bl _,_,h,_=>by simp [hs] at h
 | .tup _, .int _,_,h,_=>by simp [hs] at h
 | .tup _, .str _,_,h,_=>by simp [hs] at h
 | .tup _, .con _,_,h,_=>by simp [hs] at h
 | .tup _, .ref _,_,h,_=>by simp [hs] at h
theorem hss_rb (M:Mem):∀ (l:List Sh) (a:List D) (n:Nat),hss l a=true->deps l<=n->aD (rb n M) a=some (pds a)
 | [],[],_,_,_=>by simp [pds,aD]
 | [],_::_,_,h,_=>by simp [hss] at h
 | _::_,[],_,h,_=>by simp [hss] at h
 | s::l,x::a,n,h,j=>by
   simp only [hss,hH] at h;simp only [deps] at j;simp only [pds,aD];rw [zP M s x n h.1 (by lia),hss_rb M l a n h.2 (by lia)];rfl
end
theorem oW {s:Sh} (h:j9 s=true):dep s<=7:=by
 match s,h with
 | .int,_=>simp [dep]
 | .tup (.int::l),h=>simp [j9] at h;simp [dep,deps];lia
 | .tup (.tup a::l),h=>simp only [j9,decide_eq_true_eq] at h;simp only [dep];lia
theorem B4 {s:Sh} (h:j9 s=true) {xs:List D} (hx:∀ x∈xs,hs s x=true):oU 7 (xs.map pd) /\ ∀ d∈xs.map pd,Pl d:=by
 refine ⟨⟨?_, ?_, ?_⟩, ?_⟩
 ·intro d hd e he;obtain ⟨x,h1,rfl⟩:=HF.mp hd;obtain ⟨y,h2,rfl⟩:=HF.mp he;exact vH s x y (hx x h1) (hx y h2)
 ·intro d hd;obtain ⟨x,h1,rfl⟩:=HF.mp hd;obtain ⟨_,g2,g3⟩:=t7 s x (hx x h1);exact ⟨g2,by have:=oW h;lia⟩
 ·match s,h with
  | .int,_ =>
   left
   intro d hd;obtain ⟨x,h1,rfl⟩:=HF.mp hd;have:=hx x h1
   cases x <;> simp [hs] at this
   exact ⟨_,rfl⟩
  | .tup (.int::l),_ =>
   right;left
   intro d hd;obtain ⟨x,h1,rfl⟩:=HF.mp hd;have:=hx x h1
   cases x <;> simp [hs] at this
   rename_i ds
   cases ds with
   | nil=>simp [hss] at this
   | cons y ys =>
     simp [hss] at this
     cases y <;> simp [hs] at this
     exact ⟨_,_,rfl⟩
  | .tup (.tup a::l),_ =>
   right;right
   intro d hd;obtain ⟨x,h1,rfl⟩:=HF.mp hd;have:=hx x h1
   cases x <;> simp [hs] at this
   rename_i ds
   cases ds with
   | nil=>simp [hss] at this
   | cons y ys =>
     simp [hss] at this
     cases y <;> simp [hs] at this
     exact ⟨_,_,rfl⟩
 ·intro d hd;obtain ⟨x,h1,rfl⟩:=HF.mp hd;exact (t7 s x (hx x h1)).1
theorem mL {α β:Type} (f : α -> β):∀ {l m:List β},l.Perm m -> ∀ {t:List α},t.map f=m -> ∃ t':List α,t'.Perm t/\t'.map f=l:=by
 intro l m h
 induction h with
 | nil=>intro t e;exact ⟨[],by rw [List.map_eq_nil_iff.mp e],rfl⟩
 | cons x h ih =>
   intro t e
   cases t with
   | nil=>simp at e
   | cons a t =>
     simp at e;obtain ⟨t',h1,h2⟩:=ih e.2;exact ⟨a::t',h1.cons a,by simp [h2,e.1]⟩
 | swap x y l =>
   intro t e
   match t,e with
   | a::b::t,e =>
     simp at e;exact ⟨b::a::t, .swap _ _ _,by simp [e]⟩
 | trans h1 h2 j q =>
   intro t e;obtain ⟨B,p2,e2⟩:=q e;obtain ⟨t1,z,e1⟩:=j e2;exact ⟨t1,z.trans p2,e1⟩
def lf (ys:List D):Prop:=ys.Pairwise fun a b=>ltK (kyD b) (kyD a)=false
theorem r8 {K:Frag} {H:Hp}:∀ {ds:List D} {vs:List V} {us:List h6},RDs K H ds vs->Vals vs us -> ∃ t:List (D×V×h6),t.map (·.1)=ds/\t.map (·.2.1)=vs/\t.map (·.2.2)=us /\ ∀ p∈t,RD K H p.1 p.2.1/\RelV p.2.1 p.2.2
 | [],vs,us,h,g=>by
  cases RDs.nil_iff.mp h
  cases g
  exact ⟨[],rfl,rfl,rfl,fun _ h=>by simp at h⟩
 | d::ds,vs,us,h,g=>by
   obtain ⟨v,r,rfl,h1,h2⟩:=Rj.mp h
   cases g with
   | cons g1 g2 =>
     rename_i u us;obtain ⟨t,e1,e2,j,q⟩:=r8 h2 g2;exact ⟨(d,v,u)::t,by simp [e1],by simp [e2],by simp [j],fun p B=>by
      rcases Ho.mp B with z | z
      ·rw [z];exact ⟨h1,g1⟩
      ·exact q p z⟩
theorem r9 {K:Frag} {H:Hp}:∀ {t:List (D×V×h6)},(∀ p∈t,RD K H p.1 p.2.1/\RelV p.2.1 p.2.2)->RDs K H (t.map (·.1)) (t.map (·.2.1))/\Vals (t.map (·.2.1)) (t.map (·.2.2))
 | [],_=>⟨RDs.nil, .nil⟩
 | p::t,h=>by
   obtain ⟨h1,h2⟩:=r9 (t:=t) fun q j=>h q (by simp [j])
   exact ⟨RDs.cons (h p (by simp)).1 h1, .cons (h p (by simp)).2 h2⟩
section
variable {X:Cx}
theorem qE {cap:Nat} (S:iq cap) (L:X.A.units+16 < K1) {pins:List (Addr×Obj)} {s:hI} {σ:St} {H:Hp} {Q:VK} (I:Inv X pins σ H s) {M:Mem} (rm:RM X.K M H) {es:List D} {sh:Sh} {vs:List V} {p:Addr} (rvs:RDs X.K H es vs) (hok:j9 sh=true) (O:∀ d∈es,hs sh d=true)
 (q:∀ p ys,M p=none->ys.Perm es->lf ys->KE' X.K M H Q (.ref p) (ag M p (.lst ys))) {its:List h6} (hv:Vals vs its) (hl:vs.length<=Hj) (F7:vs.length<=cap)
 (U:∀ (E:h6->hI->Prop) (R:List h6->hI->Prop),(∀ (h':Heap) (tk:Nat),(∀ b o,s.heap.get? b=some o->h'.get? b=some o)->s.toks<=tk->R its { s with heap:=h',toks:=tk })->Ht (Hy X.prog X.w) X.A.in1 (collect (.ref p)) R E s) :
 Ht (Hy X.prog X.w) X.A (call (.builtin "sorted") [.ref p]) (EP X pins σ Q) X.xe s:=by
 obtain ⟨hS,J⟩:=B4 hok O;have Fa:=oW hok;obtain ⟨t,t1,t2,t3,t4⟩:=r8 rvs hv;have Y:∀ pp∈t, ∃ as,LH s.heap pp.2.2 (pd pp.1) as:=fun pp j=>by
  have hm:pp.1∈es:=by rw [<- t1];exact HS j
  exact cu I rm 16 pp.1 (pd pp.1) pp.2.1 pp.2.2 (zP M sh pp.1 16 (O _ hm) (by lia)) (t4 pp j).1 (t4 pp j).2
 have Z:RdL s.heap its (es.map pd):=fun u L=>by
  rw [<- t3] at L;obtain ⟨pp,j,rfl⟩:=HF.mp L;obtain ⟨as,ra⟩:=Y pp j;exact ⟨pd pp.1,HS (by rw [<- t1];exact HS j),as,ra⟩
 refine vG S (m := 7) (ds:=es.map pd) (C:=fun h' vs'=>vs'=its /\ ∀ b o,s.heap.get? b=some o->h'.get? b=some o) (by lia) hS J (fun E R hR => ?_) fun h1 h2 vs' out n' tk hC old g2 F F5 Fb Fc ht => ?_
 ·refine U E R fun h' tk kp F8=>hR h' its tk ⟨rfl,kp⟩ (fun u L => ?_) ⟨by rw [<- hv.length];exact hl,by rw [<- hv.length];exact F7⟩ F8
  obtain ⟨d,hd,as,ra⟩:=Z u L;exact ⟨d,hd,as,bO (fun b o e _=>kp b o e) (J d hd) ra⟩
 ·obtain ⟨rfl,kp⟩:=hC;rw [<- t3] at F;obtain ⟨t',p1,p2⟩:=mL (fun pp:D×V×h6=>pp.2.2) F rfl;have hz:=r9 (t:=t') fun pp j=>t4 pp (p1.mem_iff.mp j);have F6:∀ b o,s.heap.get? b=some o->h2.get? b=some o:=fun b o e=>old b o (kp b o e);have z:s.heap.get? h1.objs.size=none:=by
   cases hq:s.heap.get? h1.objs.size with
   | none=>rfl
   | some o=>exact absurd (Hq (kp _ _ hq)) (Jf _)
  have F9:=I.fresh' z;have hlen:(t'.map (·.2.1)).length<=Hj:=by
   rw [q7,p1.length_eq, <- q7 (f:=fun pp:D×V×h6=>pp.2.1),t2];exact hl
  have I2:=I.laidN (t':=tk) (h':=h2) (N:=fun b=>if b=h1.objs.size then some (.lst (t'.map (·.2.1))) else none) F6 (fun b o e=>by
   by_cases B:b=h1.objs.size
   ·rw [B];exact z
   ·rw [if_neg B] at e;cases e) (fun b o e=>by
   by_cases B:b=h1.objs.size
   ·subst B;rw [if_pos rfl] at e;cases e;exact ⟨hlen,out,n',by rw [<- p2];exact hz.2,g2⟩
   ·rw [if_neg B] at e;cases e)
  have eH:lay H (fun b=>if b=h1.objs.size then some (.lst (t'.map (·.2.1))) else none)=upd H h1.objs.size (.lst (t'.map (·.2.1))):=by
   funext b
   unfold lay upd;dsimp only
   by_cases B:b=h1.objs.size
   ·rw [if_pos B,if_pos B]
   ·rw [if_neg B,if_neg B]
  rw [eH] at I2;refine ⟨.ref h1.objs.size,_,I2,rfl, ?_⟩;refine cO rm hz.1 (fun p' n=>q p' _ n ?_ ?_) F9
  ·have:=p1.map (fun pp:D×V×h6=>pp.1);rw [t1] at this;exact this
  ·unfold lf;rw [Jd];rw [<- p2,Jd] at F5;refine F5.imp_of_mem fun {a b} ha B hab => ?_;have rd:∀ pp∈t',Js h2 pp.2.2=pd pp.1:=fun pp j=>by
    have G:=p1.mem_iff.mp j;obtain ⟨as,ra⟩:=Y pp G;have hm:pp.1∈es:=by rw [<- t1];exact HS G
    exact K8 (hS.lay _ (HS hm)).1 (bO (fun b o e _=>F6 b o e) (J _ (HS hm)) ra)
   rw [rd a ha,rd b B] at hab;exact hab
end
end Mi
end
end L2
namespace L2
namespace Mi
open PySem PySem.Spec PyProof.Rows L2.Srt
def lg (K:Frag) (H:Hp) (kv:D×D) (e:JS):Prop := ∃ kV vV,RD K H kv.1 kV/\RelV kV e.key/\RD K H kv.2 vV/\RelV vV e.val
theorem rf {K:Frag} {H:Hp} {d:D} {k:Key} (h:RKey d k):RD K H d (kV k):=by
 cases d <;> first
  | exact h.elim
  | (cases h;first | exact Rh.mpr rfl | exact Rq.mpr rfl)
theorem mM {K:Frag} {H:Hp}:∀ {ds:List D} {ks:List Key},Ig RKey ds ks->RDs K H ds (ks.map kV)
 | _,_, .nil=>RDs.nil
 | _,_, .cons r t=>RDs.cons (rf r) (mM t)
theorem zQ {P:HK} {w:Ie} {K:Frag} {H:Hp}:∀ {kvs:List (D×D)} {ps:List (Key×V)} {vs:List (Key×h6)} {es:List JS},Ig (fun (p:D×D) (q:Key×V)=>RKey p.1 q.1/\RD K H p.2 q.2) kvs ps->KV ps vs->Pairs (aN P w) es vs->Ig (lg K H) kvs es
 | _,_,_,_, .nil, .nil, .nil => .nil
 | _,_,_,_, .cons j t1, .cons z B, .cons h1 h2 t3=>by
   refine .cons ⟨kV _,_,rf j.1, ?_,j.2,by rw [h2];exact z.2⟩ (zQ t1 B t3)
   rw [<- z.1] at h1
   rcases aY h1 with ⟨i,t,e1,e2⟩ | ⟨x,t,e1,e2⟩
   ·rw [e1,e2];exact ⟨t,rfl⟩
   ·rw [e1,e2];exact ⟨t,rfl⟩
theorem zR {P:HK} {w:Ie} {K:Frag} {H:Hp}:∀ {kvs:List (D×D)} {ps:List (List Key×V)} {xs:List (List Key×Addr×h6)},Ig (fun (p:D×D) (q:List Key×V)=>RKeys p.1 q.1/\RD K H p.2 q.2) kvs ps->Ig (fun (p:List Key×V) (q:List Key×Addr×h6)=>p.1=q.1/\H q.2.1=some (.tup (p.1.map kV))/\RelV p.2 q.2.2) ps xs->Ig (lg K H) kvs (xs.map (entryOfKey (Lq (aN P w))))
 | _,_,_, .nil, .nil => .nil
 | kv::_,_,_, .cons z t1, .cons B F=>by
   refine .cons ?_ (zR t1 F);obtain ⟨d,v⟩:=kv;have j:=z.1
   cases d <;> first
    | exact j.elim
    | exact ⟨.ref _,_,Ru ⟨_,_,rfl,B.2.1,mM j⟩,rfl,z.2,B.2.2⟩
theorem bp {α β:Type} {R : α -> β -> Prop}:∀ {l:List α} {m:List β},Ig R l m->l.length=m.length
 | _,_, .nil=>rfl
 | _,_, .cons _ t=>by simp [bp t]
section
variable {X:Cx}
theorem oZ {H:Hp} {h:Heap} {P:HK} {w:Ie} {K:Frag} {a:Addr} {ps:List (List Key×V)} {kvs:List (D×D)} (ok:ObjOk P w H h a (.dT ps)) (pr:Ig (fun (p:D×D) (q:List Key×V)=>RKeys p.1 q.1/\RD K H p.2 q.2) kvs ps) :
 ∃ cd dd sl es ep,h.get? a=some { cls:=cd,dict:=dd,data := .dict es ep,slots:=sl }/\es.size<=Hj/\Ig (lg K H) kvs es.toList:=by
 obtain ⟨G,B,xs,j,o,es,ep,h1,h2,z,F,J⟩:=ok;obtain ⟨cd,dd,dat,sl⟩:=o;dsimp only at z;subst z;have pp:=zR (P:=P) (w:=w) pr j;rw [<- F] at pp;refine ⟨cd,dd,sl,es,ep,h1, ?_,pp⟩;have:=bp pp;have:=bp pr;simp at *;lia
theorem B5 {pins:List (Addr×Obj)} {σ:St} {H:Hp} {s:hI} {M:Mem} (I:Inv X pins σ H s) (rm:RM X.K M H) {a:Addr} {t:Bool} {kvs:List (D×D)} (e:M a=some (.dct t kvs)) :
 ∃ cd dd sl es ep,s.heap.get? a=some { cls:=cd,dict:=dd,data := .dict es ep,slots:=sl }/\es.size<=Hj/\Ig (lg X.K H) kvs es.toList/\IsD H a:=by
 have ro:=rm a _ e
 cases t with
 | false =>
   obtain ⟨ps,j,pr⟩:=ro;obtain ⟨G,B,vs,z,o,es,ep,h1,h2,q,J,F,L⟩:=I.hok a _ j;obtain ⟨cd,dd,dat,sl⟩:=o;dsimp only at q;subst q;have pp:=zQ pr z F;refine ⟨cd,dd,sl,es,ep,h1, ?_,pp, .inl ⟨_,Rd.of j⟩⟩;have:=bp pp;have:=bp pr;simp at *;lia
 | true =>
   obtain ⟨ps,j,pr⟩:=ro;obtain ⟨cd,dd,sl,es,ep,h1,h2,q⟩:=oZ (I.hok a _ j) pr;exact ⟨cd,dd,sl,es,ep,h1,h2,q, .inr ⟨_,Rd.of j⟩⟩
end
section
noncomputable def ke (to tk tx:TEd):TEd:=fun ρ M Q=>to ρ M fun x M1 => ∃ a t kvs,x = .ref a/\M1 a=some (.dct t kvs)/\tk ρ M1 fun k M2=>tx ρ M2 fun z M3 => ∃ t' kvs',M3 a=some (.dct t' kvs')/\i4 t' k=true/\Q ((dget kvs' k).getD z) M3
theorem vI {to tk tx:TEd} (h1:ae to) (h2:ae tk) (j:ae tx):ae (ke to tk tx):=fun ρ M Q Q' i q=>h1 _ _ _ _ (fun x L ⟨a,t,kvs,e,e1,B⟩=>⟨a,t,kvs,e,e1,h2 _ _ _ _ (fun k M2 F=>j _ _ _ _ (fun z O ⟨t',kvs',G,ok,J⟩=>⟨t',kvs',G,ok,i _ _ J⟩) F) B⟩) q
section
variable {X:Cx}
theorem CW {K:Frag} {M:Mem} {H:Hp} (rm:RM K M H) {a:Addr} {t:Bool} {kvs:List (D×D)} (e:M a=some (.dct t kvs)):IsD H a:=by
 have ro:=rm a _ e
 cases t with
 | false=>obtain ⟨ps,j,_⟩:=ro;exact .inl ⟨_,Rd.of j⟩
 | true=>obtain ⟨ps,j,_⟩:=ro;exact .inr ⟨_,Rd.of j⟩
theorem B6 {o e f:Expr} {to tk tx:TEd} {apos cpos:Pos} (Y:X.A.units+1 < K1) (mo:ae to) (mk:ae tk) (mx:ae tx) (ho:PE X o (lE X.K to)) (he:PE X e (lE X.K tk)) (hf:PE X f (lE X.K tx)) (m:M2 X o "get" apos e f cpos) :
 PE X (.Call (.Attribute o "get" apos) [e,f] [] cpos) (lE X.K (ke to tk tx)):=by
 refine PE.imp (xH Y ho he hf m) fun σ H Q h => ?_;obtain ⟨ρ,M,rs,rm,q⟩:=h;refine ⟨ρ,M,rs,rm,mo _ _ _ _ (fun x Z ⟨a,t,kvs,e,e1,q1⟩ v H1 L j rd1 => ?_) q⟩;subst e
 cases Ri.mp rd1
 have B:=rs.mono (L.stab rm);refine ⟨a,rfl,CW j e1, ρ,Z,B,j,mk _ _ _ _ (fun k M2 q2 v2 H2 O F G => ?_) q1⟩;have J:=B.mono (O.stab j);refine ⟨ρ,M2,J,F,mx _ _ _ _ (fun z M3 ⟨t',kvs',e3,ok,q3⟩ v3 H3 U rm3 rd3 => ?_) q2⟩;obtain ⟨w,g,g1,g2⟩:=qT rm3 e3 ok (G.mono (U.stab F));refine ⟨w,g, ?_⟩;refine q3 _ H3 (L.trans (O.trans U)) rm3 ?_
 cases e4:dget kvs' k with
 | none=>rw [g2 e4];exact rd3
 | some d =>
   obtain ⟨w',e5,r5⟩:=g1 d e4;rw [e5];exact r5
end
end
end Mi
end L2
namespace L2
open PySem PySem.Spec PyProof.Rows
namespace Mi
end Mi
end L2
namespace L2
open PySem PySem.Spec PyProof.Rows
namespace Mi
end Mi
end L2
namespace L2
open PySem PySem.Spec PyProof.Rows
section
section
variable {prog:HK} {w:Ie} {A:Io} {E:h6->hI->Prop}
theorem mN {it l:Addr} {items:Array h6} (j:l≠it):∀ (n i:Nat) (s:hI) (Q:List h6->hI->Prop),s.heap.IsListIter it l i->s.heap.IsList l items->i+n<=items.size ->
 (∀ h':Heap,h'.IsListIter it l (i+n)->J6 it s.heap h'->Q ((items.toList.drop i).take n) { s with heap:=h' })->Ht (model prog w) A (draw (.ref it) n) Q E s
 | 0,i,s,Q,hi,B,hs,q=>by
  unfold draw;have:=q s.heap (by simpa using hi) ⟨rfl,fun _ _=>rfl⟩
  exact r4 (by simpa using this)
 | n+1,i,s,Q,hi,B,hs,q=>by
   unfold draw;refine gV (Ly hi B (x:=items[i]'(by lia)) (by simp) fun h' F sb => ?_)
   refine gV (I8 (mN j n (i+1) _ _ F (B.extBut sb.extBut j) (by lia) fun h2 G z => ?_))
   refine r4 ?_;have e:items[i]'(by lia)::(items.toList.drop (i+1)).take n=(items.toList.drop i).take (n+1):=by
    rw [IG (i:=i) (l:=items.toList) (by simp;lia),List.take_succ_cons];rfl
   have:=q h2 (by rw [show i+(n+1)=i+1+n by lia];exact G) ⟨z.1.trans sb.1,fun b J=>(z.2 b J).trans (sb.2 b J)⟩
   rw [<- e] at this;exact this
theorem ja {s:hI} {l:Addr} {items:Array h6} {Q:List h6->hI->Prop} (F:A.handled=none) (j:s.heap.IsList l items)
 (q:∀ h',(∀ b o,s.heap.get? b=some o->h'.get? b=some o)->Q items.toList { s with heap:=h' }):Ht (model prog w) A (Qw (.ref l) items.size none) Q E s:=by
 unfold Qw;have nb:∀ Q':Bool->hI->Prop,Q' false s->Ht (model prog w) A (Qm (.ref l)) Q' E s:=fun Q' h=>by
  unfold Qm;refine gV (wpAny_specialOf j.typeIs slot_list_iter.lookup ?_);exact r4 h
 refine gV (nb _ ?_);simp only [IT,if_false];refine gV (I8 (Jr j ?_));have lt:l < s.heap.objs.size:=by obtain ⟨o,e,_⟩:=j;exact Hq e
 refine gV (I8 (mN (items:=items) (HV lt) items.size 0 _ _ ⟨_,Hm _ rfl,rfl,rfl⟩ (j.push _) (by lia) fun h2 G z => ?_))
 have B:h2.IsList l items:=(j.push _).extBut z.extBut (HV lt);rw [List.drop_zero,JR (by simp)]
 rw [if_neg (by simp)]
 refine gV (I8 (LR F (s := { s with heap:=h2 }) G B (by simp) fun J eb => ?_))
 simp only [Option.isSome_none,IT,if_false];refine r4 (q J fun b o e => ?_);have nb:b≠s.heap.objs.size:=HV (Hq e);exact eb b o nb (z.extBut b o nb (h7 _ e))
theorem qF {s:hI} {env:Env} {elts:List Expr} {k:Nat} {pos:Pos} {l:Addr} {items:Array h6} {Q:Unit->hI->Prop} (z:A.handled=none) (B:s.heap.IsList l items) (F:(IS elts env).length=items.size) (j:(IS elts env).findIdx? (·.1)=none)
 (q:∀ h',(∀ b o,s.heap.get? b=some o->h'.get? b=some o)->Ht (model prog w) A (Nu ((IS elts env).map (·.2)) items.toList) Q E { s with heap:=h' }) :
 Ht (model prog w) A (assign (.Tuple elts k pos) env (.ref l)) Q E s:=by
 rw [assign_Tuple];refine gV (Kg ?_);unfold unpack;rw [j,F];exact gV (I8 (ja z B q))
end
section
variable {X:Cx}
noncomputable def EY (K:Frag) (n:Nat) (t:TGs):TG:=fun v σ H Q => ∃ a xs,v = .ref a/\SqL K H a xs/\xs.length=n/\t xs σ H Q
theorem CY {es:List Expr} {k:Nat} {t:TGs} {n:Nat} {pos:Pos} (q:X.calm=true) (h:PGs X es t)
 (z:(IS es X.env).length=n) (j:(IS es X.env).findIdx? (·.1)=none):PG X (.Tuple es k pos) (EY X.K n t):=by
 intro pins s σ H v u Q I r hw;obtain ⟨a,xs,e1,B,F,hw⟩:=hw;subst e1
 cases r
 obtain ⟨its,rv,G,L⟩:=I.list B;refine qF (I.ok.hd q) G.isList (by simp [z, <- F,rv.length]) j fun h' hx => ?_
 have J:Inv X pins σ H { s with heap:=h' }:=I.kept (t':=s.toks) hx
 exact h pins _ σ H xs _ Q J (by simpa using rv) hw
end
namespace Mi
section
variable {X:Cx} {K:Frag}
noncomputable def lGL (K:Frag) (b:BTs):TG:=fun v σ H Q => ∃ a vs ds ρ ρ',v = .ref a/\SqL K H a vs/\RDs K H ds vs/\RS K H σ ρ /\ b ds ρ = some ρ' /\ ∀ σ',RS K H σ' ρ'->Q σ' H
theorem CZ {es:List Expr} {k:Nat} {bs:BTs} {n:Nat} {pos:Pos} (z:X.calm=true) (hlen:∀ ds ρ ρ',bs ds ρ = some ρ'->ds.length=n) (h:PGs X es (lGs X.K bs)) (B:(IS es X.env).length=n) (j:(IS es X.env).findIdx? (·.1)=none) :
 PG X (.Tuple es k pos) (lGL X.K bs):=PG.imp (CY z h B j) fun v σ H Q ⟨a,vs,ds, ρ, ρ',e,sq,r,rs,eb,q⟩=>⟨a,vs,e,sq,by rw [r.length];exact hlen _ _ _ eb,ds, ρ, ρ',r,rs,eb,q⟩
noncomputable def kg (te:TEd) (b:BTs):TSd:=fun D ρ M=>te ρ M fun x M1 => ∃ a ds ρ',x = .ref a/\M1 a=some (.lst ds)/\b ds ρ = some ρ'/\D.nx ρ' M1
theorem vJ {te:TEd} {bt:BTs} (h:ae te):aK (kg te bt):=fun a b ρ M i q=>h _ _ _ _ (fun d z ⟨x,ds, ρ',e,e1,e2,j⟩=>⟨x,ds, ρ',e,e1,e2,i.nx _ _ j⟩) q
theorem vK {te:TEd} {b:BTs} (m:ae te) (D:bS) (σ:St) (H:Hp) (h:lS K (kg te b) D σ H):nD (lE K te) (lGL K b) D σ H:=by
 obtain ⟨ρ,M,A,rs,rm,l,q⟩:=h;refine ⟨ρ,M,rs,rm,m _ _ _ _ (fun d B ⟨a,ds, ρ',e1,e2,e,F⟩ v H1 z j rd1 => ?_) q⟩;subst e1
 cases Ri.mp rd1
 obtain ⟨vs,G,rv⟩:=j _ _ e2;exact ⟨a,vs,ds, ρ, ρ',rfl,SqL.of G,rv,rs.mono (z.stab rm),e,fun σ' rs'=>l.nx ρ' B σ' H1 z rs' j F⟩
end
end Mi
end
section
section
variable {prog:HK} {w:Ie} {A:Io} {E:h6->hI->Prop} {s:hI}
theorem B7:typeLookup (.type "list") "keys" = pure none:=by rw [typeLookup_type,Oj];kernel_rfl
theorem B8 {l:Addr} {o:Obj} {xs:Array h6} {k:Nat} {Q:Option h6->hI->Prop} (B:A.handled=none) (ho:s.heap.get? l=some o) (z:o.cls = .type "list") (hd:o.data = .seq xs k) (j:o.dict=none)
 (q:∀ h' tk,(∀ b o,s.heap.get? b=some o->h'.get? b=some o)->Q none { s with heap:=h',toks:=tk }):Ht (model prog w) A (getAttr? (.ref l) "keys") Q E s:=by
 have ty:s.TypeIs (.ref l) "list" := ⟨_,ho,z⟩;unfold getAttr?;unfold mkText;refine gV ?_;refine gV (wpAny_fresh ?_);refine r4 ?_;unfold getAttrBy?;refine gV (Km ?_);unfold getAttrBy;refine I8 ?_;refine gV (Ka (s := { s with toks:=s.toks+1 }) ty ?_)
 refine gV (Kv F.slot_list_getattribute.lookup ?_);refine Of (by decide) ?_
 unfold getAttrByItsOwn hookBefore;rw [if_neg (by decide)]
 refine gV (r4 ?_);refine gV (Km (I8 ?_));unfold callGetattribute boundAndCalled;rw [if_neg (by decide)]
 refine gV (Kv (F.slot_list_getattribute.bind _) ?_);dsimp only;obtain ⟨cls,dd,dat,sl⟩:=o;dsimp only at z hd j;subst z hd j;refine PQ F.slot_list_getattribute (s := { s with toks:=s.toks+1 }) ty am_entry_list_getattribute (F.args_list_getattribute_2 _ _) ((meets_getattribute_miss_list l xs k sl "keys" s.toks B7 (by decide) (by decide)).inModel prog w) ⟨ho,B,fun h' tk a ne => ?_⟩
 ·have ne:s.heap.NewAttrErr h' a (.ref l) "keys" := ne;obtain ⟨t,u,he⟩:=ne.there;unfold getattributeRaised;refine gV (JU (T := "AttributeError") (b:=true) ⟨_,he,rfl⟩ (by rw [LL];kernel_rfl) ?_)
  rw [if_pos rfl];unfold hookBehind;rw [if_neg (by decide)]
  refine gV (Kv am_list_getattr_none ?_);unfold hookOrError attributeErrorLeaves;dsimp only;rw [if_pos (by decide)]
  refine gV (Qz ?_);refine gV (JU (T := "AttributeError") (b:=true) ⟨_,he,rfl⟩ (by rw [LL];kernel_rfl) ?_)
  rw [if_pos rfl];exact r4 (q h' tk ne.keeps)
end
end
section
theorem p8:entryFor table "dict.update.loop" = some JZ.«dict.update.loop» := Qn (by kernel_rfl)
theorem ph:plainId "dict.update.loop" = true:=by decide +kernel
section
variable {X:Cx} {pins:List (Addr×Obj)} {σ:St} {H:Hp}
def PrV (H:Hp) (v:V) (kv:List Key×V):Prop := ∃ t b,v = .ref t/\H t=some (.tup [.ref b,kv.2])/\H b=some (.tup (kv.1.map kV))
noncomputable abbrev cc (kvs:List (List Key×V)):List (List Key×V):=kvs.foldl (fun a kv=>bF a kv.1 kv.2) []
theorem t8 (kvs:List (List Key×V)):(cc kvs).length<=kvs.length:=by
 have g:∀ (r:List (List Key×V)) (a:List (List Key×V)),(r.foldl (fun a kv=>bF a kv.1 kv.2) a).length<=a.length+r.length:=by
  intro r
  induction r with
  | nil=>intro a;simp
  | cons x r ih =>
    intro a;have h1:=ih (bF a x.1 x.2);have h2:=dv a x.1 x.2;simp only [Li,Ic];lia
 have:=g kvs [];simpa using this
theorem kh {α β:Type} {R : α -> β -> Prop}:∀ {l:List α} {m:List β} {i:Nat} {x : α},Ig R l m->l[i]? = some x -> ∃ y,m[i]? = some y/\R x y
 | _,_,_,_, .nil,e=>by simp at e
 | _,_,0,_, .cons r _,e=>by simp at e;subst e;exact ⟨_,rfl,r⟩
 | _,_,i+1,x, .cons _ t,e=>by
   simp at e;obtain ⟨y,h1,h2⟩:=kh t e;exact ⟨y,by simpa using h1,h2⟩
theorem B9 {A:Io} (hu:A.units+1 < K1) (hn:A.handled=none) {l it p:Addr} {vs:List V} {kvs:List (List Key×V)} (Z:H p=none) (Y:H l=some (.lst vs)) (G:Ig (PrV H) vs kvs) (hz:vs.length < Hj) {R:Result->hI->Prop} (hf:cB X pins H it) (j:it≠p) :
 ∀ (k i:Nat) (s:hI),vs.length - i=k->i<=vs.length->Inv X pins σ (upd H p (.dT (cc (kvs.take i)))) s->s.heap.IsListIter it l i ->
  (∀ s',Inv X pins σ (upd H p (.dT (cc kvs))) s'->R (.ok (.ret .none)) s') ->
  Ml (model X.prog X.w) A (.builtin "dict.update.loop" ⟨[.ref p, .ref it,Nv i, .none],[]⟩) R s:=by
 have J:l≠p:=fun z=>by rw [z,Z] at Y;cases Y
 have hlen:vs.length=kvs.length:=Kf G;obtain ⟨f0,f1,f2,f3,f4,f5⟩:=hf;intro k
 induction k with
 | zero =>
   intro i s hk hi I st q;have F5:i=vs.length:=by lia
   obtain ⟨its,rv,pl,_⟩:=I.list (SqL.of (K:=X.K) ((am J).trans Y));refine Mx p8 ?_;unfold JZ.«dict.update.loop»;dsimp only;refine gV (LR hn st pl.isList (by have:=rv.length;simp;lia) fun h' eb => ?_)
   refine gV ?_;unfold Builtin.Dict.addKeywords;refine gV ?_;have B:=I.turned (t':=s.toks) (h':=h') (fun b o F e=>eb b o F e) ((am j).trans f0) f1 f3 f4 f5;rw [F5,hlen,List.take_length] at B;exact r4 (r4 (r4 (q _ B)))
 | succ k ih =>
   intro i s hk hi I st q;have L:i < vs.length:=by lia
   obtain ⟨its,rv,pl,_⟩:=I.list (SqL.of (K:=X.K) ((am J).trans Y));obtain ⟨u,F6,ru⟩:=rv.get (z4 L);obtain ⟨kv,F7,t,b,hv,ht,F⟩:=kh G (z4 L);rw [hv] at ru
   cases (show u=Ii t from ru)
   refine Mx p8 ?_;rw [Pp (by rfl) (by rfl)]
   unfold JZ.«dict.update.loop»;dsimp only;refine gV (Ly st pl.isList (x := .ref t) (by simpa using F6) fun h' st' sb => ?_)
   have B:=I.turned (t':=s.toks) (h':=h') (fun b o F e=>(sb.2 b F).trans e) ((am j).trans f0) f1 f3 f4 f5;dsimp only;have F8:t≠p:=fun z=>by rw [z,Z] at ht;cases ht
   have F9:b≠p:=fun z=>by rw [z,Z] at F;cases F
   obtain ⟨tits,rt,tt,_⟩:=B.tuple (SqT.of (K:=X.K) ((am F8).trans ht));obtain ⟨ob,O,Fa,nt,Fb⟩:=id tt
   cases rt with
   | cons r1 rt =>
     cases rt with
     | cons r2 rt =>
       cases rt
       cases (show _=Ii b from r1)
       rename_i uv;refine gV (I8 ?_);refine gV (wpAny_tryCatch ?_);unfold Builtin.Dict.pairItems;refine gV (Ka (T := "tuple") (s := { s with heap:=h' }) ⟨ob,O,Fa⟩ ?_)
       rw [if_pos (by decide)]
       refine gV (JE (s := { s with heap:=h' }) O Fb ?_)
       refine r4 ?_;refine I8 ?_;obtain ⟨z,hd,xs,rel,dd⟩:=zH (a:=p) B.hok az;have Fc:xs.length<=Hj:=by rw [<- Kf rel];exact z
       have U:upd H p (.dT (cc (kvs.take i))) b=some (.tup (kv.1.map kV)):=(am F9).trans F;have Fd:(bF (cc (kvs.take i)) kv.1 kv.2).length<=Hj:=by
        have h1:=dv (cc (kvs.take i)) kv.1 kv.2;have h2:=t8 (kvs.take i);rw [HD] at h2;lia
       have etk:bF (cc (kvs.take i)) kv.1 kv.2=cc (kvs.take (i+1)):=by
        unfold cc;rw [List.take_succ,F7,List.foldl_append];rfl
       refine wpAny_dictSet_heap (hsz:=Fc) (knd:=Lq (aN X.prog X.w)) (KJ hu) (gA B.hok U) dd fun h2 dd' hs => ?_;obtain ⟨q',es,ep,hq,g2,g3,g4,_,g5⟩:=dd';have I2:=kK (t':=s.toks+(Lq (aN X.prog X.w)).draws kv.1) B (a:=p) (ob := .dT (bF (cc (kvs.take i)) kv.1 kv.2)) (by rw [az];exact Ji) hs ⟨q',hq⟩ ⟨Fd,hd,_,(rel.put kv.1 U r2).keeps fun c ys ec => ?_,q',es,ep,hq,g2,g3,g4,g5⟩
       ·rw [A9,etk] at I2;refine r4 ⟨P0 ph _,ih (i+1) _ (by lia) (by lia) I2 ?_ q⟩
        exact st'.at fun o e=>(hs.2 it j).trans e
       ·rw [am (zx ec az (fun z=>nomatch z))];exact ec
end
section
variable {X:Cx}
theorem ki (hu:X.A.units+16 < K1) (hc:X.calm=true):CallR X (.type "dict") (fun xs H Q => ∃ l vs kvs,xs=[V.ref l]/\H l=some (.lst vs)/\Ig (PrV H) vs kvs/\vs.length < Hj /\ ∀ p,H p=none->Q (.ref p) (upd H p (.dT (cc kvs)))):=by
 intro pins s σ H xs us Q I r h;obtain ⟨l,vs,kvs,rfl,J,L,hz,q⟩:=h
 cases r with
 | cons r1 rr =>
 cases rr
 cases (show _=Ii l from r1)
 have Z:=I.ok.hd hc;have O:H s.heap.objs.size=none:=I.hok.fresh (Hr _);have I1:=I.laid (a:=s.heap.objs.size) (o := .dT []) (t':=s.toks) (fun _ _ q=>h7 _ q) (Hr _) (nK s.heap I.big);have U:l≠s.heap.objs.size:=fun z=>by rw [z,O] at J;cases J
 refine callType_codes (Q₁ := fun obj s₁ => obj = .ref s.heap.objs.size/\s₁ = { s with heap:=s.heap.push { cls := .type "dict",data := .dict #[] } }) F.kt_called_dict (F.kt_typeCall_dict_1 _) F.entry_dict_init (kt_code_dict_new _ ⟨rfl,rfl⟩) fun obj s₁ h₁ => ?_
 obtain ⟨rfl,rfl⟩:=h₁;refine ⟨⟨_,Hm _ rfl,rfl⟩,F.args_dict_init_2 _ _, ?_⟩;unfold JZ.«dict.__init__»;refine gV ?_;unfold Builtin.Dict.selfAndRest;unfold Builtin.Dict.notOrdered;rw [if_pos (by decide)]
 have tyd:Shared.TypeIs { s with heap:=s.heap.push { cls := .type "dict",data := .dict #[] } } (.ref s.heap.objs.size) "dict" := ⟨_,Hm _ rfl,rfl⟩
 refine gV (gV (Ka tyd ?_));rw [if_neg (by decide)]
 refine r4 ?_;refine gV (r4 (r4 ?_));unfold Builtin.Dict.updateCommon Builtin.Dict.updateFrom;dsimp only;obtain ⟨its,rv,pl,_⟩:=I1.list (SqL.of (K:=X.K) ((am U).trans J));have il:=pl.isList;refine gV (Ka il.typeIs ?_);rw [if_pos (by decide)]
 obtain ⟨ob,nn,e1,j,B,G⟩:=id pl;refine gV (B8 Z e1 j G B fun h1 tk kp => ?_);rw [if_pos (show (none:Option h6).isNone=true from rfl)];refine gV (Jq ?_);have Y:=I1.kept (t':=tk) kp;refine gV (Jr (s := { s with heap:=h1,toks:=tk }) (PlainL.isList (⟨ob,nn,kp _ _ e1,j,B,G⟩)) ?_)
 have I3:=Y.kept (t':=tk) (h':=h1.push { cls := .type "list_iterator",data := .fields #[.ref l, .int 0 0] }) fun b o e=>h7 _ e;refine r4 ⟨P0 ph _, ?_⟩;have hle:s.heap.objs.size < h1.objs.size:=Hq (kp _ _ (Hm _ rfl));have hf:cB X pins H h1.objs.size:=by
  have:=Y.fpOk (H':=upd H s.heap.objs.size (.dT [])) (Hr _) (Y.hok.fresh (Hr _));exact ⟨by rw [<- this.1,am (JP hle)],this.2⟩
 refine B9 (A:=X.A.in1) (X:=X) (pins:=pins) (σ := σ) (H:=H) (p:=s.heap.objs.size) (kvs:=kvs) (by have:X.A.in1.units=X.A.units+1:=rfl;lia) Z O J L hz hf (JP hle) vs.length 0 _ (by lia) (by lia) I3 ⟨_,Hm _ rfl,rfl,rfl⟩ fun s' I' => ?_
 exact ⟨rfl, .ref s.heap.objs.size,_,I',rfl,q _ O⟩
end
end
end L2
namespace L2
namespace Mi
open PySem PySem.Spec PyProof.Rows
section
section
variable {X:Cx}
noncomputable def t9 (kvs:List (D×D)):List (D×D):=kvs.foldl (fun a kv=>cJ a kv.1 kv.2) []
noncomputable def tf:RAd:=fun ds M Q => ∃ a kvs,ds=[.ref a]/\M a=some (.lst (kvs.map fun kv:D×D => .tup [kv.1,kv.2]))/\(∀ kv∈kvs,cr kv.1=true)/\kvs.length < Hj /\ ∀ p,M p=none->Q (.ref p) (ag M p (.dct true (t9 kvs)))
theorem mP:bh tf:=fun _ _ _ _ h ⟨a,kvs,e,e1,e2,j,q⟩=>⟨a,kvs,e,e1,e2,j,fun p n=>h _ _ (q p n)⟩
theorem pi {K:Frag} {H:Hp}:∀ {kvs:List (D×D)} {vs:List V},RDs K H (kvs.map fun kv:D×D => .tup [kv.1,kv.2]) vs->(∀ kv∈kvs,cr kv.1=true) ->
 ∃ ps:List (List Key×V),Ig (PrV H) vs ps/\Ig (fun (p:D×D) (q:List Key×V)=>RKeys p.1 q.1/\RD K H p.2 q.2) kvs ps
 | [],vs,r,_=>by rw [RDs.nil_iff.mp r];exact ⟨[], .nil, .nil⟩
 | kv::kvs,vs,r,h=>by
   rw [HE] at r;obtain ⟨v,vr,rfl,G,J⟩:=Rj.mp r;obtain ⟨ps,h1,h2⟩:=pi J fun x hx=>h x (HU _ hx);have z:=h kv (Ir ..);obtain ⟨k,v⟩:=kv;obtain ⟨ks,j⟩:=kM z
   cases k <;> first
    | exact j.elim
    | (obtain ⟨t,us,rfl,B,ru⟩:=Rz rfl G
       obtain ⟨Z,ur,rfl,L,ru⟩:=Rj.mp ru;obtain ⟨O,U,rfl,Y,ru⟩:=Rj.mp ru;rw [RDs.nil_iff.mp ru] at B;obtain ⟨b,ws,rfl,F,rw'⟩:=Rz (kN z) L;rw [fP j rw'] at F;exact ⟨(ks,O)::ps, .cons ⟨t,b,rfl,B,F⟩ h1, .cons ⟨j,Y⟩ h2⟩)
theorem pj {K:Frag} {H:Hp}:∀ {kvs:List (D×D)} {ps:List (List Key×V)} {a:List (D×D)} {b:List (List Key×V)},Ig (fun (p:D×D) (q:List Key×V)=>RKeys p.1 q.1/\RD K H p.2 q.2) kvs ps->Ig (fun (p:D×D) (q:List Key×V)=>RKeys p.1 q.1/\RD K H p.2 q.2) a b ->
 Ig (fun (p:D×D) (q:List Key×V)=>RKeys p.1 q.1/\RD K H p.2 q.2) (kvs.foldl (fun a kv=>cJ a kv.1 kv.2) a) (ps.foldl (fun a kv=>bF a kv.1 kv.2) b)
 | _,_,_,_, .nil,h=>h
 | _,_,_,_, .cons r t,h=>by
   have g:=pj t (j4 (RK:=RKeys) RKeys.inj RKeys.fun r.1 r.2 h);exact g
theorem qG (j:X.A.units+16 < K1) (B:X.calm=true):CallR X (.type "dict") (lR X.K tf):=by
 refine CallR.of (ki j B) fun vs H Q h => ?_;obtain ⟨ds,M,rm,rs,a,kvs,rfl,e,F,G,q⟩:=h;obtain ⟨v,rfl,r⟩:=rs.one
 cases Ri.mp r
 obtain ⟨us,J,ru⟩:=rm _ _ e;obtain ⟨ps,h1,h2⟩:=pi ru F;refine ⟨a,us,ps,rfl,J,h1,by rw [ru.length,q7];exact G,fun p n => ?_⟩
 have st:Stab H (upd H p (.dT (cc ps))):=(Rr (M:=M) n).stab rm;exact q p (rm.out n) (.ref p) _ (Ext.lay n) (rm.lay n ⟨_,az,Rl (pj h2 .nil) fun _ _ z=>⟨z.1,z.2.mono st⟩⟩) (Ri.mpr rfl)
end
end
end Mi
end L2
namespace L2
namespace Dk
open PySem PySem.Spec PyProof.Rows
section
variable {prog:HK} {w:Ie} {A:Io} {E:h6->hI->Prop} {s:hI}
noncomputable def kO (d:Addr) (i n ep:Nat):Obj := { cls := .type "dict_keyiterator",data := .fields #[.ref d, .int i 0, .int n 0, .int ep 0] }
theorem slot_next:Slot "dict_keyiterator" "__next__" "dict_keyiterator.__next__" := .of (owner := "dict_keyiterator") (n := "__next__") (by rw [typeLookup_type,Oj];kernel_rfl) (by decide +kernel) (by decide +kernel) (by decide +kernel) (.inl (by decide +kernel)) (by rw [LL];kernel_rfl)
theorem kj:entryFor table "dict_keyiterator.__next__" = some JZ.«dict_keyiterator.__next__» := Qn (by kernel_rfl)
theorem mQ (a:h6):argsOk "dict_keyiterator.__next__" ⟨[a],[]⟩:=by unfold argsOk;kernel_rfl
theorem vL {it:Addr} (ty:s.TypeIs (.ref it) "dict_keyiterator") {types:List String} {Q:Bool->hI->Prop} (q:Q (types.any fun t => [IZ "dict_keyiterator",IZ "object"].contains (IZ t)) s):Ht (model prog w) A (Nb (.ref it) types) Q E s:=by
 have hm:=P1;unfold Nb
 wp_walk
 exact q
theorem nx_item {it d:Addr} {i ep:Nat} {cd:h6} {dd:Option Addr} {sl:Array (Option h6)} {es:Array JS} {e:JS} {Q:Option h6->hI->Prop} (hi:s.heap.get? it=some (kO d i es.size ep)) (hd:s.heap.get? d=some { cls:=cd,dict:=dd,data := .dict es ep,slots:=sl }) (he:es[i]? = some e)
 (q:∀ h',h'.get? it=some (kO d (i+1) es.size ep)->J6 it s.heap h'->Q (some e.key) { s with heap:=h' }):Ht (model prog w) A (Lx (.ref it)) Q E s:=by
 have ty:s.TypeIs (.ref it) "dict_keyiterator" := ⟨_,hi,rfl⟩;unfold Lx;refine gV (Km (Ij (name:=IP "__next__") ty slot_next (Iq slot_next ty kj ?_ (mQ _))));unfold JZ.«dict_keyiterator.__next__»;have hm:=P1
 wp_walk
 dsimp only;rw [if_neg (by simp)]
 simp only [HX,he];refine gV (Jy (Q:=fun n s'=>n=0/\s'=s) ?_ (fun n s' hs => ?_) fun _ _ z=>z)
 ·wp_walk
  exact ⟨by kernel_rfl,rfl⟩
 obtain ⟨rfl,rfl⟩:=hs;refine gV (vL ty ?_);refine gV (Il hi (by simp) fun h1 e1 s1 => ?_)
 rw [if_neg (by decide +kernel)] at e1
 have e1:h1.get? it=some (kO d (i+1) es.size ep):=e1;have j:Shared.TypeIs { s' with heap:=h1 } (.ref it) "dict_keyiterator" := ⟨_,e1,rfl⟩
 refine gV (I8 ?_);refine gV (vL j ?_);refine OK (by decide +kernel) ?_
 refine r4 (r4 ⟨_,rfl,r4 ?_⟩);exact q h1 e1 s1
theorem nx_end {it d:Addr} {ep:Nat} {cd:h6} {dd:Option Addr} {sl:Array (Option h6)} {es:Array JS} {Q:Option h6->hI->Prop} (j:A.handled=none) (hi:s.heap.get? it=some (kO d es.size es.size ep)) (hd:s.heap.get? d=some { cls:=cd,dict:=dd,data := .dict es ep,slots:=sl })
 (q:∀ h',(∀ b o,b≠it->s.heap.get? b=some o->h'.get? b=some o)->Q none { s with heap:=h' }):Ht (model prog w) A (Lx (.ref it)) Q E s:=by
 have ty:s.TypeIs (.ref it) "dict_keyiterator" := ⟨_,hi,rfl⟩;unfold Lx;refine gV (Km (Ij (name:=IP "__next__") ty slot_next (Iq slot_next ty kj ?_ (mQ _))));unfold JZ.«dict_keyiterator.__next__»;have hm:=P1
 wp_walk
 dsimp only;rw [if_neg (by simp)]
 have he:es[es.size]? = none:=LN (Hr _);simp only [HX,he];refine gV (Jy (Q:=fun n s'=>n=0/\s'=s) ?_ (fun n s' hs => ?_) fun _ _ z=>z)
 ·wp_walk
  exact ⟨by kernel_rfl,rfl⟩
 obtain ⟨rfl,rfl⟩:=hs;refine gV (Il hi (by simp) fun h1 e1 s1 => ?_)
 refine gV (m:=newExc (.type "StopIteration") []) ?_;simp only [newExc,newTuple];refine gV (Jc ?_ (by size_fits))
 refine gV (m:=N6 _ _) (Kv (a:=Ke) (by first | rfl | (simp only [N6];rfl)) (Jc ?_ (by size_fits)))
 simp only [raiseNew];refine gV (wpAny_handled ?_)
 first | rw [show A.in1.handled=none from j] | rw [j]
 refine gV (r4 (Qz ?_));exact gV (JU (T := "StopIteration") (b:=true) ⟨_,Hm _ rfl,rfl⟩ OC (r4 (q _ fun b o B e=>h7 _ (h7 _ (s1.extBut b o B e)))))
theorem it_dict {d:Addr} {es:Array JS} {ep:Nat} {dd:Option Addr} {sl:Array (Option h6)} {Q:h6->hI->Prop} (j:(d==IQ)=false) (hd:s.heap.get? d=some { cls := .type "dict",dict:=dd,data := .dict es ep,slots:=sl })
 (q:Q (.ref s.heap.objs.size) { s with heap:=s.heap.push (kO d 0 es.size ep) }):Ht (model prog w) A (Pc (.ref d)) Q E s:=by
 have ty:s.TypeIs (.ref d) "dict" := ⟨_,hd,rfl⟩;refine wpAny_pyIter_slot ty Qo (Iq Qo ty F.entry_dict_iter ?_ (F.args_dict_iter_1 _));unfold JZ.«dict.__iter__»
 wp_walk
 exact ⟨_,rfl, "dict_keyiterator",_,⟨_,Hm _ rfl,rfl⟩,slot_next.lookup,q⟩
theorem walk (hn:A.handled=none) (it d:Addr) (hne:d≠it) (es:Array JS) (ep:Nat) :
 Walks prog w A it [it,d] [it] es.size (fun i v => ∃ e,es[i]? = some e/\v=e.key) (fun i h=>h.get? it=some (kO d i es.size ep) /\ ∃ cd dd sl,h.get? d=some { cls:=cd,dict:=dd,data := .dict es ep,slots:=sl }) where
 sub:=fun b hb=>by simp at hb;simp [hb]
 frame:=fun _ _ _ st k=>⟨k it (by simp) _ st.1,by obtain ⟨cd,dd,sl,h⟩:=st.2;exact ⟨cd,dd,sl,k d (by simp) _ h⟩⟩
 item:=fun i s Q E hi st q=>by
  obtain ⟨h1,cd,dd,sl,h2⟩:=st;refine nx_item (e:=es[i]) h1 h2 (HY hi) fun h' e' s' => ?_;exact q _ h' s.toks ⟨_,HY hi,rfl⟩ ⟨e',cd,dd,sl,s'.extBut d _ hne h2⟩ fun b o hb x=>s'.extBut b o (fun z=>hb (by simp [z])) x
 done:=fun s Q E st q=>by
  obtain ⟨h1,cd,dd,sl,h2⟩:=st;exact nx_end hn h1 h2 fun h' k=>q h' s.toks fun b o hb x=>k b o (fun z=>hb (by simp [z])) x
 self:=fun i s Q E st q=>OL ⟨_,st.1,rfl,rfl⟩ q
theorem vM {d:Addr} {Q:Bool->hI->Prop} (ty:s.TypeIs (.ref d) "dict") (q:Q false s):Ht (model prog w) A (MR (.ref d)) Q E s:=by
 unfold MR;refine gV (wpAny_specialOf ty F.slot_dict_len.lookup ?_);generalize j:("dict.__len__":String)=z
 (fail_if_success (clear j z));wp_delta
 rw [show splitId z=some ("dict", "__len__") from by subst j;decide +kernel]
 subst j;refine gV (JU (b:=true) ty (by rw [LL];kernel_rfl) ?_)
 rw [if_neg (by decide)]
 refine OK (by decide +kernel) ?_
 refine gV (Ka ty ?_);exact r4 q
open Builtin.List in
theorem yA (hn:A.handled=none) {S d:Addr} {es:Array JS} {ep c:Nat} {dd:Option Addr} {sl:Array (Option h6)} {R:Result->hI->Prop} (res:h6) (Z:(d==IQ)=false) (hd:s.heap.get? d=some { cls := .type "dict",dict:=dd,data := .dict es ep,slots:=sl }) (Y:s.heap.get? S=some { cls := .type "list",data := .seq #[] c }) (hz:es.size<=Hj)
 (q:∀ (h':Heap) (tk:Nat) (acc':Array h6) (c':Nat),(∀ b o,b≠S->s.heap.get? b=some o->h'.get? b=some o)->h'.get? S=some { cls := .type "list",data := .seq acc' c' }->acc'.toList=es.toList.map (·.key)->s.toks<=tk->R (.ok (.ret res)) { s with heap:=h',toks:=tk }) :
 Ht (model prog w) A.in1 (listExtendWith (.ref S) (.ref d) res) (fun fin s'=>match fin with | .done f=>R (.ok f) s' | .again c'=>c'.quiet=true/\Ml (model prog w) A c' R s') (fun e s'=>R (.error e) s') s:=by
 have ty:s.TypeIs (.ref d) "dict" := ⟨_,hd,rfl⟩;have G:S≠d:=fun e=>by rw [e,hd] at Y;simp at Y
 have h1:listSameRef (.ref S) (.ref d)=false:=by simp [listSameRef,G]
 unfold listExtendWith;refine gV (Ka ty ?_);rw [if_neg (by rw [h1];decide)]
 refine gV (it_dict Z hd ?_);refine gV (I8 (vM (s := { s with heap:=s.heap.push (kO d 0 es.size ep) }) ⟨_,h7 _ hd,rfl⟩ ?_))
 have B:=Hq Y;have J:=Hq hd;have W:=(walk (prog:=prog) (w:=w) (A:=A.in1) hn s.heap.objs.size d (HV J) es ep).toS;have F5:S∉[s.heap.objs.size,d]:=fun hm=>by
  simp only [Ho,HZ,or_false] at hm
  rcases hm with e | e
  ·exact absurd (e ▸ B) (Jf _)
  ·exact G e
 refine OK (by decide +kernel) ?_
 refine gV (Jq ?_);unfold listTouch;have L:(s.heap.push (kO d 0 es.size ep)).get? S=some (Qk "list" #[] c):=h7 _ Y;refine gV (gV (Mm L rfl ?_ (by simp) (by simp)))
 have O:=Ll L (fun x=>x.push Ke);refine Mm O rfl ?_ (by simp;decide) (by simp)
 have F6:=Ll O (fun x=>x.pop);have oth:∀ b o,b≠S->s.heap.get? b=some o->(((s.heap.push (kO d 0 es.size ep)).update S (KG fun x=>x.push Ke)).update S (KG fun x=>x.pop)).get? b=some o:=fun b o U e=>by
  rw [Ju _ _ _ _ U,Ju _ _ _ _ U];exact h7 _ e
 have hit:(((s.heap.push (kO d 0 es.size ep)).update S (KG fun x=>x.push Ke)).update S (KG fun x=>x.pop)).get? s.heap.objs.size=some (kO d 0 es.size ep):=by
  rw [Ju _ _ _ _ (JP B),Ju _ _ _ _ (JP B)];exact Hm _ rfl
 refine r4 ⟨P0 F.plain_extend_loop _,codeAny_extend_loopS W hz _ F5 _ es.size 0 _ _ _ rfl (Jn _) ⟨hit,_,_,_,oth d _ G.symm hd⟩ F6 (ItemsOf.nil _) fun s' acc c' hm F7 ha => ?_⟩;rw [hm.eq_with];refine q _ _ acc c' (fun b o U e => ?_) F7 ?_ hm.toks
 ·exact hm.heap b o (fun z=>by
   simp only [Ho,HZ,or_false] at z
   rcases z with z | z
   ·exact U z
   ·exact absurd (z ▸ Hq e) (Jf _)) (oth b o U e)
 ·obtain ⟨g1,g2⟩:=ha;apply LJ;intro j;rw [HJ,HM,HJ]
  by_cases hj:j < es.size
  ·obtain ⟨e,he,hv⟩:=g2 j (acc[j]'(by lia)) (HY (by lia))
   rw [HY (by lia),hv,he];rfl
  ·rw [LN (by lia),LN (by lia)];rfl
theorem collect_dict (L:A.handled=none) {d:Addr} {es:Array JS} {ep:Nat} {dd:Option Addr} {sl:Array (Option h6)} {Q:List h6->hI->Prop} (j:(d==IQ)=false) (hd:s.heap.get? d=some { cls := .type "dict",dict:=dd,data := .dict es ep,slots:=sl }) (O:es.size<=Hj)
 (q:∀ (h':Heap) (tk:Nat),(∀ b o,s.heap.get? b=some o->h'.get? b=some o)->s.toks<=tk->Q (es.toList.map (·.key)) { s with heap:=h',toks:=tk }):Ht (model prog w) A (collect (.ref d)) Q E s:=by
 unfold collect;refine gV (wpAny_runValue (Mx F.entry_proto_collect ?_));unfold JZ.«proto.collect»;dsimp only;refine gV (Nx ?_ (by simp))
 refine r4 ⟨Code.quiet_builtin _ (by decide +kernel), ?_⟩
 refine Mx entry_list_iadd' ?_;unfold JZ.«list.__iadd__»;refine gV (Kv (a:=(Ii s.heap.objs.size,[Ii d])) (by kernel_rfl) ?_)
 have z:(s.heap.push { cls:=IZ "list",data:=Mp [].toArray }).get? s.heap.objs.size=some { cls:=IZ "list",data:=Mp #[] 0 }:=Hm _ rfl;rw [Pp (by rfl) (by rfl)]
 refine Jy (yA (s := { s with heap:=s.heap.push { cls:=IZ "list",data:=Mp [].toArray } }) (R:=fun r s'=>r = .ok (.ret (.ref s.heap.objs.size))/\Ht (model prog w) A (do
  let o <- load s.heap.objs.size
  match o.data with
  | .seq xs _=>pure xs.toList
  | _=>unsupported "internal:collect") Q E s') L (Ii s.heap.objs.size) j (h7 _ hd) z O fun h' tk acc c' kp B U G=>⟨rfl, ?_⟩) (fun fn s' h => ?_) (fun e s' h => ?_)
 ·refine gV (wpAny_load B ?_);refine r4 ?_;rw [U];exact q h' tk (fun b o e=>kp b o (HV (Hq e)) (h7 _ e)) G
 ·cases fn with
  | done f =>
    obtain ⟨e,h⟩:=h
    cases e
    exact h
  | again c' =>
    refine ⟨h.1,LC h.2 fun r s1 J => ?_⟩;obtain ⟨rfl,J⟩:=J;exact J
 ·cases h.1
end
end Dk
end L2
namespace L2
namespace Mi
open PySem PySem.Spec PyProof.Rows L2.Srt
noncomputable def pA:RAd:=fun ds M Q => ∃ a t kvs sh,ds=[.ref a]/\M a=some (.dct t kvs)/\j9 sh=true/\(∀ kv∈kvs,hs sh kv.1=true) /\ ∀ p ys,M p=none->ys.Perm (kvs.map (·.1))->lf ys->Q (.ref p) (ag M p (.lst ys))
theorem kl:bh pA:=fun _ _ _ _ h ⟨a,t,kvs,sh,e,e1,e2,j,q⟩=>⟨a,t,kvs,sh,e,e1,e2,j,fun p ys n z hs=>h _ _ (q p ys n z hs)⟩
theorem rh {K:Frag} {H:Hp}:∀ {kvs:List (D×D)} {es:List JS},Ig (lg K H) kvs es -> ∃ vs,RDs K H (kvs.map (·.1)) vs/\Vals vs (es.map (·.key))
 | _,_, .nil=>⟨[],RDs.nil, .nil⟩
 | _,_, .cons r t=>by
   obtain ⟨vs,h1,h2⟩:=rh t;obtain ⟨kV,vV,g1,g2,_,_⟩:=r;exact ⟨kV::vs,RDs.cons g1 h1, .cons g2 h2⟩
section
variable {X:Cx}
theorem pB (L:X.A.units+16 < K1) (O:X.calm=true):CallR X (.builtin "sorted") (lR X.K pA):=by
 intro pins s σ H xs us Q I r h;obtain ⟨ds,M,rm,rs,a,t,kvs,sh,rfl,e,hok,j,q⟩:=h;obtain ⟨v,rfl,rv⟩:=rs.one;obtain ⟨u,rfl,ru⟩:=dL r
 cases Ri.mp rv
 cases (show u=Ii a from ru)
 obtain ⟨cd,dd,sl,es,ep,hd,U,z,Y⟩:=B5 I rm e;obtain ⟨t1,t2,B⟩:=jD I Y;obtain ⟨vs,h1,h2⟩:=rh z;have F:cd = .type "dict" := by
  obtain ⟨o,g1,g2⟩:=t1;rw [hd] at g1;cases g1;exact g2
 subst F;have Z:X.A.in1.handled=none:=I.ok.hd O;exact qE (cap:=Hj) sZ L I rm h1 hok (fun d hd=>by
  obtain ⟨kv,G,rfl⟩:=HF.mp hd;exact j kv G) q h2 (by have:=h2.length;rw [q7] at this;simp at this;lia) (by have:=h2.length;rw [q7] at this;simp at this;lia) fun E R hR=>Dk.collect_dict Z B hd U fun h' tk kp J=>hR h' tk kp J
end
end Mi
end L2
namespace L2
open PySem PySem.Spec PyProof.Rows
section
section
variable {X:Cx} {pins:List (Addr×Obj)} {σ:St} {H:Hp} {s:hI}
theorem Ba {x:V} {u:h6} {t:String} (I:Inv X pins σ H s) (rx:RelV x u) (ty:cC X.K H x (.type t)):∃ P,PySem.W.KitX X.K u (.type t) P/\P s.heap/\u≠Value.builtin "__main__.__loader__#opaque" := by
 generalize j:IZ t=T at ty
 cases ty with
 | non=>cases (show u=Ke from rx);exact ⟨_,Py,Ji,fun z=>nomatch z⟩
 | bl y=>cases (show u=NU y from rx);exact ⟨_,Pz,Ji,fun z=>nomatch z⟩
 | int i=>obtain ⟨t,rfl⟩:=(show ∃ t,u=OR i t from rx);exact ⟨_,Q7,Ji,fun z=>nomatch z⟩
 | str y=>obtain ⟨t,rfl⟩:=(show ∃ t,u=OS y t from rx);exact ⟨_,Q8,Ji,fun z=>nomatch z⟩
 | flt y=>obtain ⟨t,rfl⟩:=(show ∃ t,u=Qv y t from rx);exact ⟨_,Pe,Ji,fun z=>nomatch z⟩
 | @lst a xs ea =>
  cases (show u=Ii a from rx)
  obtain ⟨_,_,n,_,h1⟩:=(show ObjOk X.prog X.w H s.heap a (.lst xs) from I.hok a _ ea);exact ⟨_,Lz,⟨_,h1,rfl⟩,fun z=>nomatch z⟩
 | @frz a ob xs ea =>
  cases (show u=Ii a from rx)
  obtain ⟨_,_,_,n,_,h1⟩:=(show ObjOk X.prog X.w H s.heap a (.frz ob (.lst xs)) from I.hok a _ ea);exact ⟨_,Lz,⟨_,h1,rfl⟩,fun z=>nomatch z⟩
 | @tup a xs ea =>
  cases (show u=Ii a from rx)
  obtain ⟨_,_,⟨o,h1,h2,_⟩,_⟩:=I.tuple ea;exact ⟨_,Pf,⟨o,h1,h2⟩,fun z=>nomatch z⟩
 | @dK a kvs ea =>
  cases (show u=Ii a from rx)
  obtain ⟨_,_,vs,_,o,es,ep,h1,h2,_⟩:=(show ObjOk X.prog X.w H s.heap a (.dK kvs) from I.hok a _ ea);exact ⟨_,LA,⟨o,h1,h2.1⟩,fun z=>nomatch z⟩
 | @dT a kvs ea =>
  cases (show u=Ii a from rx)
  obtain ⟨_,_,xs,_,o,es,ep,h1,h2,_⟩:=(show ObjOk X.prog X.w H s.heap a (.dT kvs) from I.hok a _ ea);exact ⟨_,LA,⟨o,h1,h2.1⟩,fun z=>nomatch z⟩
 | ins=>cases j
end
namespace Mi
section
variable {X:Cx}
theorem Bb (K:Frag) {T U:String} (q:T∈["bool", "int", "str", "tuple", "list", "dict"]) (z:U∈["bool", "int", "str", "tuple", "list", "dict"]) {t:String} (j:t∈cP):OM K (.type t) [.type T, .type U]=some (eI T t || eI U t):=by
 have h1:=kT K T q t j;have h2:=kT K U z t j;unfold OM;rw [h1]
 cases e1:eI T t with
 | true=>rfl
 | false =>
   dsimp only;unfold OM;rw [h2]
   cases eI U t <;> rfl
theorem tj {T U:String} (z:T∈["bool", "int", "str", "tuple", "list", "dict"]) (B:U∈["bool", "int", "str", "tuple", "list", "dict"]):CallR X (.builtin "isinstance") (fun vs H Q => ∃ v t p,vs=[v, .ref p]/\H p=some (.tup [.ty T, .ty U])/\cC X.K H v (.type t)/\t∈cP/\Q (.bl (eI T t || eI U t)) H):=by
 intro pins s σ H xs us Q I r h;obtain ⟨v,t,p,rfl,F,ty,G,q⟩:=h;obtain ⟨u,c,rfl,ru,rc⟩:=nh r
 cases (show c=Ii p from rc)
 obtain ⟨P,g1,g2,g3⟩:=Ba I ru ty;obtain ⟨_,its,rv,⟨cls,dd,dat,sl⟩,h1,h2,n,j⟩:=(show ObjOk X.prog X.w H s.heap p (.tup [.ty T, .ty U]) from I.hok p _ F);dsimp only at h2 j;subst h2 j
 cases rv with
 | cons J rv =>
 cases rv with
 | cons L rv =>
 cases rv
 cases J
 cases L
 exact PySem.W.kia_tup g1 I.kIn g2 h1 (Bb X.K z B G) g3 fun tk=>⟨.bl _,H,I.tok tk,rfl,q⟩
noncomputable def gL (T U:String) (ta:TEd):TEd:=fun ρ M Q=>ta ρ M fun x M1 => ∃ t,tyN M1 x=some t/\Q (.bl (eI T t || eI U t)) M1
theorem tu {T U:String} {ta:TEd} (h:ae ta):ae (gL T U ta):=fun ρ M Q Q' i q=>h _ _ _ _ (fun x z ⟨t,e,j⟩=>⟨t,e,i _ _ j⟩) q
theorem yB {e:Expr} {ta:TEd} {T U:String} {y z:Str} {k:Nat} {p p2 j G pos:Pos} (hT:T∈["bool", "int", "str", "tuple", "list", "dict"]) (hU:U∈["bool", "int", "str", "tuple", "list", "dict"]) (m:ae ta) (he:PE X e (lE X.K ta)) (hg:Gl X "isinstance") (hm:X.mg "isinstance" = none)
 (J:Gl X y) (L:X.mg y=none) (hv:JO y=some (.type T)) (hn:y ≠ "__name__") (O:(y==("__debug__":Str))=false)
 (Y:Gl X z) (Z:X.mg z=none) (F5:JO z=some (.type U)) (F6:z ≠ "__name__") (B:(z==("__debug__":Str))=false)
 (hs:HP [e, .Tuple [.Name y p2, .Name z j] k G] X.env=(false,eval e X.env)::HP [.Tuple [.Name y p2, .Name z j] k G] X.env) :
 PE X (.Call (.Name "isinstance" p) [e, .Tuple [.Name y p2, .Name z j] k G] [] pos) (lE X.K (gL T U ta)):=by
 have h2:PE X (.Name y p2) (tC (.ty T)):=kG J L hv rfl hn O;have h3:PE X (.Name z j) (tC (.ty U)):=kG Y Z F5 rfl F6 B;have h4:PE X (.Tuple [.Name y p2, .Name z j] k G) _:=uw (df h2 (df h3 jy rfl) rfl);refine PE.imp (cn (tj hT hU) hg hm (by decide +kernel) (df he (df h4 jy rfl) hs) (by decide) (by decide) hs rfl) fun σ H Q h => ?_
 obtain ⟨ρ,M,rs,rm,q⟩:=h;refine ⟨ρ,M,rs,rm,m _ _ _ _ (fun x M1 ⟨t,e,q1⟩ v H1 x1 rm1 F7 => ?_) q⟩;refine ⟨by simp;decide,fun pp n => ?_⟩
 have st:=(Rr (M:=M1) (ho := .tup [.ty T, .ty U]) n).stab rm1;have F:=rm1.new (ho := .tup [.ty T, .ty U]) n;exact ⟨v,t,pp,rfl,az,zK F (F7.mono st) e,qU e,q1 _ _ (x1.trans (Rr n)) F (Rk.mpr rfl)⟩
end
end Mi
end
section
section
variable {X:Cx} {pins:List (Addr×Obj)} {σ:St} {H:Hp} {s:hI}
theorem Inv.freeze (I:Inv X pins σ H s) {a:Addr} {ps:List (List Key×V)} (e:H a=some (.dT ps)):∃ o,Inv X pins σ (upd H a (.frz o (.dT ps))) s:=by
 obtain ⟨B,j,xs,pr,o,es,ep,h1,h2,F,G,J⟩:=id (I.hok a _ e);have mu:Mut (H a):=by rw [e];exact Ji
 have u:Un X.fs [] H (upd H a (.frz o (.dT ps))) s.heap s.heap:=Un.write mu (.inl rfl) (fun b u _ q=>q) ⟨_,h1⟩;have ok:HOk X.prog X.w (upd H a (.frz o (.dT ps))) s.heap:=HOk.write I.hok mu (.inl rfl) (fun b u _ q=>q) ⟨_,h1⟩
  ⟨h1,(I.hok a _ e).stay (fun b u _ q=>q) (fun b q=>by rw [am (fun z=>by subst z;rw [e] at q;cases q)];exact q) (fun b xs q=>by rw [am (fun z=>by subst z;rw [e] at q;cases q)];exact q)⟩
 exact ⟨o,I.un (t':=s.toks) u ok⟩
end
noncomputable def Itk (n:Nat) (G:Hp->Prop) (yl:Nat->V->Hp->Prop):It:=⟨fun i H=>i < n/\G H,fun i H x H'=>H'=H/\yl i x H,fun i H=>n<=i/\G H⟩
theorem vN {P:HK} {w:Ie} {K:Frag} {tg:Expr} (a it:Addr) {cd:h6} {dd:Option Addr} {sl:Array (Option h6)} {es:Array JS} {ep:Nat} {G:Hp->Prop} {yl:Nat->V->Hp->Prop}
 (U:∀ H,G H -> ∃ u,H a=some (.frz { cls:=cd,dict:=dd,data := .dict es ep,slots:=sl } u)) (Z:∀ i H h,HOk P w H h->G H -> ∀ e,es[i]? = some e -> ∃ x,RelV x e.key/\yl i x H) :
 gn P w K tg (Itk es.size G yl) [it] it (fun i h=>i<=es.size/\h.get? it=some (Dk.kO a i es.size ep)) where
 mem:=by simp
 obj:=fun i h st b q=>by
  have e:b=it:=by simpa using q
  subst e;exact ⟨_,st.2,fun v z=>by cases z⟩
 keep:=fun i h h' st k=>⟨st.1,k it (by simp) _ st.2⟩
 item:=by
  intro X B hw F Y i pins s σ H E I hf st j;subst B hw F;obtain ⟨hi,j⟩:=j;obtain ⟨u,J⟩:=U H j;obtain ⟨f0,f1,f2,L,f4,O⟩:=hf it (by simp)
  obtain ⟨x,rx,yx⟩:=Z i H s.heap I.hok j es[i] (HY hi);refine Dk.nx_item (e:=es[i]) st.2 (I.hok a _ J).1 (HY hi) fun h' st' sb => ?_;have I1:Inv X pins σ H { s with heap:=h' }:=I.turned (t':=s.toks) (fun b o q e=>(sb.2 b q).trans e) f0 f1 L f4 O
  exact ⟨_,rfl,ng (s := { s with heap:=h' }) (n := "dict_keyiterator") st' rfl rfl (by decide) ⟨x,H,I1,rx,⟨rfl,yx⟩,⟨hi,st'⟩,fun b q=>(hf b q).1⟩⟩
 done:=by
  intro X B hw F Y i pins s σ H E I hf st j;subst B hw F;obtain ⟨hi,j⟩:=j;obtain ⟨u,J⟩:=U H j;obtain ⟨f0,f1,f2,L,f4,O⟩:=hf it (by simp)
  have e:i=es.size:=by have:=st.1;lia
  subst e;exact Dk.nx_end (I.ok.hd Y) st.2 (I.hok a _ J).1 fun h' k=>⟨rfl,I.turned (t':=s.toks) (fun b o q e=>k b o q e) f0 f1 L f4 O⟩
 self:=fun A i s Q E st h=>OL ⟨_,st.2,rfl,rfl⟩ h
namespace Mi
section
variable {X:Cx}
noncomputable def tw (i:Nat) (t:TSd):TSd:=fun A ρ M => ∃ a kvs, ρ[i]? = some (some (.ref a))/\((M a=some (.dct true kvs)/\t A ρ (ag M a (.fdc kvs)))∨(M a=some (.fdc kvs)/\t A ρ M))
theorem yC {i:Nat} {t:TSd} (h:aK t):aK (tw i t):=fun a b ρ M l ⟨p,kvs,e,q⟩=>⟨p,kvs,e,q.imp (fun q=>⟨q.1,h _ _ _ _ l q.2⟩) fun q=>⟨q.1,h _ _ _ _ l q.2⟩⟩
theorem D3 {st:Stmt} {i:Nat} {t:TSd} (h:PS X st (lS X.K t)):PS X st (lS X.K (tw i t)):=by
 intro pins s σ H D I ⟨ρ,M,A,rs,rm,lk,a,kvs,e,q⟩
 rcases q with ⟨m,q⟩ | ⟨m,q⟩
 ·obtain ⟨ps,j,pr⟩:=rm a _ m;obtain ⟨o,I'⟩:=I.freeze j;have sb:Stab H (upd H a (.frz o (.dT ps))):=rm.stabPut m;exact h pins s σ _ D I' ⟨ρ,ag M a (.fdc kvs),A,rs.mono sb,rm.put m ⟨o,ps,az,Rl pr fun _ _ z=>⟨z.1,z.2.mono sb⟩⟩,lk.ext (Ext.put m),q⟩
 ·exact h pins s σ H D I ⟨ρ,M,A,rs,rm,lk,q⟩
noncomputable def km (ta:TEd):TId:=fun ρ M R=>ta ρ M fun x M1 => ∃ a kvs,x = .ref a/\M1 a=some (.fdc kvs)/\R (kvs.map (·.1)) (fun _=>True) M1
theorem vO {ta:TEd} (h:ae ta):cH (km ta):=fun ρ M Q Q' i q=>h _ _ _ _ (fun x z ⟨a,ds,e,e1,j⟩=>⟨a,ds,e,e1,i _ _ _ j⟩) q
theorem rj {K:Frag} {H:Hp}:∀ {kvs:List (D×D)} {es:List JS},Ig (lg K H) kvs es -> ∀ (i:Nat) (e:JS),es[i]? = some e -> ∃ (kv:D×D) (v:V),kvs[i]? = some kv/\RD K H kv.1 v/\RelV v e.key
 | _,_, .nil,_,_,h=>by simp at h
 | _,_, .cons r t,0,_,h=>by
   simp at h;subst h;obtain ⟨kV,vV,g1,g2,_,_⟩:=r;exact ⟨_,kV,rfl,g1,g2⟩
 | _,_, .cons _ t,i+1,e,h=>by
   obtain ⟨kv,v,h1,h2⟩:=rj t i e (by simpa using h)
   exact ⟨kv,v,by simpa using h1,h2⟩
theorem Bc {tg e:Expr} {ta:TEd} (m:ae ta) (he:PE X e (lE X.K ta)):PI X tg e (lI X.K (km ta)):=by
 intro pins s σ H R I h;obtain ⟨ρ,M,rs,rm,q⟩:=h;have hq:lE X.K ta σ H (fun v H1 => ∃ a kvs B,v = .ref a/\Ext M H B H1/\RM X.K B H1/\B a=some (.fdc kvs) /\ ∀ J,gD X.K H1 (kvs.map (·.1)) (fun _=>True) J->R J H1) :=
  ⟨ρ,M,rs,rm,m _ _ _ _ (fun x B ⟨a,kvs,e,e1,O⟩ v H1 U j rd1=>by
    subst e
    cases Ri.mp rd1
    exact ⟨a,kvs,B,rfl,U,j,e1,fun J ij=>O J H1 U j ij⟩) q⟩
 refine thn (he pins s σ H _ I hq) fun u s1 ⟨x,H1,F,r1,a,kvs,B,e0,U,j,e1,O⟩ => ?_;subst e0
 cases r1
 obtain ⟨o,ps,Y,pr⟩:=j _ _ e1;obtain ⟨Z,ok⟩:=F.hok a _ Y;obtain ⟨cd,dd,sl,es,ep,g1,g2,g3⟩:=oZ ok pr;obtain ⟨ty,_,F5⟩:=jD F (.inr ⟨ps, .inr ⟨o,Y⟩⟩);rw [Z] at g1
 cases g1
 have F6:cd = .type "dict" := by
  obtain ⟨o,h1,h2⟩:=ty;rw [Z] at h1;cases h1;exact h2
 subst F6;have lz:kvs.length=es.size:=by have:=bp g3;simpa using this
 refine Dk.it_dict F5 Z ?_;refine ⟨s1.heap.objs.size,[s1.heap.objs.size],_,_,H1,rfl,F.kept (t':=s1.toks) fun b o e=>h7 _ e,vN (G:=fun H=>H a=some (.frz { cls := .type "dict",dict:=dd,data := .dict es ep,slots:=sl } (.dT ps))/\Ig (fun (p:D×D) (q:List Key×V)=>RKeys p.1 q.1/\RD X.K H p.2 q.2) kvs ps) (yl:=fun i x H => ∃ kv,kvs[i]? = some kv/\RD X.K H kv.1 x) a _ (fun H h=>⟨_,h.1⟩) (fun i H h hok ⟨ha,pr'⟩ e he => ?_),⟨Jn _,Hm _ rfl⟩,fun b hb => ?_,O _ ?_⟩
 ·obtain ⟨z0,ok'⟩:=hok a _ ha;obtain ⟨cd,dd,sl',es',ep',z1,_,z3⟩:=oZ ok' pr';rw [z0] at z1
  cases z1
  obtain ⟨kv,v,y1,y2,y3⟩:=rj z3 i e (by simpa using he)
  exact ⟨v,y3,kv,y1,y2⟩
 ·have e:b=s1.heap.objs.size:=by simpa using hb
  subst e;exact F.fpOk (Hr _) (F.hok.fresh (Hr _))
 ·intro M' H' st rm' _ i;have L:=st.frz _ _ _ Y;have pr':Ig (fun (p:D×D) (q:List Key×V)=>RKeys p.1 q.1/\RD X.K H' p.2 q.2) kvs ps:=Rl pr fun _ _ z=>⟨z.1,z.2.mono st⟩;rw [q7,lz];refine ⟨fun hi=>⟨hi,L,pr'⟩,fun hi=>⟨⟨hi,L,pr'⟩,fun x H'' y => ?_⟩⟩;obtain ⟨e,kv,y1,y2⟩:=y;subst e;exact ⟨.inl rfl,kv.1,by rw [HM,y1];rfl,y2⟩
end
end Mi
end
section
section
variable {prog:HK} {w:Ie} {K:Type} [DecidableEq K] {knd:HeapKind prog w K} {A:Io} {E:h6->hI->Prop} {s:hI}
noncomputable def dH (ev:h6->h6->Bool) (xb:List (K×Addr×h6)) (x:K×Addr×h6):Bool:=match Ow xb x.1 with
 | some p=>ev x.2.2 p.2
 | none=>false
theorem D4 {nm:String} {a b:Addr} {xa xb:List (K×Addr×h6)} {ev:h6->h6->Bool} {Q:Bool->hI->Prop} (hu:knd.room A) (ha:(a==IQ)=false) (hb:(b==IQ)=false)
 (da:s.heap.DictOfH knd a xa) (db:s.heap.DictOfH knd b xb) (Fa:∀ x∈xa, ∀ y∈xb,Ph A s x.2.2 y.2.2 (ev x.2.2 y.2.2)) (h:Q (xa.length==xb.length&&xa.all (dH ev xb)) s) :
 Ht (model prog w) A (O8 nm a b) Q E s:=by
 obtain ⟨oa,es,ep,F,_,G,F7,Fb,Fh⟩:=da;obtain ⟨ob,es',ep',L,_,O,U,Fc,F8⟩:=db;have Y:xa.length=es.size:=(size_of_entries F7).symm;have Fd:xb.length=es'.size:=(size_of_entries U).symm;rw [Y,Fd] at h;unfold O8 Builtin.Dict.showsAll;rw [if_neg (show ¬ (a==IQ)=true by rw [ha];exact Hi),if_neg (show ¬ (b==IQ)=true by rw [hb];exact Hi)]
 refine gV (r4 (gV (r4 ?_)));refine gV (LO F G ?_);dsimp only;refine gV (LO L O ?_)
 by_cases hsz:es.size=es'.size
 case neg =>
  rw [if_pos (by simpa using hsz)]
  have Fe:(es.size==es'.size)=false:=by simpa using hsz
  rw [Fe,MX] at h;exact gV (Jq (r4 h))
 case pos =>
  have h':Q (xa.all (dH ev xb)) s:=by simpa [hsz] using h
  rw [if_neg (by rw [hsz];simp)]
  refine gV (wpAny_dictEpoch F G ?_);refine gV ?_;rw [Std.Legacy.Range.forIn_eq_forIn_range'];simp only [Std.Legacy.Range.size,Nat.sub_zero,Po,Nat.div_one];refine wpAny_forIn_list _
   (fun rest q s'=>s'=s/\q=(none,()) /\ ∃ i,rest=List.range' i (es.size - i)/\i<=es.size/\xa.all (dH ev xb)=(xa.drop i).all (dH ev xb))
   _ ?_ ?_ _ _ ⟨rfl,rfl,0,by simp,Jn _,by simp⟩
  ·rintro x rest q s' ⟨rfl,rfl,i,Z,hi,z⟩;have F9:i < es.size:=by
    rcases Nat.lt_or_ge i es.size with h | h
    ·exact h
    ·rw [Nat.sub_eq_zero_of_le h] at Z;simp at Z
   obtain ⟨rfl,F5⟩:x=i/\rest=List.range' (i+1) (es.size - (i+1)):=by
    have e:es.size - i=(es.size - (i+1))+1:=by lia
    rw [e,Qp] at Z
    injection Z with h1 h2
    exact ⟨h1,h2⟩
   have B:x < xa.length:=by rw [Y];exact F9
   refine gV (LO F G ?_);rw [entry_at F7 x,z4 B];have F6:xa.drop x=xa[x]::xa.drop (x+1):=IG B;have J:xa[x]∈xa:=Mg B;rw [F6,JB] at z;show Ht _ _ (holding [_,_] _ >>= _) _ _ _;refine gV (I8 (gV (wpAny_dictFind_heap (k:=xa[x].1) (a:=xa[x].2.1) hu (Fb _ J) L O U Fc F8 (fun Ff => ?_) (fun j p hj => ?_))))
   ·have hn:dH ev xb xa[x]=false:=by unfold dH;rw [atKey_none_of_get Ff]
    rw [z,hn,MX] at h';refine r4 ?_;show Ht _ _ (if (!false)=true then _ else _) _ _ _
    rw [if_pos (by decide)]
    exact r4 (r4 h')
   ·have hn:dH ev xb xa[x]=ev xa[x].2.2 p.2:=by unfold dH;rw [atKey_of_get F8 hj]
    refine gV (LO L O ?_);rw [entry_at U j,hj];refine I8 (Fa _ J _ (HH hj) prog w _ _ ?_);show Ht _ _ (if (!(ev xa[x].2.2 p.2))=true then _ else _) _ _ _
    rw [hn] at z
    cases e:ev xa[x].2.2 p.2 with
    | false =>
      rw [e,MX] at z;rw [z] at h';rw [if_pos (by decide)]
      exact r4 (r4 h')
    | true =>
      rw [e,Bool.true_and] at z;rw [if_neg (by decide)]
      refine gV (wpAny_dictEpoch F G ?_);rw [if_neg (by simp)]
      exact r4 ⟨rfl,rfl,x+1,F5,F9,z⟩
  ·rintro q s' ⟨rfl,rfl,i,Z,hi,z⟩;have Fg:i=es.size:=by
    rcases Nat.lt_or_ge i es.size with h | h
    ·have e:es.size - i=(es.size - (i+1))+1:=by lia
     rw [e,Qp] at Z;exact nomatch Z
    ·exact Nat.le_antisymm hi h
   refine r4 ?_;rw [Fg, <- Y,NN] at z;rw [z] at h';exact h'
theorem Ed {a b:Addr} {xa xb:List (K×Addr×h6)} {ev:h6->h6->Bool} {Q:h6->hI->Prop} (q:A.units < K1) (z:knd.room A.in1) (B:(a==IQ)=false) (G:(b==IQ)=false)
 (da:s.heap.DictOfH knd a xa) (db:s.heap.DictOfH knd b xb) (j:∀ x∈xa, ∀ y∈xb,Ph A.in1 s x.2.2 y.2.2 (ev x.2.2 y.2.2)) (h:Q (.bool (xa.length==xb.length&&xa.all (dH ev xb))) s) :
 Ht (model prog w) A (Jm .Eq (.ref a) (.ref b)) Q E s:=by
 refine MP (op := .Eq) da.typeIs db.typeIs ON (Iq ON da.typeIs PySem.F.entry_dict_eq ?_ (PySem.F.args_dict_eq_2 _ _)) q;show Ht _ _ (Nj "__eq__" ⟨[.ref a, .ref b],[]⟩ >>= _) _ _ s;refine gV ?_;unfold Nj;refine gV (wpAny_notOrdered_dict da.typeIs ?_);show Ht _ _ (pure (Ii a,Ii b)) _ _ s;refine r4 ?_;refine gV (JU (T := "dict") db.typeIs PySem.F.sub_dict_dict ?_);simp only [Bool.not_true,IT,if_false];refine gV (r4 (gV (r4 ?_)));refine gV (D4 z B G da db j ?_);refine r4 ⟨_,rfl, ?_, ?_⟩
 ·exact fun x=>nomatch x
 ·simpa using h
end
namespace Mi
section
variable {X:Cx}
def dI (M:Mem) (a:Addr) (kvs:List (D×D)):Prop:=(M a=some (.dct true kvs)∨M a=some (.fdc kvs)) /\ ∀ kv∈kvs, ∃ i,kv.2 = .int i
noncomputable def eqD (ps qs:List (D×D)):Bool:=ps.length==qs.length&&ps.all fun kv=>decide (dget qs kv.1=some kv.2)
noncomputable def yD:R2d:=fun x y M Q => ∃ a b ps qs,x = .ref a/\y = .ref b/\dI M a ps/\dI M b qs/\Q (.bl (eqD ps qs)) M
theorem yE:be yD:=fun _ _ _ _ _ h ⟨a,b,ps,qs,e1,e2,j,z,q⟩=>⟨a,b,ps,qs,e1,e2,j,z,h _ _ q⟩
noncomputable def evI:h6->h6->Bool
 | .int i _, .int j _=>i==j
 | _,_=>false
theorem dI.at {K:Frag} {M:Mem} {H:Hp} {a:Addr} {kvs:List (D×D)} (rm:RM K M H) (h:dI M a kvs):∃ ps,Rd H a (.dT ps)/\Ig (fun (p:D×D) (q:List Key×V)=>RKeys p.1 q.1/\RD K H p.2 q.2) kvs ps:=by
 rcases h.1 with e | e
 ·obtain ⟨ps,j,pr⟩:=rm a _ e;exact ⟨ps, .inl j,pr⟩
 ·obtain ⟨o,ps,j,pr⟩:=rm a _ e;exact ⟨ps, .inr ⟨o,j⟩,pr⟩
theorem pC {K:Frag} {H:Hp} {kvs:List (D×D)} {ps:List (List Key×V)} {xs:List (List Key×Addr×h6)} (pr:Ig (fun (p:D×D) (q:List Key×V)=>RKeys p.1 q.1/\RD K H p.2 q.2) kvs ps) (kt:KT H ps xs) (hi:∀ kv∈kvs, ∃ i,kv.2 = .int i):∀ x∈xs, ∃ i t,x.2.2 = .int i t:=by
 induction pr generalizing xs with
 | nil=>cases kt;intro x hx;exact nomatch hx
 | @cons p q ps qs h t ih =>
  cases kt with
  | cons g gt =>
    intro x hx
    rcases Ho.mp hx with e | hx
    ·subst e;obtain ⟨i,ei⟩:=hi p (by simp)
     have:=h.2;rw [ei] at this;have z:=g.2.2;rw [Rh.mp this] at z;obtain ⟨t,B⟩:=z;exact ⟨i,t,B⟩
    ·exact ih gt (fun kv j=>hi kv (by simp [j])) x hx
theorem D5 {K:Frag} {H:Hp} {kvs:List (D×D)} {ps:List (List Key×V)} {xs:List (List Key×Addr×h6)} (pr:Ig (fun (p:D×D) (q:List Key×V)=>RKeys p.1 q.1/\RD K H p.2 q.2) kvs ps) (kt:KT H ps xs) (hi:∀ kv∈kvs, ∃ i,kv.2 = .int i)
 {k:D} {q:List Key} (G:RKeys k q) (i:Int) (t:Tok) (b:Addr):dH evI xs (q,b, .int i t)=decide (dget kvs k=some (.int i)):=by
 obtain ⟨g1,g2⟩:=fQ (RK:=RKeys) RKeys.inj RKeys.fun G pr;have B:=KT.val kt q;unfold dH;dsimp only
 cases e:dget kvs k with
 | none =>
   rw [g2 e] at B
   cases z:Ow xs q with
   | none=>simp
   | some p=>rw [z] at B;exact B.elim
 | some d =>
   obtain ⟨v,e1,e2⟩:=g1 d e;rw [e1] at B
   cases z:Ow xs q with
   | none=>rw [z] at B;exact B.elim
   | some p =>
     rw [z] at B;obtain ⟨j,ej⟩:∃ j,d = .int j:=by
      unfold dget at e;obtain ⟨kv,h1,h2⟩:=KI.mp e;obtain ⟨j,J⟩:=hi kv (List.mem_of_find?_eq_some h1);exact ⟨j,by rw [<- h2];exact J⟩
     subst ej
     cases Rh.mp e2
     obtain ⟨t',L⟩:∃ t',p.2 = .int j t':=B;dsimp only;rw [L];show (i==j)=decide (some (D.int j)=some (D.int i))
     by_cases hij:i=j
     ·subst hij;simp
     ·have F : ¬ j=i:=fun z=>hij z.symm;simp [hij,F]
theorem D6 {K:Frag} {H:Hp} {kvs ls:List (D×D)} {ps us:List (List Key×V)} {xs ys:List (List Key×Addr×h6)} (pr:Ig (fun (p:D×D) (q:List Key×V)=>RKeys p.1 q.1/\RD K H p.2 q.2) kvs ps) (kt:KT H ps xs) (hi:∀ kv∈kvs, ∃ i,kv.2 = .int i)
 (pr':Ig (fun (p:D×D) (q:List Key×V)=>RKeys p.1 q.1/\RD K H p.2 q.2) ls us) (kt':KT H us ys) (j:∀ kv∈ls, ∃ i,kv.2 = .int i) :
 (xs.length==ys.length&&xs.all (dH evI ys))=eqD kvs ls:=by
 have l1:xs.length=kvs.length:=by rw [bp pr,bp kt]
 have l2:ys.length=ls.length:=by rw [bp pr',bp kt']
 unfold eqD;rw [l1,l2];congr 1;clear l1 l2
 induction pr generalizing xs with
 | nil=>cases kt;rfl
 | @cons p q ps qs h t ih =>
  cases kt with
  | @cons _ x _ xs g gt =>
   rw [JB,JB,ih gt (fun kv B=>hi kv (by simp [B]))]
   congr 1;obtain ⟨i,ei⟩:=hi p (by simp)
   have:=h.2;rw [ei] at this;have z:=g.2.2;rw [Rh.mp this] at z;obtain ⟨t,F⟩:∃ t',x.2.2 = .int i t':=z;obtain ⟨J,G,L⟩:=x;dsimp only at F g;subst F;rw [ei, <- g.1];exact D5 pr' kt' j h.1 i t G
theorem yF {pins:List (Addr×Obj)} {σ:St} {H:Hp} {s:hI} {M:Mem} {A:Io} {E:h6->hI->Prop} {Q:h6->hI->Prop} {ps qs:List (D×D)} {a b:Addr} (J:A.units+2 < K1) (I:Inv X pins σ H s) (rm:RM X.K M H) (h1:dI M a ps) (h2:dI M b qs) (h:Q (.bool (eqD ps qs)) s):Ht (model X.prog X.w) A (Jm .Eq (.ref a) (.ref b)) Q E s:=by
 obtain ⟨us,z,pr⟩:=h1.at rm;obtain ⟨vs,q,pr'⟩:=h2.at rm;obtain ⟨_,sm,xs,kt,dd⟩:=i3 I.hok z;obtain ⟨_,sm',ys,kt',dd'⟩:=i3 I.hok q;have B:=pC pr kt h1.2;have F:=pC pr' kt' h2.2;refine Ed (ev:=evI) (by lia) (KJ (by lia)) sm sm' dd dd' (fun x hx y G => ?_) (by rw [D6 pr kt h1.2 pr' kt' h2.2];exact h)
 obtain ⟨i,t,e⟩:=B x hx;obtain ⟨j,u,e'⟩:=F y G;rw [e,e'];exact Pj i t j u
theorem yG (j:X.A.units+2 < K1):OpR X (Jm .Eq) (l2 X.K yD):=by
 intro pins s σ H x y v u Q I rx ry h;obtain ⟨x',y',M,rm,rdx,rdy,a,b,ps,qs,rfl,rfl,h1,h2,q⟩:=h
 cases Ri.mp rdx
 cases Ri.mp rdy
 cases rx
 cases ry
 exact yF j I rm h1 h2 ⟨.bl (eqD ps qs),H,I,rfl,q _ H Ext.refl rm (Rk.mpr rfl)⟩
end
end Mi
end
section
section
variable {X:Cx}
noncomputable def rl:V->List V->Hp->VK->Prop:=fun x vs H Q => ∃ (l:Addr) (xs:List V) (i:Int) (y:V),x = .ref l/\vs=[.int i,y]/\H l=some (.lst xs)/\0<=i/\i.toNat<=xs.length/\xs.length < Hj/\Q .non (upd H l (.lst (xs.take i.toNat++y::xs.drop i.toNat)))
theorem RA:∀ {xs:List V} {us:List h6} (n:Nat),Vals xs us->Vals (xs.take n) (us.take n)
 | _,_,0,_=>by simp only [List.take_zero];exact .nil
 | _,_,_+1, .nil => .nil
 | _,_,n+1, .cons r t => .cons r (RA n t)
theorem RC:∀ {xs:List V} {us:List h6} (n:Nat),Vals xs us->Vals (xs.drop n) (us.drop n)
 | _,_,0,r=>r
 | _,_,_+1, .nil => .nil
 | _,_,n+1, .cons _ t=>RC n t
theorem vP:MtM X "list.insert" rl:=by
 intro pins s σ H x vs v us Q I rx rv h;obtain ⟨l,xs,i,y,rfl,rfl,G,h0,L,J,q⟩:=h
 cases rx
 obtain ⟨u,j,rfl,ru,B⟩:=nh rv;obtain ⟨t,rfl⟩:=ru;obtain ⟨z,its,n,r,O,e⟩:=I.lstM G;have hf : ¬(!Builtin.List.listFitsIndex i)=true:=by
  have:Nc i=true:=by
   unfold Nc;rw [tv] at J;rw [hH];exact ⟨decide_eq_true (by lia),decide_eq_true (by lia)⟩
  rw [this];decide
 have hs:its.toArray.size<=Hj:=by rw [Hl];lia
 have mt:=PySem.AutoSeq1.list_insert_list_int_val_1 l its.toArray n i t j hf hs;refine KH NB ⟨_,e,rfl⟩ PySem.F.entry_list_insert (PySem.F.args_list_insert_3 _ _ _) mt ⟨e, ?_⟩;refine ⟨.non,_,I.lset (its':=its.take i.toNat++j::its.drop i.toNat) G e ?_ ((RA i.toNat r).append (.cons B (RC i.toNat r))) ?_,rfl,q⟩
 ·have hm:(if i < 0 then (i+(its.toArray.size:Int)).toNat else min i.toNat its.toArray.size)=i.toNat:=by
   rw [if_neg (by lia),Hl];lia
  show (its.toArray.extract 0 (if i < 0 then (i+(its.toArray.size:Int)).toNat else min i.toNat its.toArray.size)).push j++its.toArray.extract (if i < 0 then (i+(its.toArray.size:Int)).toNat else min i.toNat its.toArray.size)=_
  rw [hm];apply Array.ext';simp only [List.extract_toArray,List.push_toArray,List.append_toArray];simp [JR]
 ·rw [D0,Ic,HD,J7];lia
end
namespace Mi
noncomputable def lh:D->List D->Mem->QD->Prop:=fun x ds M Q => ∃ (a:Addr) (xs:List D) (i:Int) (y:D),x = .ref a/\ds=[.int i,y]/\M a=some (.lst xs)/\0<=i/\i.toNat<=xs.length/\xs.length < Hj/\Q .non (ag M a (.lst (xs.take i.toNat++y::xs.drop i.toNat)))
theorem iR:cT lh:=fun _ _ _ _ _ h ⟨a,xs,k,y,e1,e2,j,B,z,F,q⟩=>⟨a,xs,k,y,e1,e2,j,B,z,F,h _ _ q⟩
theorem yH {K:Frag} (v:V) (vs:List V) (H:Hp) (Q:VK) (h:lMt K lh v vs H Q):rl v vs H Q:=by
 obtain ⟨x,ds,M,rm,rx,rs,a,xs,i,y,rfl,rfl,e,j,z,B,q⟩:=h
 cases Ri.mp rx
 obtain ⟨J,w,rfl,F,rw'⟩:=rs.two
 cases Rh.mp F
 obtain ⟨us,G,ru⟩:=rm _ _ e;exact ⟨a,us,i,w,rfl,rfl,G,j,by rw [ru.length];exact z,by rw [ru.length];exact B,fh rm e ((ru.take i.toNat).append (RDs.cons rw' (ru.drop i.toNat))) (Rp.mpr rfl) q⟩
end Mi
end
end L2
namespace L2
namespace Mi
open PySem PySem.Spec PyProof.Rows
section
section
variable {X:Cx}
noncomputable def tz:R2d
 | .int i,y,M,Q => ∃ ns:List Int,aw M y=some (ns.map .int)/\Q (.bl (decide (i∈ns))) M
 | _,_,_,_=>False
theorem yI:be tz:=by
 intro x y M Q Q' h q
 cases x <;> first
  | exact q.elim
  | (obtain ⟨ns,e,q⟩:=q;exact ⟨ns,e,h _ _ q⟩)
theorem pE {i:Int}:∀ ns:List Int,inV (.int i) (ns.map V.int)=decide (i∈ns)
 | [] => by simp [inV]
 | n::ns=>by
   have ih:=pE (i:=i) ns;unfold inV at ih ⊢;rw [HE,Jp,ih];show (n==i || decide (i∈ns))=_
   by_cases h:n=i
   ·subst h;simp
   ·rw [show (n==i)=false by simpa using h]
    simp only [Lg,Ho];exact decide_eq_decide.mpr ⟨.inr,fun z=>z.resolve_left fun w=>h w.symm⟩
theorem yJ:OpR X (Jm .In) (l2 X.K tz):=by
 refine OpR.of uC fun v u H Q h => ?_;obtain ⟨x,y,M,rm,rx,ry,q⟩:=h
 cases x <;> first
  | exact q.elim
  | skip
 case int i =>
  obtain ⟨ns,e,q⟩:=q;obtain ⟨p,vs,rfl,hs,r⟩:=nZ rm ry e;have rv:=r.ints_eq;subst rv
  cases Rh.mp rx
  refine ⟨p,_,rfl,hs,rfl, ?_, ?_⟩
  ·simp [dM]
  ·rw [if_neg Hi,pE];exact q _ H Ext.refl rm (Rk.mpr rfl)
end
end
section
section
variable {X:Cx}
noncomputable def pF:D->List D->Mem->QD->Prop:=fun x ds M Q => ∃ (a:Addr) (xs:List D) (i:Nat) (y:D),x = .ref a/\ds=[.int (i:Nat)]/\M a=some (.lst xs)/\xs[i]? = some y/\i < 2 ^ 62/\Q y (ag M a (.lst (xs.eraseIdx i)))
theorem kn:cT pF:=fun _ _ _ _ _ h ⟨a,xs,i,y,e1,e2,j,z,B,q⟩=>⟨a,xs,i,y,e1,e2,j,z,B,h _ _ q⟩
theorem RDs.eraseIdx {K:Frag} {H:Hp}:∀ {ds:List D} {vs:List V} (i:Nat),RDs K H ds vs->RDs K H (ds.eraseIdx i) (vs.eraseIdx i):=by
 intro ds vs i r;rw [Ko,Ko];exact (r.take i).append (r.drop (i+1))
theorem Bd {K:Frag} (v:V) (vs:List V) (H:Hp) (Q:VK) (h:lMt K pF v vs H Q):uF v vs H Q:=by
 obtain ⟨x,ds,M,rm,rx,rs,a,xs,i,y,rfl,rfl,e,j,hi,q⟩:=h
 cases Ri.mp rx
 obtain ⟨G,rfl,z⟩:=rs.one
 cases Rh.mp z
 obtain ⟨us,B,ru⟩:=rm _ _ e;obtain ⟨w,hw,rw'⟩:=ru.get j;have F:i < us.length:=(HC.mp hw).1;refine ⟨a,us,(i:Nat),i,w,rfl,rfl,B,by lia,by lia, ?_,hw,fh rm e (ru.eraseIdx i) rw' q⟩
 exact (kH (by unfold ixN;rw [if_pos (by lia),if_pos (by lia),HX])).1
end
end
section
section
variable {X:Cx}
noncomputable def vQ:V->List V->Hp->VK->Prop:=fun x vs H Q => ∃ (l:Addr) (ns:List Int) (k:Int),x = .ref l/\vs=[.int k]/\H l=some (.lst (ns.map V.int))/\k∈ns/\Q (.int (ns.idxOf k:Nat)) H
theorem yK:MtM X "list.index" vQ:=by
 intro pins s σ H x vs v us Q I rx rv h;obtain ⟨l,ns,k,rfl,rfl,G,J,q⟩:=h
 cases rx
 obtain ⟨u,rfl,ru⟩:=rv.one;obtain ⟨t,rfl⟩:=ru;obtain ⟨z,its,n,r,L,e⟩:=I.lstM G;have hi:=sy r;have U:=hi.length;have B:ns.idxOf k < ns.length:=ND.mpr J;rw [q7] at L;rw [q7,tv] at z;have mk:=PySem.SeqAt.list_indexAt l its.toArray n none #[] (.int k t) (isInt k) (ns.idxOf k) (by rw [Hl];omega) (by omega) (by
  show isInt k its[ns.idxOf k]=true;rw [isInt_at k hi _ (by omega) B,Pq B];simp) fun j h1 h2=>by
  show isInt k its[j]=false;rw [isInt_at k hi j (by simpa using h1) (by omega)]
  exact ne_of_lt_idxOf h2 _
 exact KH NP ⟨_,e,rfl⟩ PySem.F.entry_list_index (PySem.F.args_list_index_2 _ _) mk ⟨e,fun y O=>(eq_isInt k t hi y (by simpa using O)).at _ _,⟨.int (ns.idxOf k:Nat),H,I.tok _,⟨_,rfl⟩,q⟩⟩
noncomputable def pG:D->List D->Mem->QD->Prop:=fun x ds M Q => ∃ (a:Addr) (ns:List Int) (k:Int),x = .ref a/\ds=[.int k]/\M a=some (.lst (ns.map .int))/\k∈ns/\Q (.int (ns.idxOf k:Nat)) M
theorem ko:cT pG:=fun _ _ _ _ _ h ⟨a,ns,k,e1,e2,j,z,q⟩=>⟨a,ns,k,e1,e2,j,z,h _ _ q⟩
theorem Be {K:Frag} (v:V) (vs:List V) (H:Hp) (Q:VK) (h:lMt K pG v vs H Q):vQ v vs H Q:=by
 obtain ⟨x,ds,M,rm,rx,rs,a,ns,k,rfl,rfl,e,j,q⟩:=h
 cases Ri.mp rx
 obtain ⟨F,rfl,z⟩:=rs.one
 cases Rh.mp z
 obtain ⟨us,B,ru⟩:=rm _ _ e;have rv:=ru.ints_eq;subst rv;exact ⟨a,ns,k,rfl,rfl,B,j,q _ H Ext.refl rm (Rh.mpr rfl)⟩
end
end
end Mi
end L2
namespace L2
namespace It
open PySem PySem.Spec PyProof.Rows
end It
open PySem PySem.Spec PyProof.Rows
namespace Mi
end Mi
end L2
namespace L2
open PySem PySem.Spec PyProof.Rows
namespace Mi
end Mi
end L2
namespace L2
open PySem PySem.Spec PyProof.Rows
namespace Mi
open L2.Srt
end Mi
end L2
namespace L2
open PySem PySem.Spec PyProof.Rows
end L2
namespace L2
namespace Mi
open PySem PySem.Spec PyProof.Rows
end Mi
end L2
namespace L2
open PySem PySem.Spec PyProof.Rows
namespace Mi
end Mi
end L2
namespace L2
namespace Mi
open PySem PySem.Spec PyProof.Rows
section
mutual
noncomputable def GV (K:Frag):D->h6->Prop
 | .int i,v => ∃ t,v = .int i t
 | .str x,v => ∃ t,v = .str x t
 | .tup ds,v => ∃ a o its n,v = .ref a/\K.lookup a=some o/\o.cls = .type "tuple" /\ o.data = .seq its n/\its.size<=Hj/\fk ds=false/\GVs K ds its.toList
 | _,_=>False
noncomputable def GVs (K:Frag):List D->List h6->Prop
 | [],us=>us=[]
 | d::ds,us => ∃ u r,us=u::r/\GV K d u/\GVs K ds r
end
theorem GV.ints {K:Frag} {i:Int} {t}:GV K (.int i) (.int i t):=by unfold GV;exact ⟨t,rfl⟩
theorem GV.tups {K:Frag} {ds:List D} {a:Addr} {od sl} {its:Array h6} {n:Nat} (h:K.lookup a=some ⟨.type "tuple",od, .seq its n,sl⟩) (j:its.size<=1000) (f:fk ds=false) (r:GVs K ds its.toList):GV K (.tup ds) (.ref a):=by
 unfold GV;exact ⟨a,_,its,n,rfl,h,rfl,rfl,by rw [tv];lia,f,r⟩
theorem GVs.nil {K:Frag}:GVs K [] []:=by unfold GVs;rfl
theorem GVs.cons {K:Frag} {d:D} {ds:List D} {u:h6} {us:List h6} (h:GV K d u) (r:GVs K ds us):GVs K (d::ds) (u::us):=by unfold GVs;exact ⟨u,us,rfl,h,r⟩
mutual
theorem zS {K:Frag}:∀ {d:D} {u:h6},GV K d u -> ∃ v,RelV v u /\ ∀ H,RD K H d v
 | .int i,u,h=>by unfold GV at h;obtain ⟨t,rfl⟩:=h;exact ⟨.int i,⟨t,rfl⟩,fun H=>Rh.mpr rfl⟩
 | .str i,u,h=>by unfold GV at h;obtain ⟨t,rfl⟩:=h;exact ⟨.str i,⟨t,rfl⟩,fun H=>Rq.mpr rfl⟩
 | .tup ds,u,h=>by
  unfold GV at h;obtain ⟨a,o,its,n,rfl,h1,h2,j,q,z,B⟩:=h;obtain ⟨vs,g1,g2⟩:=gvs_rd B;exact ⟨.ref a,rfl,fun H=>Rt.mpr ⟨a,vs,rfl, .inr ⟨z, .inr ⟨o,its,n,h1,h2,j,q,g1⟩⟩,g2 H⟩⟩
 | .non,u,h=>by unfold GV at h;exact h.elim
 | .bl _,u,h=>by unfold GV at h;exact h.elim
 | .con _,u,h=>by unfold GV at h;exact h.elim
 | .ref _,u,h=>by unfold GV at h;exact h.elim
theorem gvs_rd {K:Frag}:∀ {ds:List D} {us:List h6},GVs K ds us -> ∃ vs,Vals vs us /\ ∀ H,RDs K H ds vs
 | [],us,h=>by unfold GVs at h;subst h;exact ⟨[], .nil,fun H=>RDs.nil⟩
 | d::ds,us,h=>by
   unfold GVs at h;obtain ⟨u,r,rfl,h1,h2⟩:=h;obtain ⟨v,g1,g2⟩:=zS h1;obtain ⟨vs,g3,j⟩:=gvs_rd h2;exact ⟨v::vs, .cons g1 g3,fun H=>RDs.cons (g2 H) (j H)⟩
end
end
section
inductive BOp where | add | sub | mul | fdiv | mod | pow
inductive COp where | eq | ne | lt | gt | ge | eqD | inS
inductive BF where | len | abs | min2 | int | list | tuple | all | any | dict | sortk
inductive MF where | append | extend | pop | index
inductive MF0 where | clear
mutual
inductive MG where
 | name (i:Nat)
 | tup (gs:MGs)
inductive MGs where
 | nil
 | cons (g:MG) (r:MGs)
end
mutual
inductive ME where
 | var (i:Nat)
 | int (i:Int)
 | bl (b:Bool)
 | non
 | bin (op:BOp) (a b:ME)
 | neg (a:ME)
 | cmp (op:COp) (a b:ME)
 | and (es:MEs)
 | or (es:MEs)
 | not (a:ME)
 | ite (c:MT) (a b:ME)
 | tup (es:MEs)
 | lst (es:MEs)
 | ix (a b:ME)
 | sl (a:ME) (lo hi:MO)
 | call (f:Nat) (es:MEs)
 | blt (f:BF) (es:MEs)
 | isin (a:ME) (T:String)
 | isin2 (a:ME) (T U:String)
 | lrng (a:ME)
 | glob (x:Str) (d:D)
 | dnew (t:Bool)
 | dget (o k x:ME)
 | meth (m:MF) (o a:ME)
 | meth0 (m:MF0) (o:ME)
 | ins (o i a:ME)
 | comp (fr:List (Option Nat)) (N:List Str) (c:MC)
inductive MEs where
 | nil
 | cons (e:ME) (r:MEs)
inductive MO where
 | none
 | some (e:ME)
inductive MT where
 | tru (e:ME)
 | cmp (op:COp) (a b:ME)
 | and (ts:MTs)
 | or (ts:MTs)
 | not (t:MT)
inductive MTs where
 | nil
 | cons (t:MT) (r:MTs)
inductive MI where
 | seq (e:ME)
 | rng1 (a:ME)
 | zip (a b:ME)
 | enum (a:ME)
 | keys (a:ME)
inductive MC where
 | last (src:MI) (g:MG) (ifs:MTs) (elt:ME)
 | more (src:MI) (g:MG) (ifs:MTs) (rest:MC)
end
mutual
inductive MS where
 | asg (g:MG) (e:ME)
 | asgL (gs:MGs) (e:ME)
 | par (i j:Nat) (a b:ME)
 | put (o i e:ME)
 | drop (e:ME)
 | ret (e:ME)
 | ite (c:MT) (a b:MSs)
 | for (g:MG) (src:MI) (b:MSs)
 | while (c:MT) (b:MSs)
 | frz (i:Nat) (s:MS)
 | pass | brk | cnt
inductive MSs where
 | nil
 | cons (s:MS) (r:MSs)
end
noncomputable def opB:BOp->R2d
 | .add=>fO | .sub=>kR | .mul=>iX | .fdiv=>nk | .mod=>sH | .pow=>sJ
noncomputable def opC:COp->R2d
 | .eq=>wEq | .ne=>wNe | .lt=>wLt| .gt=>wGt | .ge=>wGe| .eqD=>yD| .inS=>tz
noncomputable def opF:BF->RAd
 | .len=>fR | .abs=>nV| .min2=>no | .int=>nW | .list=>nr | .tuple=>og| .all=>sW | .any=>yu| .dict=>tf | .sortk=>pA
noncomputable def opM:MF->D->List D->Mem->QD->Prop
 | .append=>kW | .extend=>kX | .pop=>pF | .index=>pG
noncomputable def tD:MF0->D->List D->Mem->QD->Prop
 | .clear=>ou
theorem pH:∀ o,be (opB o)
 | .add=>xO | .sub=>xP | .mul=>xQ | .fdiv=>uU | .mod=>xR | .pow=>xS
theorem fX:∀ o,be (opC o)
 | .eq=>Ay | .ne=>Az | .lt=>AC| .gt=>AD | .ge=>AE| .eqD=>yE| .inS=>yI
theorem yL:∀ o,bh (opF o)
 | .len=>nU | .abs=>nX| .min2=>mj | .int=>nY | .list=>mn | .tuple=>jL| .all=>oG | .any=>oH| .dict=>mP | .sortk=>kl
theorem yM:∀ o,cT (opM o)
 | .append=>iN | .extend=>iO | .pop=>kn | .index=>ko
theorem vR:∀ o,cT (tD o)
 | .clear=>jS
noncomputable abbrev Phi:=Nat->RAd
mutual
noncomputable def bG:MG->BT
 | .name i=>bn i
 | .tup gs=>kY (bGs gs)
noncomputable def bGs:MGs->BTs
 | .nil=>fT
 | .cons g r=>bX (bG g) (bGs r)
end
mutual
noncomputable def wE (Φ:Phi):ME->TEd
 | .var i=>bD i
 | .int i=>wC (.int i)
 | .bl b=>wC (.bl b)
 | .non=>wC .non
 | .bin op a b=>wOp (opB op) (wE Φ a) (wE Φ b)
 | .neg a=>wUn sK (wE Φ a)
 | .cmp op a b=>wOp (opC op) (wE Φ a) (wE Φ b)
 | .and es=>wAnds Φ es
 | .or es=>wOrs Φ es
 | .not a=>jP (wE Φ a)
 | .ite c a b=>wIf (wT Φ c) (wE Φ a) (wE Φ b)
 | .tup es=>wAr nP (wA Φ es)
 | .lst es=>wAr nQ (wA Φ es)
 | .ix a b=>wOp wIx (wE Φ a) (wE Φ b)
 | .sl a lo hi=>wSl (wE Φ a) (wO Φ lo) (wO Φ hi)
 | .call f es=>wAr (Φ f) (wA Φ es)
 | .blt f es=>wAr (opF f) (wA Φ es)
 | .isin a T=>jR T (wE Φ a)
 | .isin2 a T U=>gL T U (wE Φ a)
 | .lrng a=>jK (wE Φ a)
 | .glob _ d=>wC d
 | .dnew t=>jY t
 | .dget o k x=>ke (wE Φ o) (wE Φ k) (wE Φ x)
 | .meth m o a=>wBM (opM m) (wE Φ o) (aH (wE Φ a) bI)
 | .meth0 m o=>wBM (tD m) (wE Φ o) bI
 | .ins o i a=>wBM lh (wE Φ o) (aH (wE Φ i) (aH (wE Φ a) bI))
 | .comp fr _ c=>wCmp Φ fr c
noncomputable def wA (Φ:Phi):MEs->TAd
 | .nil=>bI
 | .cons e r=>aH (wE Φ e) (wA Φ r)
noncomputable def wAnds (Φ:Phi):MEs->TEd
 | .nil=>fun _ _ _=>False
 | .cons e .nil=>wE Φ e
 | .cons e (.cons f r)=>jO (wE Φ e) (wAnds Φ (.cons f r))
noncomputable def wOrs (Φ:Phi):MEs->TEd
 | .nil=>fun _ _ _=>False
 | .cons e .nil=>wE Φ e
 | .cons e (.cons f r)=>oo (wE Φ e) (wOrs Φ (.cons f r))
noncomputable def wO (Φ:Phi):MO->TOd
 | .none=>ff
 | .some e=>jQ (wE Φ e)
noncomputable def wT (Φ:Phi):MT->TTd
 | .tru e=>oi (wE Φ e)
 | .cmp op a b=>iV (wOp (opC op) (wE Φ a) (wE Φ b))
 | .and ts=>wAndTs Φ ts
 | .or ts=>wOrTs Φ ts
 | .not t=>jM (wT Φ t)
noncomputable def wAndTs (Φ:Phi):MTs->TTd
 | .nil=>fun _ _ _=>False
 | .cons e .nil=>wT Φ e
 | .cons e (.cons f r)=>jN (wT Φ e) (wAndTs Φ (.cons f r))
noncomputable def wOrTs (Φ:Phi):MTs->TTd
 | .nil=>fun _ _ _=>False
 | .cons e .nil=>wT Φ e
 | .cons e (.cons f r)=>oj (wT Φ e) (wOrTs Φ (.cons f r))
noncomputable def wTl (Φ:Phi):MTs->List TTd
 | .nil => []
 | .cons t r=>wT Φ t::wTl Φ r
noncomputable def wI (Φ:Phi):MI->TId
 | .seq e=>ow (wE Φ e)
 | .rng1 a=>jT (aH (wE Φ a) bI)
 | .zip a b=>ox (wE Φ a) (wE Φ b)
 | .enum a=>jU (wE Φ a)
 | .keys a=>km (wE Φ a)
noncomputable def wCl (Φ:Phi):MC->TCd
 | .last src g ifs elt=>dZ (wI Φ src) (bG g) (bN (wTl Φ ifs) (bQ (wE Φ elt)))
 | .more src g ifs rest=>dZ (wI Φ src) (bG g) (bN (wTl Φ ifs) (wCl Φ rest))
noncomputable def wCmp (Φ:Phi) (fr:List (Option Nat)):MC->TEd
 | .last src g ifs elt=>i9 fr (wI Φ src) (bG g) (bN (wTl Φ ifs) (bQ (wE Φ elt)))
 | .more src g ifs rest=>i9 fr (wI Φ src) (bG g) (bN (wTl Φ ifs) (wCl Φ rest))
end
mutual
noncomputable def wS (Φ:Phi):MS->TSd
 | .asg g e=>j3 (wE Φ e) (bG g)
 | .asgL gs e=>kg (wE Φ e) (bGs gs)
 | .par i j a b=>oD (aH (wE Φ a) (aH (wE Φ b) bI)) (bX (bn i) (bX (bn j) fT))
 | .put o i e=>oF (wE Φ e) (wE Φ o) (wE Φ i)
 | .drop e=>jX (wE Φ e)
 | .ret e=>oC (wE Φ e)
 | .ite c a b=>sIf (wT Φ c) (wSs Φ a) (wSs Φ b)
 | .for g src b=>oE (wI Φ src) (bG g) (wSs Φ b)
 | .while c b=>gH (wT Φ c) (wSs Φ b)
 | .frz i s=>tw i (wS Φ s)
 | .pass=>ic
 | .brk=>gG
 | .cnt=>jW
noncomputable def wSs (Φ:Phi):MSs->TSd
 | .nil=>ic
 | .cons s r=>oB (wS Φ s) (wSs Φ r)
end
section
variable {Φ:Phi} (hΦ:∀ f,bh (Φ f))
include hΦ
mutual
theorem mE:∀ m,ae (wE Φ m)
 | .var _=>xL
 | .int _=>jJ
 | .bl _=>jJ
 | .non=>jJ
 | .bin op a b=>fe (pH op) (mE a) (mE b)
 | .neg a=>As nS (mE a)
 | .cmp op a b=>fe (fX op) (mE a) (mE b)
 | .and es=>mAnds es
 | .or es=>mOrs es
 | .not a=>v6 (mE a)
 | .ite c a b=>AK (mT c) (mE a) (mE b)
 | .tup es=>i5 uP (mA es)
 | .lst es=>i5 uQ (mA es)
 | .ix a b=>fe qS (mE a) (mE b)
 | .sl a lo hi=>AN (mE a) (mO lo) (mO hi)
 | .call f es=>i5 (hΦ f) (mA es)
 | .blt f es=>i5 (yL f) (mA es)
 | .isin a T=>v9 (mE a)
 | .isin2 a T U=>tu (mE a)
 | .lrng a=>uR (mE a)
 | .glob _ _=>jJ
 | .dnew _=>vt
 | .dget o k x=>vI (mE o) (mE k) (mE x)
 | .meth m o a=>kU (yM m) (mE o) (ar (mE a) ax)
 | .meth0 m o=>kU (vR m) (mE o) ax
 | .ins o i a=>kU iR (mE o) (ar (mE i) (ar (mE a) ax))
 | .comp fr _ c=>mCmp fr c
theorem mA:∀ m,bJ (wA Φ m)
 | .nil=>ax
 | .cons e r=>ar (mE e) (mA r)
theorem mAnds:∀ m,ae (wAnds Φ m)
 | .nil=>fun _ _ _ _ _ q=>q.elim
 | .cons e .nil=>mE e
 | .cons e (.cons f r)=>uZ (mE e) (mAnds (.cons f r))
theorem mOrs:∀ m,ae (wOrs Φ m)
 | .nil=>fun _ _ _ _ _ q=>q.elim
 | .cons e .nil=>mE e
 | .cons e (.cons f r)=>y9 (mE e) (mOrs (.cons f r))
theorem mO:∀ m,fS (wO Φ m)
 | .none=>qz
 | .some e=>v8 (mE e)
theorem mT:∀ m,aJ (wT Φ m)
 | .tru e=>y7 (mE e)
 | .cmp op a b=>xM (fe (fX op) (mE a) (mE b))
 | .and ts=>mAndTs ts
 | .or ts=>mOrTs ts
 | .not t=>uX (mT t)
theorem mAndTs:∀ m,aJ (wAndTs Φ m)
 | .nil=>fun _ _ _ _ _ q=>q.elim
 | .cons e .nil=>mT e
 | .cons e (.cons f r)=>uY (mT e) (mAndTs (.cons f r))
theorem mOrTs:∀ m,aJ (wOrTs Φ m)
 | .nil=>fun _ _ _ _ _ q=>q.elim
 | .cons e .nil=>mT e
 | .cons e (.cons f r)=>y8 (mT e) (mOrTs (.cons f r))
theorem mTl:∀ m, ∀ t∈wTl Φ m,aJ t
 | .nil=>by rw [wTl];intro t j;simp at j
 | .cons t r=>by
  rw [wTl];intro t' j
  rcases Ho.mp j with e | e
  ·rw [e];exact mT t
  ·exact mTl r t' e
theorem mI:∀ m,cH (wI Φ m)
 | .seq e=>ye (mE e)
 | .rng1 a=>vd (ar (mE a) ax)
 | .zip a b=>yf (mE a) (mE b)
 | .enum a=>ve (mE a)
 | .keys a=>vO (mE a)
theorem mCl:∀ m,cz (wCl Φ m)
 | .last src g ifs elt=>iP (mI src) (aV (bV (mE elt)) (mTl ifs))
 | .more src g ifs rest=>iP (mI src) (aV (mCl rest) (mTl ifs))
theorem mCmp (fr:List (Option Nat)):∀ m,ae (wCmp Φ fr m)
 | .last src g ifs elt=>mq (mI src) (aV (bV (mE elt)) (mTl ifs))
 | .more src g ifs rest=>mq (mI src) (aV (mCl rest) (mTl ifs))
end
mutual
theorem mS:∀ m,aK (wS Φ m)
 | .asg g e=>yi (mE hΦ e)
 | .asgL gs e=>vJ (mE hΦ e)
 | .par i j a b=>yj (ar (mE hΦ a) (ar (mE hΦ b) ax))
 | .put o i e=>yq (mE hΦ e) (mE hΦ o) (mE hΦ i)
 | .drop e=>vh (mE hΦ e)
 | .ret e=>yg (mE hΦ e)
 | .ite c a b=>yh (mT hΦ c) (mSs a) (mSs b)
 | .for g src b=>yk (mI hΦ src) (mSs b)
 | .while c b=>sR (mT hΦ c) (mSs b)
 | .frz i s=>yC (mS s)
 | .pass=>mw
 | .brk=>sQ
 | .cnt=>vf
theorem mSs:∀ m,aK (wSs Φ m)
 | .nil=>mw
 | .cons s r=>vg (mS s) (mSs r)
end
end
end
section
structure Ctx where
 Γ:List Str
 N:List Str
 sc:Scope
 fn:List Str
 cs:List (Str×D)
noncomputable def glB (sc:Scope) (x:Str):Bool:=sc.names.lookup x==some .globalImplicit
noncomputable def yN (sc:Scope) (x:Str):Bool:=sc.names.lookup x==some .local || sc.names.lookup x==some .cell || sc.names.lookup x==some .free
noncomputable def yO (sc:Scope) (x:Str):Bool:=sc.names.lookup x==some .local || sc.names.lookup x==some .cell
noncomputable def aT:Expr->Bool
 | .Starred .. => false
 | _=>true
noncomputable def pI:Expr->Bool
 | .Name .. | .Call .. | .Subscript .. | .Constant .. | .BinOp .. | .Attribute .. => true
 | _=>false
noncomputable def fo:Expr->Bool
 | .Slice .. => false
 | _=>true
noncomputable def fq:Expr->Bool
 | .ListComp .. | .SetComp .. | .DictComp .. => false
 | _=>true
noncomputable def kr:Expr->Bool
 | .Set .. => false
 | _=>true
noncomputable def eh:Expr->Bool
 | .Call .. => false
 | _=>true
noncomputable def opO:BOp->Pw
 | .add => .Add | .sub => .Sub | .mul => .Mult | .fdiv => .FloorDiv | .mod => .Mod | .pow => .Pow
noncomputable def yP:COp->CmpOp
 | .eq => .Eq | .ne => .NotEq | .lt => .Lt| .gt => .Gt | .ge => .GtE| .eqD => .Eq| .inS => .In
noncomputable def pJ:BF->Str
 | .len => "len" | .abs => "abs"| .min2 => "min" | .int => "int" | .list => "list" | .tuple => "tuple"| .all => "all" | .any => "any"| .dict => "dict" | .sortk => "sorted"
noncomputable def D7:MF->Str
 | .append => "append" | .extend => "extend" | .pop => "pop" | .index => "index"
noncomputable def Bf:MF0->Str
 | .clear => "clear"
noncomputable def bltNames:List Str := ["len", "abs", "max", "min", "int", "list", "tuple", "sum", "isinstance", "range", "bool", "str", "dict", "zip", "enumerate", "reversed", "sorted", "all", "any", "set"]
noncomputable def jb (sc osc:Scope):Scope :=
 { sc with names:=sc.names.map fun (n,k)=>if (k == .free&&osc.kind == .function&&osc.names.lookup n==some .cell) then (n, .cell) else (n,k) }
theorem qH (sc:Scope) (env:Env):relabel sc env=jb sc env.scope:=rfl
noncomputable def yQ (sc osc:Scope) (oN N':List Str) (fr:List (Option Nat)):Bool :=
 decide (sc.kind = .function)&&decide ((sc.names.map (·.1)).Nodup)&&decide (N'.Nodup)
  && sc.names.all (fun x => !(x.2 == .free) || osc.names.lookup x.1==some .cell || osc.names.lookup x.1==some .free)
  && decide (fr.length=N'.length)
  && (Hz N'.length).all fun i=>match fr[i]?,N'[i]? with
   | some (some j),some x=>decide (oN[j]? = some x)&&sc.names.any (fun y=>decide (y=(x,I0)))
   | _,_=>true
theorem pk {p:Prop} [d:Decidable p] {t:p->Bool} (h:dite p t (fun _=>false)=true):∃ c,t c=true:=by
 cases d with
 | isTrue c=>exact ⟨c,h⟩
 | isFalse c=>cases h
noncomputable def dy (e:Expr) (f:Str->Pos->Bool):Bool:=if h:e.ctorIdx=23 then @R9.elim (fun _=>Bool) e h f else false
@[elab_as_elim]
theorem dS {P:Expr->Prop} (e:Expr) {f:Str->Pos->Bool} (h:dy e f=true) (k:∀ a b,f a b=true->P (.Name a b)):P e :=
 (pk h).elim fun c => @R9.elim (fun e => ∀ c, @R9.elim (fun _=>Bool) e c f=true->P e) e c (fun a b _ h=>k a b h) c
noncomputable def eU (e:Expr) (f:Const->Nat->Pos->Bool):Bool:=if h:e.ctorIdx=19 then @P2.elim (fun _=>Bool) e h f else false
@[elab_as_elim]
theorem gM {P:Expr->Prop} (e:Expr) {f:Const->Nat->Pos->Bool} (h:eU e f=true) (k:∀ a b c,f a b c=true->P (.Constant a b c)):P e :=
 (pk h).elim fun c => @P2.elim (fun e => ∀ c, @P2.elim (fun _=>Bool) e c f=true->P e) e c (fun a b c _ h=>k a b c h) c
noncomputable def vS (e:Expr) (f:Expr->Pw->Expr->Pos->Bool):Bool:=if h:e.ctorIdx=2 then @R0.elim (fun _=>Bool) e h f else false
@[elab_as_elim]
theorem D8 {P:Expr->Prop} (e:Expr) {f:Expr->Pw->Expr->Pos->Bool} (h:vS e f=true) (k:∀ a b c d,f a b c d=true->P (.BinOp a b c d)):P e :=
 (pk h).elim fun c => @R0.elim (fun e => ∀ c, @R0.elim (fun _=>Bool) e c f=true->P e) e c (fun a b c d _ h=>k a b c d h) c
noncomputable def fY (e:Expr) (f:UnaryOp->Expr->Pos->Bool):Bool:=if h:e.ctorIdx=3 then @Q3.elim (fun _=>Bool) e h f else false
@[elab_as_elim]
theorem jc {P:Expr->Prop} (e:Expr) {f:UnaryOp->Expr->Pos->Bool} (h:fY e f=true) (k:∀ a b c,f a b c=true->P (.UnaryOp a b c)):P e :=
 (pk h).elim fun c => @Q3.elim (fun e => ∀ c, @Q3.elim (fun _=>Bool) e c f=true->P e) e c (fun a b c _ h=>k a b c h) c
noncomputable def jd (e:Expr) (f:Expr->List CmpOp->List Expr->Pos->Bool):Bool:=if h:e.ctorIdx=15 then @Q4.elim (fun _=>Bool) e h f else false
@[elab_as_elim]
theorem pK {P:Expr->Prop} (e:Expr) {f:Expr->List CmpOp->List Expr->Pos->Bool} (h:jd e f=true) (k:∀ a b c d,f a b c d=true->P (.Compare a b c d)):P e :=
 (pk h).elim fun c => @Q4.elim (fun e => ∀ c, @Q4.elim (fun _=>Bool) e c f=true->P e) e c (fun a b c d _ h=>k a b c d h) c
noncomputable def fu (e:Expr) (f:BoolOp->List Expr->Pos->Bool):Bool:=if h:e.ctorIdx=0 then @QF.elim (fun _=>Bool) e h f else false
@[elab_as_elim]
theorem iw {P:Expr->Prop} (e:Expr) {f:BoolOp->List Expr->Pos->Bool} (h:fu e f=true) (k:∀ a b c,f a b c=true->P (.BoolOp a b c)):P e :=
 (pk h).elim fun c => @QF.elim (fun e => ∀ c, @QF.elim (fun _=>Bool) e c f=true->P e) e c (fun a b c _ h=>k a b c h) c
noncomputable def vT (e:Expr) (f:Expr->Expr->Expr->Pos->Bool):Bool:=if h:e.ctorIdx=5 then @R3.elim (fun _=>Bool) e h f else false
@[elab_as_elim]
theorem D9 {P:Expr->Prop} (e:Expr) {f:Expr->Expr->Expr->Pos->Bool} (h:vT e f=true) (k:∀ a b c d,f a b c d=true->P (.IfExp a b c d)):P e :=
 (pk h).elim fun c => @R3.elim (fun e => ∀ c, @R3.elim (fun _=>Bool) e c f=true->P e) e c (fun a b c d _ h=>k a b c d h) c
noncomputable def cV (e:Expr) (f:List Expr->Nat->Pos->Bool):Bool:=if h:e.ctorIdx=25 then @R4.elim (fun _=>Bool) e h f else false
@[elab_as_elim]
theorem dD {P:Expr->Prop} (e:Expr) {f:List Expr->Nat->Pos->Bool} (h:cV e f=true) (k:∀ a b c,f a b c=true->P (.Tuple a b c)):P e :=
 (pk h).elim fun c => @R4.elim (fun e => ∀ c, @R4.elim (fun _=>Bool) e c f=true->P e) e c (fun a b c _ h=>k a b c h) c
noncomputable def zT (e:Expr) (f:List Expr->Pos->Bool):Bool:=if h:e.ctorIdx=24 then @Ra.elim (fun _=>Bool) e h f else false
@[elab_as_elim]
theorem Ee {P:Expr->Prop} (e:Expr) {f:List Expr->Pos->Bool} (h:zT e f=true) (k:∀ a b,f a b=true->P (.List a b)):P e :=
 (pk h).elim fun c => @Ra.elim (fun e => ∀ c, @Ra.elim (fun _=>Bool) e c f=true->P e) e c (fun a b _ h=>k a b h) c
noncomputable def dU (e:Expr) (f:Expr->Expr->Pos->Bool):Bool:=if h:e.ctorIdx=21 then @OO.elim (fun _=>Bool) e h f else false
@[elab_as_elim]
theorem fZ {P:Expr->Prop} (e:Expr) {f:Expr->Expr->Pos->Bool} (h:dU e f=true) (k:∀ a b c,f a b c=true->P (.Subscript a b c)):P e :=
 (pk h).elim fun c => @OO.elim (fun e => ∀ c, @OO.elim (fun _=>Bool) e c f=true->P e) e c (fun a b c _ h=>k a b c h) c
noncomputable def tE (e:Expr) (f:Expr->List Expr->List MA->Pos->Bool):Bool:=if h:e.ctorIdx=16 then @Rb.elim (fun _=>Bool) e h f else false
@[elab_as_elim]
theorem zU {P:Expr->Prop} (e:Expr) {f:Expr->List Expr->List MA->Pos->Bool} (h:tE e f=true) (k:∀ a b c d,f a b c d=true->P (.Call a b c d)):P e :=
 (pk h).elim fun c => @Rb.elim (fun e => ∀ c, @Rb.elim (fun _=>Bool) e c f=true->P e) e c (fun a b c d _ h=>k a b c d h) c
noncomputable def ku (e:Expr) (f:Expr->Str->Pos->Bool):Bool:=if h:e.ctorIdx=20 then @OP.elim (fun _=>Bool) e h f else false
@[elab_as_elim]
theorem tF {P:Expr->Prop} (e:Expr) {f:Expr->Str->Pos->Bool} (h:ku e f=true) (k:∀ a b c,f a b c=true->P (.Attribute a b c)):P e :=
 (pk h).elim fun c => @OP.elim (fun e => ∀ c, @OP.elim (fun _=>Bool) e c f=true->P e) e c (fun a b c _ h=>k a b c h) c
noncomputable def vU (e:Expr) (f:Option Expr->Option Expr->Option Expr->Pos->Bool):Bool:=if h:e.ctorIdx=26 then @R5.elim (fun _=>Bool) e h f else false
@[elab_as_elim]
theorem Da {P:Expr->Prop} (e:Expr) {f:Option Expr->Option Expr->Option Expr->Pos->Bool} (h:vU e f=true) (k:∀ a b c d,f a b c d=true->P (.Slice a b c d)):P e :=
 (pk h).elim fun c => @R5.elim (fun e => ∀ c, @R5.elim (fun _=>Bool) e c f=true->P e) e c (fun a b c d _ h=>k a b c d h) c
noncomputable def mR (e:Expr) (f:Expr->List ID->Scope->Pos->Bool):Bool:=if h:e.ctorIdx=8 then @P4.elim (fun _=>Bool) e h f else false
@[elab_as_elim]
theorem vW {P:Expr->Prop} (e:Expr) {f:Expr->List ID->Scope->Pos->Bool} (h:mR e f=true) (k:∀ a b c d,f a b c d=true->P (.ListComp a b c d)):P e :=
 (pk h).elim fun c => @P4.elim (fun e => ∀ c, @P4.elim (fun _=>Bool) e c f=true->P e) e c (fun a b c d _ h=>k a b c d h) c
noncomputable def zV (e:Expr) (f:List (Option Expr)->List Expr->Pos->Bool):Bool:=if h:e.ctorIdx=6 then @Rc.elim (fun _=>Bool) e h f else false
@[elab_as_elim]
theorem Ef {P:Expr->Prop} (e:Expr) {f:List (Option Expr)->List Expr->Pos->Bool} (h:zV e f=true) (k:∀ a b c,f a b c=true->P (.Dict a b c)):P e :=
 (pk h).elim fun c => @Rc.elim (fun e => ∀ c, @Rc.elim (fun _=>Bool) e c f=true->P e) e c (fun a b c _ h=>k a b c h) c
noncomputable def eN (e:Stmt) (f:List Expr->Expr->Pos->Bool):Bool:=if h:e.ctorIdx=5 then @QG.elim (fun _=>Bool) e h f else false
@[elab_as_elim]
theorem ga {P:Stmt->Prop} (e:Stmt) {f:List Expr->Expr->Pos->Bool} (h:eN e f=true) (k:∀ a b c,f a b c=true->P (.Assign a b c)):P e :=
 (pk h).elim fun c => @QG.elim (fun e => ∀ c, @QG.elim (fun _=>Bool) e c f=true->P e) e c (fun a b c _ h=>k a b c h) c
noncomputable def vX (e:Stmt) (f:Expr->Pos->Bool):Bool:=if h:e.ctorIdx=24 then @Rf.elim (fun _=>Bool) e h f else false
@[elab_as_elim]
theorem Db {P:Stmt->Prop} (e:Stmt) {f:Expr->Pos->Bool} (h:vX e f=true) (k:∀ a b,f a b=true->P (.Expr a b)):P e :=
 (pk h).elim fun c => @Rf.elim (fun e => ∀ c, @Rf.elim (fun _=>Bool) e c f=true->P e) e c (fun a b _ h=>k a b h) c
noncomputable def pL (e:Stmt) (f:Option Expr->Pos->Bool):Bool:=if h:e.ctorIdx=3 then @QH.elim (fun _=>Bool) e h f else false
@[elab_as_elim]
theorem yR {P:Stmt->Prop} (e:Stmt) {f:Option Expr->Pos->Bool} (h:pL e f=true) (k:∀ a b,f a b=true->P (.Return a b)):P e :=
 (pk h).elim fun c => @QH.elim (fun e => ∀ c, @QH.elim (fun _=>Bool) e c f=true->P e) e c (fun a b _ h=>k a b h) c
noncomputable def Dc (e:Stmt) (f:Expr->List Stmt->List Stmt->Pos->Bool):Bool:=if h:e.ctorIdx=12 then @Stmt.If.elim (fun _=>Bool) e h f else false
@[elab_as_elim]
theorem EZ {P:Stmt->Prop} (e:Stmt) {f:Expr->List Stmt->List Stmt->Pos->Bool} (h:Dc e f=true) (k:∀ a b c d,f a b c d=true->P (.If a b c d)):P e :=
 (pk h).elim fun c => @Stmt.If.elim (fun e => ∀ c, @Stmt.If.elim (fun _=>Bool) e c f=true->P e) e c (fun a b c d _ h=>k a b c d h) c
noncomputable def zW (e:Stmt) (f:Expr->Expr->List Stmt->List Stmt->Pos->Bool):Bool:=if h:e.ctorIdx=9 then @Stmt.For.elim (fun _=>Bool) e h f else false
@[elab_as_elim]
theorem Eg {P:Stmt->Prop} (e:Stmt) {f:Expr->Expr->List Stmt->List Stmt->Pos->Bool} (h:zW e f=true) (k:∀ a b c d e,f a b c d e=true->P (.For a b c d e)):P e :=
 (pk h).elim fun c => @Stmt.For.elim (fun e => ∀ c, @Stmt.For.elim (fun _=>Bool) e c f=true->P e) e c (fun a b c d e _ h=>k a b c d e h) c
noncomputable def rn (e:Stmt) (f:Expr->List Stmt->List Stmt->Pos->Bool):Bool:=if h:e.ctorIdx=11 then @R6.elim (fun _=>Bool) e h f else false
@[elab_as_elim]
theorem Bg {P:Stmt->Prop} (e:Stmt) {f:Expr->List Stmt->List Stmt->Pos->Bool} (h:rn e f=true) (k:∀ a b c d,f a b c d=true->P (.While a b c d)):P e :=
 (pk h).elim fun c => @R6.elim (fun e => ∀ c, @R6.elim (fun _=>Bool) e c f=true->P e) e c (fun a b c d _ h=>k a b c d h) c
noncomputable def vY (e:Stmt) (f:Pos->Bool):Bool:=if h:e.ctorIdx=25 then @Rg.elim (fun _=>Bool) e h f else false
@[elab_as_elim]
theorem Dd {P:Stmt->Prop} (e:Stmt) {f:Pos->Bool} (h:vY e f=true) (k:∀ a,f a=true->P (.Pass a)):P e :=
 (pk h).elim fun c => @Rg.elim (fun e => ∀ c, @Rg.elim (fun _=>Bool) e c f=true->P e) e c (fun a _ h=>k a h) c
noncomputable def rp (e:Stmt) (f:Pos->Bool):Bool:=if h:e.ctorIdx=26 then @R7.elim (fun _=>Bool) e h f else false
@[elab_as_elim]
theorem Bh {P:Stmt->Prop} (e:Stmt) {f:Pos->Bool} (h:rp e f=true) (k:∀ a,f a=true->P (.Break a)):P e :=
 (pk h).elim fun c => @R7.elim (fun e => ∀ c, @R7.elim (fun _=>Bool) e c f=true->P e) e c (fun a _ h=>k a h) c
noncomputable def kw (e:Stmt) (f:Pos->Bool):Bool:=if h:e.ctorIdx=27 then @P5.elim (fun _=>Bool) e h f else false
@[elab_as_elim]
theorem tG {P:Stmt->Prop} (e:Stmt) {f:Pos->Bool} (h:kw e f=true) (k:∀ a,f a=true->P (.Continue a)):P e :=
 (pk h).elim fun c => @P5.elim (fun e => ∀ c, @P5.elim (fun _=>Bool) e c f=true->P e) e c (fun a _ h=>k a h) c
noncomputable def lv0 {α:Type} (xs:List α) (b:Bool):Bool:=xs.isEmpty&&b
noncomputable def lvc {α:Type} (xs:List α) (f : α -> List α -> Bool):Bool:=match xs with
 | y::r=>f y r
 | [] => false
noncomputable def lv1 {α:Type} (xs:List α) (f : α -> Bool):Bool:=lvc xs fun y r=>lv0 r (f y)
noncomputable def lv2 {α:Type} (xs:List α) (f : α -> α -> Bool):Bool:=lvc xs fun y r=>lv1 r (f y)
noncomputable def os {α:Type} (o:Option α) (f : α -> Bool):Bool:=match o with
 | some x=>f x
 | none=>false
noncomputable def on {α:Type} (o:Option α) (b:Bool):Bool:=o.isNone&&b
@[elab_as_elim]
theorem gN {α:Type} {P:List α -> Prop} (xs:List α) {b:Bool} (h:lv0 xs b=true) (k:b=true->P []):P xs:=by
 cases xs with
 | nil=>exact k h
 | cons _ _=>cases h
@[elab_as_elim]
theorem De {α:Type} {P:List α -> Prop} (xs:List α) {f : α -> List α -> Bool} (h:lvc xs f=true) (k:∀ y r,f y r=true->P (y::r)):P xs:=by
 cases xs with
 | nil=>cases h
 | cons y r=>exact k y r h
@[elab_as_elim]
theorem cW {α:Type} {P:List α -> Prop} (xs:List α) {f : α -> Bool} (h:lv1 xs f=true) (k:∀ y,f y=true->P [y]):P xs :=
 De xs h fun y r h=>gN r h fun h=>k y h
@[elab_as_elim]
theorem gO {α:Type} {P:List α -> Prop} (xs:List α) {f : α -> α -> Bool} (h:lv2 xs f=true) (k:∀ y z,f y z=true->P [y,z]):P xs :=
 De xs h fun y r h=>cW r h fun z h=>k y z h
@[elab_as_elim]
theorem jos {α:Type} {P:Option α -> Prop} (o:Option α) {f : α -> Bool} (h:os o f=true) (k:∀ x,f x=true->P (some x)):P o:=by
 cases o with
 | none=>cases h
 | some x=>exact k x h
@[elab_as_elim]
theorem jon {α:Type} {P:Option α -> Prop} (o:Option α) {b:Bool} (h:on o b=true) (k:b=true->P none):P o:=by
 cases o with
 | none=>exact k h
 | some x=>cases h
theorem cm {a b:Bool} (h:(a&&b)=true):a=true/\b=true:=by rwa [hH] at h
noncomputable def cF (e:Expr) (g:Str->List Expr->Bool):Bool:=tE e fun f xs ks _=>lv0 ks (dy f fun x _=>g x xs)
@[elab_as_elim]
theorem cX {P:Expr->Prop} (e:Expr) {g:Str->List Expr->Bool} (h:cF e g=true) (k:∀ x xs p pos,g x xs=true->P (.Call (.Name x p) xs [] pos)):P e :=
 zU e h fun f xs ks pos h=>gN ks h fun h=>dS f h fun x p h=>k x xs p pos h
noncomputable def kx (e:Expr) (g:Expr->Str->List Expr->Pos->Pos->Bool):Bool:=tE e fun f xs ks p=>lv0 ks (ku f fun o n q=>g o n xs q p)
@[elab_as_elim]
theorem nv {P:Expr->Prop} (e:Expr) {g:Expr->Str->List Expr->Pos->Pos->Bool} (h:kx e g=true) (k:∀ o n xs q p,g o n xs q p=true->P (.Call (.Attribute o n q) xs [] p)):P e :=
 zU e h fun f xs ks pos h=>gN ks h fun h=>tF f h fun o n q h=>k o n xs q pos h
noncomputable def iSl (e:Expr) (g:Expr->Option Expr->Option Expr->Option Expr->Bool):Bool:=dU e fun x y _=>vU y fun l u s _=>g x l u s
@[elab_as_elim]
theorem jSl {P:Expr->Prop} (e:Expr) {g:Expr->Option Expr->Option Expr->Option Expr->Bool} (h:iSl e g=true) (k:∀ x l u s p pos,g x l u s=true->P (.Subscript x (.Slice l u s p) pos)):P e :=
 fZ e h fun x y pos h=>Da y h fun l u s p h=>k x l u s p pos h
mutual
noncomputable def okG:MG->Ctx->Expr->Bool
 | .name i,C,e=>dy e fun x _=>decide (C.N[i]? = some x)&&yO C.sc x&&(C.sc.names.lookup x==some .local || C.fn.contains x)
 | .tup gs,C,e=>cV e fun es _ _=>okGs gs C es
noncomputable def okGs:MGs->Ctx->List Expr->Bool
 | .nil,_,es=>es.isEmpty
 | .cons g r,C,es=>match es with
  | e::es=>aT e&&okG g C e&&okGs r C es
  | [] => false
end
mutual
noncomputable def okE:ME->Ctx->Expr->Bool
 | .var i,C,e=>dy e fun x _=>decide (C.N[i]? = some x)&&yN C.sc x && !(x==("__debug__":Str)) && !(x==("__classdict__":Str))
 | .int i,_,e=>eU e fun c _ _=>decide (c = .int i)
 | .bl i,_,e=>eU e fun c _ _=>decide (c = .bool i)
 | .non,_,e=>eU e fun c _ _=>decide (c = .none)
 | .bin op a b,C,e=>vS e fun l o r _=>decide (o=opO op)&&okE a C l&&okE b C r
 | .neg a,C,e=>fY e fun o x _=>decide (o = .USub)&&okE a C x
 | .cmp op a b,C,e=>jd e fun l os rs _=>lv1 os fun o=>lv1 rs fun r=>decide (o=yP op)&&okE a C l&&okE b C r && !(Ld o r)
 | .and es,C,e=>fu e fun o xs _=>decide (o = .And) && !xs.isEmpty&&okEs es C xs
 | .or es,C,e=>fu e fun o xs _=>decide (o = .Or) && !xs.isEmpty&&okEs es C xs
 | .not a,C,e=>fY e fun o x _=>decide (o = .Not)&&okE a C x
 | .ite c a b,C,e=>vT e fun t x y _=>okT c C t&&okE a C x&&okE b C y
 | .tup es,C,e=>cV e fun xs _ _=>okEs es C xs
 | .lst es,C,e=>zT e fun xs _=>okEs es C xs
 | .ix a b,C,e=>dU e fun x y _=>fo y&&okE a C x&&okE b C y
 | .sl a lo hi,C,e=>iSl e fun x l u s=>on s (okE a C x&&okO lo C l&&okO hi C u)
 | .call f es,C,e=>cF e fun x xs=>decide (C.Γ[f]? = some x)&&glB C.sc x && !(x==("__debug__":Str))&&okEs es C xs
 | .blt f es,C,e=>cF e fun x xs=>decide (x=pJ f)&&glB C.sc x && !xs.isEmpty&&okEs es C xs
 | .isin2 a T U,C,e=>cF e fun x xs=>lv2 xs fun y w=>cV w fun ws _ _=>lv2 ws fun z' v'=>dy z' fun z _=>dy v' fun v _=>decide (x = "isinstance")&&glB C.sc x&&glB C.sc z&&glB C.sc v&&decide (z=IP T)&&decide (v=IP U)&&decide (T∈["bool", "int", "str", "tuple", "list", "dict"])&&decide (U∈["bool", "int", "str", "tuple", "list", "dict"])&&aT y&&okE a C y
 | .isin a T,C,e=>cF e fun x xs=>lv2 xs fun y w=>dy w fun z _=>decide (x = "isinstance")&&glB C.sc x&&glB C.sc z&&decide (z=IP T)&&decide (T∈["bool", "int", "str", "tuple", "list", "dict"])&&aT y&&okE a C y
 | .glob x k,C,e=>dy e fun y _=>decide (y=x)&&glB C.sc y&&decide ((x,k)∈C.cs) && !(x==("__debug__":Str))
 | .dnew _,_,e=>zV e fun ks vs _=>lv0 ks (lv0 vs true)
 | .dget o k x,C,e=>kx e fun y n xs ap cp=>lv2 xs fun e1 e2=>decide (n = "get")&&eh y&&(ap.endLine==cp.line)&&aT e1&&aT e2&&okE o C y&&okE k C e1&&okE x C e2
 | .lrng a,C,e=>cF e fun x xs=>lv1 xs fun w=>cF w fun z ys=>lv1 ys fun y=>decide (x = "list")&&glB C.sc x&&decide (z = "range")&&glB C.sc z&&aT y&&okE a C y
 | .meth m o a,C,e=>kx e fun x n xs ap cp=>lv1 xs fun y=>decide (n=D7 m)&&eh x&&(ap.endLine==cp.line)&&aT y&&okE o C x&&okE a C y
 | .ins o i a,C,e=>kx e fun x n xs ap cp=>lv2 xs fun y z=>decide (n = "insert")&&eh x&&(ap.endLine==cp.line)&&aT y&&aT z&&okE o C x&&okE i C y&&okE a C z
 | .meth0 m o,C,e=>kx e fun x n xs ap cp=>lv0 xs (decide (n=Bf m)&&eh x&&(ap.endLine==cp.line)&&okE o C x)
 | .comp fr N' c,C,e=>mR e fun elt gens sc _=>yQ sc C.sc C.N N' fr&&okC c C ⟨C.Γ,N',jb sc C.sc,(sc.names.filter (·.2 == .cell)).map (·.1),C.cs⟩ gens elt
noncomputable def okEs:MEs->Ctx->List Expr->Bool
 | .nil,_,es=>es.isEmpty
 | .cons m r,C,es=>match es with
  | e::es=>aT e&&okE m C e&&okEs r C es
  | [] => false
noncomputable def okO:MO->Ctx->Option Expr->Bool
 | .none,_,e=>e.isNone
 | .some m,C,e=>match e with
  | some e=>okE m C e
  | none=>false
noncomputable def okT:MT->Ctx->Expr->Bool
 | .tru m,C,e=>pI e&&okE m C e
 | .cmp op a b,C,e=>jd e fun l os rs _=>lv1 os fun o=>lv1 rs fun r=>decide (o=yP op)&&okE a C l&&okE b C r && !(Ld o r)
 | .and ts,C,e=>fu e fun o xs _=>decide (o = .And) && !xs.isEmpty&&okTs ts C xs
 | .or ts,C,e=>fu e fun o xs _=>decide (o = .Or) && !xs.isEmpty&&okTs ts C xs
 | .not t,C,e=>fY e fun o x _=>decide (o = .Not)&&okT t C x
noncomputable def okTs:MTs->Ctx->List Expr->Bool
 | .nil,_,es=>es.isEmpty
 | .cons m r,C,es=>match es with
  | e::es=>okT m C e&&okTs r C es
  | [] => false
noncomputable def okI:MI->Ctx->Expr->Expr->Bool
 | .seq m,C,_,e=>kr e&&okE m C e
 | .keys m,C,_,e=>kr e&&okE m C e
 | .rng1 a,C,_,e=>cF e fun x xs=>lv1 xs fun y=>decide (x = "range")&&glB C.sc x&&aT y&&okE a C y
 | .enum a,C,t,e=>cF e fun x xs=>lv1 xs fun y=>cV t fun _ _ _=>decide (x = "enumerate")&&glB C.sc x&&aT y&&okE a C y
 | .zip a b,C,t,e=>cF e fun x xs=>lv2 xs fun y z=>cV t fun _ _ _=>decide (x = "zip")&&glB C.sc x&&aT y&&aT z&&okE a C y&&okE b C z
noncomputable def okC:MC->Ctx->Ctx->List ID->Expr->Bool
 | .last src g ifs m,Cs,C,gens,elt=>match gens with
  | [⟨t,it,fs,a⟩] => decide (a=0)&&okI src Cs t it&&okG g C t&&okTs ifs C fs&&okE m C elt
  | _=>false
 | .more src g ifs rest,Cs,C,gens,elt=>match gens with
  | ⟨t,it,fs,a⟩::g2::gs=>decide (a=0)&&okI src Cs t it&&okG g C t&&okTs ifs C fs&&okC rest C C (g2::gs) elt
  | _=>false
end
noncomputable def bq (sc:Scope) (ts:List Expr):List Str:=ts.filterMap fun
 | .Name id pos=>if sc.names.lookup id==some .local&&pos.line==(ts.head?.map (·.pos.line)).getD 0 then some id else none
 | _=>none
noncomputable def tH (sc:Scope) (ts vs:List Expr):Bool := !(ts.length==2 || ts.length==3) || vs.length != ts.length || (bq sc ts).length != ts.length || (bq sc ts).eraseDups.length != (bq sc ts).length || vs.all (P6 8)
noncomputable def tI (C:Ctx) (i:Nat) (x:Str):Bool:=decide (C.N[i]? = some x)&&decide (C.sc.names.lookup x=some .local)
noncomputable def tJ (sc:Scope) (ts vs:List Expr) (ns:List Str):Bool := !(!(ts.length==2 || ts.length==3) || vs.length != ts.length) && !(vs.any fun | .Starred .. => true | _=>false)&&decide (bq sc ts=ns) && !((bq sc ts).length != ts.length || (bq sc ts).eraseDups.length != (bq sc ts).length) && !(vs.all (P6 8)) && !(vs.all (constantsAlone 8))
noncomputable def iy (sc:Scope) (tg e:Expr):Bool:=match tg,e with
 | .Tuple ts _ _, .Tuple vs _ _=>tH sc ts vs
 | .Tuple ..,_=>true
 | .Name ..,_=>true
 | _,_=>false
noncomputable def Df (sc:Scope) (x:Str) (px:Pos) (e:Expr):Bool:=match e with
 | .DictComp _ _ _ s _ => !(sc.names.lookup x==some .local&&px.line==e.pos.line && !(s.names.any fun (n,k)=>n==x&&(k == .local || k == .cell)))
 | _=>true
noncomputable def tK (sc:Scope) (x:Str) (px:Pos) (e:Expr):Bool:=match e with
 | .ListComp _ _ s _=>sc.names.lookup x==some .local&&px.line==e.pos.line && !(s.names.any fun (n,k)=>n==x&&(k == .local || k == .cell))
 | _=>false
mutual
noncomputable def okS:MS->Ctx->Stmt->Bool
 | .asg g m,C,s=>eN s fun ts e _=>lv1 ts fun tg=>okG g C tg&&okE m C e&&iy C.sc tg e&&(match tg with | .Name x px=>Df C.sc x px e | _=>fq e)
 | .asgL gs m,C,s=>eN s fun ts e _=>lv1 ts fun tg=>cV tg fun ts k p=>okGs gs C ts&&okE m C e&&iy C.sc (.Tuple ts k p) e&&fq e
 | .par i j a b,C,s=>eN s fun ts e _=>lv1 ts fun tg=>cV tg fun ts _ _=>cV e fun es _ _=>lv2 ts fun t u=>lv2 es fun e f=>dy t fun x px=>dy u fun y py=>tI C i x&&tI C j y&&decide (i≠j)&&aT e&&aT f&&okE a C e&&okE b C f&&tJ C.sc [.Name x px, .Name y py] [e,f] [x,y]
 | .put o i m,C,s=>eN s fun ts e _=>lv1 ts fun tg=>dU tg fun x y _=>fo y&&fq e&&okE o C x&&okE i C y&&okE m C e
 | .drop m,C,s=>vX s fun e _=>fq e&&okE m C e
 | .ret m,C,s=>pL s fun o _=>os o fun e=>okE m C e
 | .ite c a b,C,s=>Dc s fun t x y _=>okT c C t&&okSs a C x&&okSs b C y
 | .for g src b,C,s=>zW s fun tg it body els _=>lv0 els (kr it&&okG g C tg&&okI src C tg it&&okSs b C body)
 | .while c b,C,s=>rn s fun t body els _=>lv0 els (okT c C t&&okSs b C body)
 | .frz _ m,C,s=>okS m C s
 | .pass,_,s=>vY s fun _=>true
 | .brk,_,s=>rp s fun _=>true
 | .cnt,_,s=>kw s fun _=>true
noncomputable def okSs:MSs->Ctx->List Stmt->Bool
 | .nil,_,ss=>ss.isEmpty
 | .cons m r,C,ss=>match ss with
  | s::ss=>okS m C s&&okSs r C ss
  | [] => false
end
theorem ak {e:Expr} {es:List Expr} {env:Env} (h:aT e=true):HP (e::es) env=(false,eval e env)::HP es env:=by
 cases e <;> first | rfl | (simp [aT] at h;done)
theorem mU {e:Expr} {es:List Expr} {env:Env} (h:aT e=true):IS (e::es) env=(false,assign e env)::IS es env:=by
 cases e <;> first | rfl | (simp [aT] at h;done)
theorem tL {e:Expr} {env:Env} (h:pI e=true):∀ whole,isTrue e env whole=(do let v <- whole;Np e.pos;holding [v] (truthy v)):=by
 intro w
 cases e <;> first | rfl | (simp [pI] at h;done)
theorem yS {e:Expr} (h:fo e=true):kI e:=by
 intro o i
 cases e <;> first | rfl | (simp [fo] at h;done)
theorem pM {e:Expr} {env:Env} (h:kr e=true):∀ x,JH e env x=pure x:=by
 intro x
 cases e <;> first | rfl | (simp [kr] at h;done)
theorem cL {e:Expr} {n:Str} {env:Env} (h:eh e=true):Nw e n env (eval e env)=eval e env:=by
 cases e <;> first | rfl | (simp [eh] at h;done)
theorem iz {e:Expr} {t:Option Expr} {l:Nat} {env:Env} (h:fq e=true):Lr e t l env=pure false:=by
 cases e <;> first | rfl | (simp [fq] at h;done)
end
section
noncomputable def lSp (K:Frag) (r:RAd):Sp:=fun vs H Q _=>lR K r vs H Q
structure Good (C:Ctx) (Φ:Phi) (k:Nat) (X:Cx):Prop where
 hx:∀ e s,X.xe e s->False
 calm:X.calm=true
 N:X.N=C.N
 sc:X.env.scope=C.sc
 nd:X.N.Nodup
 fn:∀ x∈C.fn,X.fn x=true
 room:Room k X.A
 mgB:∀ x∈bltNames,X.mg x=none
 fns:∀ (i:Nat) (x:Str),C.Γ[i]? = some x -> ∃ f fd ps,X.mg x=some (.ref f)/\L3 X.K (.ref f)=true/\Binds X.K fd ps []/\eE X.prog X.w X.K X.mg X.base CX0 k f fd ps (lSp X.K (Φ i))
 mono:∀ f,bh (Φ f)
 cs:∀ x d,(x,d)∈C.cs -> ∃ u,X.mg x=some u/\GV X.K d u
section
variable {C:Ctx} {Φ:Phi} {k:Nat} {X:Cx}
theorem Good.units (G:Good C Φ k X):X.A.units+64 < K1:=G.room.units
theorem Good.gl (G:Good C Φ k X) {x:Str} (h:glB C.sc x=true):Gl X x:=by
 show X.env.scope.names.lookup x=_;rw [G.sc];simpa [glB] using h
theorem Good.vis (G:Good C Φ k X) {x:Str} (h:yN C.sc x=true):Vis X.env.scope x:=by
 unfold Vis;rw [G.sc];simp [yN] at h
 rcases h with (h | h) | h
 ·exact .inl h
 ·exact .inr (.inl h)
 ·exact .inr (.inr h)
theorem Good.loc (G:Good C Φ k X) {x:Str} (h:yO C.sc x=true):Loc X.env.scope x:=by
 unfold Loc;rw [G.sc];simpa [yO] using h
theorem Good.own (G:Good C Φ k X) {x:Str} (h:(C.sc.names.lookup x==some .local || C.fn.contains x)=true):X.fn x=true∨X.env.scope.names.lookup x=some .local:=by
 rw [G.sc];simp at h
 rcases h with h | h
 ·exact .inr h
 ·exact .inl (G.fn x h)
theorem Dg (G:Good C Φ k X):∀ o:BOp,OpR X (Jg (opO o)) (l2 X.K (opB o))
 | .add=>xT | .sub=>xU | .mul=>xV | .fdiv=>uV | .mod=>xX | .pow=>xY
theorem rq (G:Good C Φ k X):∀ o:COp,OpR X (Jm (yP o)) (l2 X.K (opC o))
 | .eq=>AA (by have:=G.units;lia) | .ne=>AB (by have:=G.units;lia) | .lt=>AF| .gt=>AG | .ge=>AH| .eqD=>yG (by have:=G.units;lia)| .inS=>yJ
theorem Dh (G:Good C Φ k X) {f:BF} {e:Expr} {es:List Expr} {t:TAd} {p pos:Pos} (mt:bJ t) (q:Gl X (pJ f)) (z:PA X (e::es) (lA X.K t))
 (he:HP (e::es) X.env=(false,eval e X.env)::HP es X.env) (j:(Lb pos (HP es X.env)).any (·.1)=false):PE X (.Call (.Name (pJ f) p) (e::es) [] pos) (lE X.K (wAr (opF f) t)):=by
 cases f with
 | len=>exact PE.imp (cn sL q (G.mgB _ (by decide)) PySem.boot_len z (by decide) (by decide) he j) (bT nU mt)
 | abs=>exact PE.imp (cn sM q (G.mgB _ (by decide)) (by decide +kernel) z (by decide) (by decide) he j) (bT nX mt)
 | min2=>exact PE.imp (cn (qv G.calm) q (G.mgB _ (by decide)) (by decide +kernel) z (by decide) (by decide) he j) (bT mj mt)
 | int=>exact PE.imp (eQ sN q (G.mgB _ (by decide)) (by decide +kernel) z (by decide) (by decide) he j) (bT nY mt)
 | list=>exact PE.imp (eQ qw q (G.mgB _ (by decide)) (by decide +kernel) z (by decide) (by decide) he j) (bT mn mt)
 | tuple=>exact PE.imp (eQ oh q (G.mgB _ (by decide)) (by decide +kernel) z (by decide) (by decide) he j) (bT jL mt)
 | all=>exact PE.imp (cn (sX G.calm) q (G.mgB _ (by decide)) (by decide +kernel) z (by decide) (by decide) he j) (bT oG mt)
 | any=>exact PE.imp (cn (sY G.calm) q (G.mgB _ (by decide)) (by decide +kernel) z (by decide) (by decide) he j) (bT oH mt)
 | dict=>exact PE.imp (eQ (qG (by have:=G.units;lia) G.calm) q (G.mgB _ (by decide)) (by decide +kernel) z (by decide) (by decide) he j) (bT mP mt)
 | sortk=>exact PE.imp (cn (pB (by have:=G.units;lia) G.calm) q (G.mgB _ (by decide)) (by decide +kernel) z (by decide) (by decide) he j) (bT kl mt)
theorem Bi (G:Good C Φ k X) {f:Nat} {x:Str} {e:Expr} {es:List Expr} {t:TAd} {p pos:Pos} (mt:bJ t) (hf:C.Γ[f]? = some x) (z:Gl X x) (j:(x==("__debug__":Str))=false) (B:PA X (e::es) (lA X.K t))
 (he:HP (e::es) X.env=(false,eval e X.env)::HP es X.env) (q:(Lb pos (HP es X.env)).any (·.1)=false):PE X (.Call (.Name x p) (e::es) [] pos) (lE X.K (wAr (Φ f) t)):=by
 obtain ⟨a,fd,ps,hm,J,L,F⟩:=G.fns f x hf;refine PE.imp (Al F G.room z hm J L .nil zF B j he q) fun σ H Q h => ?_;have h2:=bT (G.mono f) mt σ H Q h;have:(fun vs H1=>lSp X.K (Φ f) (vs++[]) H1 Q E0)=fun vs H1=>lR X.K (Φ f) vs H1 Q:=by
  funext vs H1;rw [IH];rfl
 show (lA X.K t) σ H _;rw [this];exact h2
theorem yT (G:Good C Φ k X) {f:Nat} {x:Str} {p pos:Pos} (hf:C.Γ[f]? = some x) (z:Gl X x) (j:(x==("__debug__":Str))=false):PE X (.Call (.Name x p) [] [] pos) (lE X.K (wAr (Φ f) bI)):=by
 obtain ⟨a,fd,ps,hm,B,J,F⟩:=G.fns f x hf;refine PE.imp (xu F G.room z hm B J .nil zF j) fun σ H Q h => ?_;obtain ⟨ρ,M,rs,rm,q⟩:=h;exact ⟨[],M,rm,RDs.nil,q⟩
theorem je {env:Env} {pos:Pos}:∀ {es:List Expr},es.all aT=true->(Lb pos (HP es env)).any (·.1)=false
 | [],_=>rfl
 | e::es,h=>by
   simp only [JB,hH] at h;rw [ak h.1];show (false || (Lb pos (HP es env)).any (·.1))=false
   rw [je h.2];rfl
theorem gP:∀ {ms:MEs} {es:List Expr},okEs ms C es=true->es.all aT=true
 | .nil,[],_=>rfl
 | .nil,_::_,h=>by simp [okEs] at h
 | .cons m r,[],h=>by simp [okEs] at h
 | .cons m r,e::es,h=>by
  simp only [okEs,hH] at h;simp only [JB,hH];exact ⟨h.1.1,gP h.2⟩
theorem lj:∀ {gs:MGs} {es:List Expr},okGs gs C es=true -> ∀ ds ρ ρ',bGs gs ds ρ = some ρ'->ds.length=es.length
 | .nil,es,h,ds, ρ, ρ',e=>by
  simp [okGs] at h;subst h;rw [bGs] at e
  cases ds with
  | nil=>rfl
  | cons _ _=>cases e
 | .cons g r,[],h,_,_,_,_=>by simp [okGs] at h
 | .cons g r,x::es,h,ds, ρ, ρ',e=>by
  simp only [okGs,hH] at h;rw [bGs] at e
  cases ds with
  | nil=>cases e
  | cons d ds =>
    simp only [bX] at e
    cases e1:bG g d ρ with
    | none=>rw [e1] at e;cases e
    | some ρ1 =>
      rw [e1] at e;simp [lj h.2 ds ρ1 ρ' e]
theorem jf {env:Env}:∀ {gs:MGs} {es:List Expr},okGs gs C es=true->(IS es env).length=es.length/\(IS es env).findIdx? (·.1)=none
 | .nil,es,h=>by simp [okGs] at h;subst h;exact ⟨rfl,rfl⟩
 | .cons g r,[],h=>by simp [okGs] at h
 | .cons g r,x::es,h=>by
  simp only [okGs,hH] at h;obtain ⟨a,b⟩:=jf (env:=env) h.2;rw [mU h.1.1];refine ⟨by simp [a], ?_⟩
  rw [List.findIdx?_cons];simp [b]
mutual
theorem sG (G:Good C Φ k X):∀ (m:MG) (e:Expr),okG m C e=true->PG X e (lG X.K (bG m))
 | .name i,e,h=>by
  refine dS e h fun x _ h => ?_;simp only [hH] at h;exact AR G.nd (by rw [G.N];exact of_decide_eq_true h.1.1) (G.loc h.1.2) (G.own h.2)
 | .tup gs,e,h=>by
  refine dD e h fun es _ _ h => ?_;rw [bG];obtain ⟨a,b⟩:=jf (env:=X.env) h;exact CJ G.calm (lj h) (sGs G gs _ h) a b
theorem sGs (G:Good C Φ k X):∀ (m:MGs) (es:List Expr),okGs m C es=true->PGs X es (lGs X.K (bGs m))
 | .nil,es,h=>by
  simp [okGs] at h;subst h;exact AS
 | .cons g r,[],h=>by simp [okGs] at h
 | .cons g r,e::es,h=>by
  simp only [okGs,hH] at h;exact yd (sG G g e h.1.2) (sGs G r es h.2) (by rw [mU h.1.1];rfl)
end
theorem PB.imp {F:Sem Fin->Sem Fin} {t t':TC} (h:PB X F t) (i:∀ σ H N,t' σ H N->t σ H N):PB X F t':=fun pins s σ H N k Q E I q hk=>h pins s σ H N k Q E I (i _ _ _ q) hk
theorem ky {sc osc:Scope} {oN N':List Str} {fr:List (Option Nat)} (h:yQ sc osc oN N' fr=true):bu sc osc oN N' fr:=by
 simp only [yQ,hH,decide_eq_true_eq] at h;obtain ⟨⟨⟨⟨⟨h1,h2⟩,F⟩,G⟩,J⟩,L⟩:=h;refine ⟨h1,h2,F,fun x hx e => ?_,J,fun i j x hi hf => ?_⟩
 ·have z:=L9.mp G x hx;rw [e] at z;simpa using z
 ·have B:i < N'.length:=(HC.mp hi).1;have q:=L9.mp L i (Ia.mpr B);rw [hf,hi] at q;simp only [hH,decide_eq_true_eq,JA] at q;obtain ⟨a,y,O,e⟩:=q;exact ⟨a,by rw [<- e];exact O⟩
theorem Good.blk (G:Good C Φ k X) {sc:Scope} {N':List Str} {fr:List (Option Nat)} (B:bu sc C.sc C.N N' fr) (s:hI) (H:Hp) (fp:List Addr) :
 Good ⟨C.Γ,N',jb sc C.sc,(sc.names.filter (·.2 == .cell)).map (·.1),C.cs⟩ Φ k (aO X sc N' s H fp):=by
 refine ⟨fun _ _ h=>h,G.calm,rfl, ?_,B.ndN,fun x hx => ?_,G.room,G.mgB,G.fns,G.mono,G.cs⟩
 ·show relabel sc X.env=_;rw [qH,G.sc]
 ·obtain ⟨y,q,e⟩:=HF.mp hx;obtain ⟨h1,h2⟩:=K5.mp q;obtain ⟨n,kd⟩:=y;have j:kd = .cell:=by simpa using h2
  subst j;have e':n=x:=e;subst e';show (sc.names.lookup n==some .cell)=true;rw [b8 B.nd h1];rfl
end
end
section
section
variable {Φ:Phi} {k:Nat}
theorem eA {C:Ctx} {X:Cx} (G:Good C Φ k X) {F:Sem Fin->Sem Fin} {p:Addr} {tb:TCd} {ifs:List Expr} {ts:List TTd} (mb:cz tb) (mt:∀ t∈ts,aJ t) (j:PB X F (lC X.K p tb)) (q:Ig (fun c t=>PT X c t) ifs (ts.map (lT X.K))) :
 PB X (fun k=>bH ifs X.env >>= fun ok=>if ok=true then F k else k) (lC X.K p (bN ts tb)) :=
 PB.imp (xI G.hx j q) (jV mb mt)
theorem gQ {m:MC} {Cs C:Ctx} {g2:ID} {gs:List ID} {elt:Expr} (h:okC m Cs C (g2::gs) elt=true):g2.is_async=0:=by
 obtain ⟨t,i,f,a⟩:=g2
 cases m with
 | last src g ifs m =>
   cases gs with
   | nil=>simp only [okC,hH,decide_eq_true_eq] at h;exact h.1.1.1.1
   | cons _ _=>simp [okC] at h
 | more src g ifs rest =>
   cases gs with
   | nil=>simp [okC] at h
   | cons _ _=>simp only [okC,hH,decide_eq_true_eq] at h;exact h.1.1.1.1
theorem jg {C:Ctx} {X:Cx} (G:Good C Φ k X):∀ T∈["bool", "int", "str", "tuple", "list", "dict"],X.mg (IP T)=none/\JO (IP T)=some (.type T)/\IP T ≠ "__name__" /\ (IP T==("__debug__":Str))=false:=by
 intro T j;simp only [Ho,HZ,or_false] at j
 rcases j with rfl | rfl | rfl | rfl | rfl | rfl
 all_goals exact ⟨G.mgB _ (by decide),by decide +kernel,by decide,by decide⟩
mutual
theorem sE:∀ (m:ME) {C:Ctx} {X:Cx} (G:Good C Φ k X) (e:Expr),okE m C e=true->PE X e (lE X.K (wE Φ m))
 | .var i,C,X,G,e,h=>by
  refine dS e h fun x _ h => ?_;simp only [hH,Je,decide_eq_true_eq] at h;exact Ct (by rw [G.N];exact h.1.1.1) (G.vis h.1.1.2) h.1.2 h.2
 | .int i,C,X,G,e,h=>by
  refine gM e h fun c _ _ h => ?_;rw [of_decide_eq_true h];exact Cu
 | .bl i,C,X,G,e,h=>by
  refine gM e h fun c _ _ h => ?_;rw [of_decide_eq_true h];exact DZ
 | .non,C,X,G,e,h=>by
  refine gM e h fun c _ _ h => ?_;rw [of_decide_eq_true h];exact Cv
 | .bin op a b,C,X,G,e,h=>by
  refine D8 e h fun l o r _ h => ?_;simp only [hH,decide_eq_true_eq] at h;rw [h.1.1];exact E1 (Dg G op) (pH op) (mE G.mono a) (mE G.mono b) (sE a G _ h.1.2) (sE b G _ h.2)
 | .neg a,C,X,G,e,h=>by
  refine jc e h fun o x _ h => ?_;replace h:=cm h;obtain ⟨ho,h⟩:=h
  cases of_decide_eq_true ho
  exact E2 xZ nS (mE G.mono a) (sE a G _ h)
 | .cmp op a b,C,X,G,e,h=>by
  refine pK e h fun l os rs pos h => ?_;refine cW os h fun o h => ?_;refine cW rs h fun r h => ?_;simp only [hH,decide_eq_true_eq] at h;obtain ⟨⟨⟨ho,Y⟩,hb⟩,hm⟩:=h;rw [Je] at hm;subst ho;exact Cw (rq G op) (fX op) (mE G.mono a) (mE G.mono b) (sE a G _ Y) (sE b G _ hb) hm
 | .and es,C,X,G,e,h=>by
  refine iw e h fun o xs _ h => ?_;replace h:=cm h;obtain ⟨ho,h⟩:=h;obtain ⟨ho,J⟩:=cm ho
  cases of_decide_eq_true ho
  exact sAnds es G _ _ h (by intro z;rw [z] at J;cases J)
 | .or es,C,X,G,e,h=>by
  refine iw e h fun o xs _ h => ?_;replace h:=cm h;obtain ⟨ho,h⟩:=h;obtain ⟨ho,J⟩:=cm ho
  cases of_decide_eq_true ho
  exact sOrs es G _ _ h (by intro z;rw [z] at J;cases J)
 | .not a,C,X,G,e,h=>by
  refine jc e h fun o x _ h => ?_;replace h:=cm h;obtain ⟨ho,h⟩:=h
  cases of_decide_eq_true ho
  exact CI (mE G.mono a) (sE a G _ h)
 | .ite c a b,C,X,G,e,h=>by
  refine D9 e h fun t x y _ h => ?_;simp only [hH] at h;exact E8 (mT G.mono c) (mE G.mono a) (mE G.mono b) (sT c G _ h.1.1) (sE a G _ h.1.2) (sE b G _ h.2)
 | .tup es,C,X,G,e,h=>by
  refine dD e h fun xs _ _ h => ?_;exact Cz (mA G.mono es) (sA es G _ h)
 | .lst es,C,X,G,e,h=>by
  refine Ee e h fun xs _ h => ?_;exact CA (mA G.mono es) (sA es G _ h)
 | .ix a b,C,X,G,e,h=>by
  refine fZ e h fun x y _ h => ?_;simp only [hH] at h;exact E3 (EV (by have:=G.units;lia)) qS (mE G.mono a) (mE G.mono b) (sE a G _ h.1.2) (sE b G _ h.2) (yS h.1.1)
 | .sl a lo hi,C,X,G,e,h=>by
  refine jSl e h fun x l u s p pos h => ?_;refine jon s h fun  h => ?_;simp only [hH] at h;exact E9 (mE G.mono a) (mO G.mono lo) (mO G.mono hi) (sE a G _ h.1.1) (sO lo G _ h.1.2) (sO hi G _ h.2)
 | .call f es,C,X,G,e,h=>by
  refine cX e h fun x xs p pos h => ?_;simp only [hH,decide_eq_true_eq,Je] at h;have hA:=sA es G _ h.2;have L:=gP h.2
  cases xs with
  | nil =>
    cases es with
    | nil=>exact yT G h.1.1.1 (G.gl h.1.1.2) h.1.2
    | cons _ _=>simp [okEs] at h
  | cons y ys =>
    simp only [JB,hH] at L;exact Bi G (mA G.mono es) h.1.1.1 (G.gl h.1.1.2) h.1.2 hA (ak L.1) (je L.2)
 | .blt f es,C,X,G,e,h=>by
  refine cX e h fun x xs p pos h => ?_;simp only [hH,decide_eq_true_eq,Je] at h;have hA:=sA es G _ h.2;have L:=gP h.2;obtain ⟨⟨⟨rfl,O⟩,J⟩,_⟩:=h
  cases xs with
  | nil=>simp at J
  | cons y ys =>
    simp only [JB,hH] at L;exact Dh G (mA G.mono es) (G.gl O) hA (ak L.1) (je L.2)
 | .glob x k',C,X,G,e,h=>by
  refine dS e h fun x _ h => ?_;simp only [hH,decide_eq_true_eq,Je] at h;obtain ⟨⟨⟨rfl,O⟩,hc⟩,hd⟩:=h;obtain ⟨u,ht,hv⟩:=G.cs _ _ hc;obtain ⟨v,rv,rd⟩:=zS hv;exact PE.imp (Ac (v:=v) (G.gl O) ht rv hd) fun σ H Q ⟨ρ,M,rs,rm,q⟩=>q _ H Ext.refl rm (rd H)
 | .dnew t,C,X,G,e,h=>by
  refine Ef e h fun ks vs _ h => ?_;refine gN ks h fun  h => ?_;refine gN vs h fun  h => ?_;exact AX
 | .dget o k' x,C,X,G,e,h=>by
  refine nv e h fun y n xs ap cp h => ?_;refine gO xs h fun e1 e2 h => ?_;simp only [hH,decide_eq_true_eq] at h;obtain ⟨⟨⟨⟨⟨⟨⟨rfl,j⟩,hl⟩,F6⟩,Z⟩,ho⟩,hk⟩,hx⟩:=h;have st:HP [e1,e2] X.env=[(false,eval e1 X.env),(false,eval e2 X.env)]:=by
   rw [ak F6,ak Z];rfl
  refine B6 (by have:=G.units;lia) (mE G.mono o) (mE G.mono k') (mE G.mono x) (sE o G _ ho) (sE k' G _ hk) (sE x G _ hx) ⟨cL j, ?_,hl, ?_⟩
  ·rw [st];rfl
  ·rw [st];rfl
 | .lrng a,C,X,G,e,h=>by
  refine cX e h fun x xs p pos h => ?_;refine cW xs h fun w h => ?_;refine cX w h fun z ys p2 F9 h => ?_;refine cW ys h fun y h => ?_;simp only [hH,decide_eq_true_eq] at h;obtain ⟨⟨⟨⟨⟨rfl,O⟩,rfl⟩,F5⟩,hs⟩,Y⟩:=h;exact Av (mE G.mono a) G.calm (sE a G _ Y) (G.gl O) (G.mgB _ (by decide)) (G.gl F5) (G.mgB _ (by decide)) (ak hs)
 | .isin2 a T U,C,X,G,e,h=>by
  refine cX e h fun x xs p pos h => ?_;refine gO xs h fun y w h => ?_;refine dD w h fun ws k1 p1 h => ?_;refine gO ws h fun z' v' h => ?_;refine dS z' h fun z p2 h => ?_;refine dS v' h fun v p3 h => ?_;simp only [hH,decide_eq_true_eq] at h;obtain ⟨⟨⟨⟨⟨⟨⟨⟨⟨rfl,O⟩,F5⟩,F7⟩,hz⟩,hy⟩,hT⟩,hU⟩,hs⟩,Y⟩:=h;obtain ⟨n1,n2,n3,n4⟩:=jg G T hT;obtain ⟨m1,m2,m3,m4⟩:=jg G U hU;subst hz hy;exact yB hT hU (mE G.mono a) (sE a G _ Y) (G.gl O) (G.mgB _ (by decide)) (G.gl F5) n1 n2 n3 n4 (G.gl F7) m1 m2 m3 m4 (ak hs)
 | .isin a T,C,X,G,e,h=>by
  refine cX e h fun x xs p pos h => ?_;refine gO xs h fun y w h => ?_;refine dS w h fun z p2 h => ?_;simp only [hH,decide_eq_true_eq] at h;obtain ⟨⟨⟨⟨⟨⟨rfl,O⟩,F5⟩,hz⟩,hT⟩,hs⟩,Y⟩:=h;obtain ⟨n1,n2,n3,n4⟩:=jg G T hT;subst hz;exact AO hT (mE G.mono a) (sE a G _ Y) (G.gl O) (G.mgB _ (by decide)) (G.gl F5) n1 n2 n3 n4 (ak hs) rfl
 | .meth m o a,C,X,G,e,h=>by
  refine nv e h fun x n xs ap cp h => ?_;refine cW xs h fun y h => ?_;simp only [hH,decide_eq_true_eq] at h;obtain ⟨⟨⟨⟨⟨hn,j⟩,hl⟩,hs⟩,ho⟩,Y⟩:=h;subst hn;have pa:PA X [y] (lA X.K (aH (wE Φ a) bI)):=cg (mE G.mono a) ax (sE a G _ Y) eG (ak hs);have few:((Lb cp (HP [y] X.env)).all (fun x => !x.1)&&(QW cp (Ou [] X.env)).all (fun x=>x.1.isSome)&&decide (([y]:List Expr).length+([]:List MA).length+(if ([]:List MA).isEmpty then 0 else 1) < 30))=true:=by
   rw [ak hs];rfl
  cases m with
  | append=>exact PE.imp (jB Jo PySem.F.slot_list_append PySem.F.type_list_append lV (sE o G _ ho) pa (cL j) few hl (ak hs) rfl) (fg iN (mE G.mono o) (ar (mE G.mono a) ax) yb)
  | extend=>exact PE.imp (jB Jo PySem.F.slot_list_extend PySem.F.type_list_extend uE (sE o G _ ho) pa (cL j) few hl (ak hs) rfl) (fg iO (mE G.mono o) (ar (mE G.mono a) ax) yc)
  | pop=>exact PE.imp (jB Jo PySem.F.slot_list_pop PySem.F.type_list_pop xA (sE o G _ ho) pa (cL j) few hl (ak hs) rfl) (fg kn (mE G.mono o) (ar (mE G.mono a) ax) Bd)
  | index=>exact PE.imp (jB Jo NP PySem.F.type_list_index yK (sE o G _ ho) pa (cL j) few hl (ak hs) rfl) (fg ko (mE G.mono o) (ar (mE G.mono a) ax) Be)
 | .ins o i a,C,X,G,e,h=>by
  refine nv e h fun x n xs ap cp h => ?_;refine gO xs h fun y z h => ?_;simp only [hH,decide_eq_true_eq] at h;obtain ⟨⟨⟨⟨⟨⟨⟨hn,j⟩,hl⟩,hs⟩,Z⟩,ho⟩,hi⟩,Y⟩:=h;subst hn;have pa:PA X [y,z] (lA X.K (aH (wE Φ i) (aH (wE Φ a) bI))):=cg (mE G.mono i) (ar (mE G.mono a) ax) (sE i G _ hi) (cg (mE G.mono a) ax (sE a G _ Y) eG (ak Z)) (ak hs);have few:((Lb cp (HP [y,z] X.env)).all (fun x => !x.1)&&(QW cp (Ou [] X.env)).all (fun x=>x.1.isSome)&&decide (([y,z]:List Expr).length+([]:List MA).length+(if ([]:List MA).isEmpty then 0 else 1) < 30))=true:=by
   rw [ak hs,ak Z];rfl
  exact PE.imp (jB Jo NB PySem.F.type_list_insert vP (sE o G _ ho) pa (cL j) few hl (ak hs) (by rw [ak Z];rfl)) (fg iR (mE G.mono o) (ar (mE G.mono i) (ar (mE G.mono a) ax)) yH)
 | .meth0 m o,C,X,G,e,h=>by
  refine nv e h fun x n xs ap cp h => ?_;refine gN xs h fun  h => ?_;simp only [hH,decide_eq_true_eq] at h;obtain ⟨⟨⟨hn,j⟩,hl⟩,ho⟩:=h;subst hn
  cases m with
  | clear=>exact PE.imp (Ci Jo PySem.F.slot_list_clear PySem.F.type_list_clear xB (sE o G _ ho) (cL j) hl) (ya jS (mE G.mono o) AQ)
 | .comp fr N' c,C,X,G,e,h=>by
  refine vW e h fun elt gens sc pos h => ?_;simp only [hH] at h;have B:bu sc X.env.scope X.N N' fr:=by rw [G.sc,G.N];exact ky h.1
  have B':bu sc C.sc C.N N' fr:=ky h.1
  cases c with
  | last src g ifs m =>
    have h2:=h.2;simp only [okC] at h2
    split at h2
    ·rename_i t it fs a;simp only [hH,decide_eq_true_eq] at h2;obtain ⟨⟨⟨⟨rfl,hi⟩,O⟩,ht⟩,he⟩:=h2;refine PE.imp (iM G.calm G.hx B (fun g' z=>by simp at z) (sI src G _ t hi).1 (fun s H fp=>sG (G.blk B' s H fp) g t O) (tb:=fun p=>lC X.K p (bN (wTl Φ ifs) (bQ (wE Φ m)))) (fun s H fp p => ?_) (sI src G _ t hi).2) (eR (mI G.mono src) (aV (bV (mE G.mono m)) (mTl G.mono ifs)))
     have G':=G.blk B' s H fp;exact eA (p:=p) G' (bV (mE G.mono m)) (mTl G.mono ifs) (PB.imp (kL G'.hx (sE m G' elt he) rfl) (gF (mE G.mono m))) (sTl ifs G' fs ht)
    ·cases h2
  | more src g ifs rest =>
    have h2:=h.2;simp only [okC] at h2
    split at h2
    ·rename_i t it fs a g2 gs;simp only [hH,decide_eq_true_eq] at h2;obtain ⟨⟨⟨⟨rfl,hi⟩,O⟩,ht⟩,he⟩:=h2;have F8:∀ g',(g2::gs)[0]? = some g'->g'.is_async=0:=fun g' z=>by
      have z':g2=g':=by simpa using z
      subst z';exact gQ he
     refine PE.imp (iM G.calm G.hx B F8 (sI src G _ t hi).1 (fun s H fp=>sG (G.blk B' s H fp) g t O) (tb:=fun p=>lC X.K p (bN (wTl Φ ifs) (wCl Φ rest))) (fun s H fp p => ?_) (sI src G _ t hi).2) (eR (mI G.mono src) (aV (mCl G.mono rest) (mTl G.mono ifs)));have G':=G.blk B' s H fp;exact eA (p:=p) G' (mCl G.mono rest) (mTl G.mono ifs) (sCl rest G' elt (⟨t,it,fs,0⟩::g2::gs) sc pos 0 (.inl rfl) p he) (sTl ifs G' fs ht)
    ·cases h2
theorem sA:∀ (m:MEs) {C:Ctx} {X:Cx} (G:Good C Φ k X) (es:List Expr),okEs m C es=true->PA X es (lA X.K (wA Φ m))
 | .nil,C,X,G,es,h=>by
  simp [okEs] at h;subst h;exact eG
 | .cons m r,C,X,G,[],h=>by simp [okEs] at h
 | .cons m r,C,X,G,e::es,h=>by
  simp only [okEs,hH] at h;exact cg (mE G.mono m) (mA G.mono r) (sE m G e h.1.2) (sA r G es h.2) (ak h.1.1)
theorem sAnds:∀ (m:MEs) {C:Ctx} {X:Cx} (G:Good C Φ k X) (es:List Expr) (pos:Pos),okEs m C es=true->es≠[]->PE X (.BoolOp .And es pos) (lE X.K (wAnds Φ m))
 | .nil,C,X,G,es,pos,h,j=>by simp [okEs] at h;exact absurd h j
 | .cons m r,C,X,G,[],pos,h,j=>absurd rfl j
 | .cons m .nil,C,X,G,e::es,pos,h,_=>by
  simp only [okEs,hH] at h;obtain ⟨h1,h2⟩:=h;simp at h2;subst h2;exact v7 (sE m G e h1.2)
 | .cons m (.cons m2 r),C,X,G,e::es,pos,h,_=>by
  simp only [okEs,hH] at h;obtain ⟨h1,h2⟩:=h
  cases es with
  | nil=>simp at h2
  | cons f fs =>
    exact CH (mE G.mono m) (mAnds G.mono _) (sE m G e h1.2) (sAnds (.cons m2 r) G (f::fs) pos (by simpa only [okEs,hH] using h2) (by simp))
theorem sOrs:∀ (m:MEs) {C:Ctx} {X:Cx} (G:Good C Φ k X) (es:List Expr) (pos:Pos),okEs m C es=true->es≠[]->PE X (.BoolOp .Or es pos) (lE X.K (wOrs Φ m))
 | .nil,C,X,G,es,pos,h,j=>by simp [okEs] at h;exact absurd h j
 | .cons m r,C,X,G,[],pos,h,j=>absurd rfl j
 | .cons m .nil,C,X,G,e::es,pos,h,_=>by
  simp only [okEs,hH] at h;obtain ⟨h1,h2⟩:=h;simp at h2;subst h2;exact v7 (sE m G e h1.2)
 | .cons m (.cons m2 r),C,X,G,e::es,pos,h,_=>by
  simp only [okEs,hH] at h;obtain ⟨h1,h2⟩:=h
  cases es with
  | nil=>simp at h2
  | cons f fs =>
    exact E7 (mE G.mono m) (mOrs G.mono _) (sE m G e h1.2) (sOrs (.cons m2 r) G (f::fs) pos (by simpa only [okEs,hH] using h2) (by simp))
theorem sO:∀ (m:MO) {C:Ctx} {X:Cx} (G:Good C Φ k X) (e:Option Expr),okO m C e=true->PO X e (lO X.K (wO Φ m))
 | .none,C,X,G,e,h=>by
  simp [okO] at h;subst h;exact AL
 | .some m,C,X,G,none,h=>by simp [okO] at h
 | .some m,C,X,G,some e,h=>by
  simp only [okO] at h;exact AM (mE G.mono m) (sE m G e h)
theorem sT:∀ (m:MT) {C:Ctx} {X:Cx} (G:Good C Φ k X) (e:Expr),okT m C e=true->PT X e (lT X.K (wT Φ m))
 | .tru m,C,X,G,e,h=>by
  simp only [okT,hH] at h;exact CC (mE G.mono m) (sE m G e h.2) (tL h.1)
 | .cmp op a b,C,X,G,e,h=>by
  refine pK e h fun l os rs pos h => ?_;refine cW os h fun o h => ?_;refine cW rs h fun r h => ?_;simp only [hH,decide_eq_true_eq] at h;obtain ⟨⟨⟨ho,q⟩,B⟩,hm⟩:=h;rw [Je] at hm;subst ho;exact Cy (rq G op) (fX op) (mE G.mono a) (mE G.mono b) (sE a G _ q) (sE b G _ B) hm
 | .and ts,C,X,G,e,h=>by
  refine iw e h fun o xs _ h => ?_;replace h:=cm h;obtain ⟨ho,h⟩:=h;obtain ⟨ho,j⟩:=cm ho
  cases of_decide_eq_true ho
  exact (sAndTs ts G _ _ h (by intro z;rw [z] at j;cases j)).pt
 | .or ts,C,X,G,e,h=>by
  refine iw e h fun o xs _ h => ?_;replace h:=cm h;obtain ⟨ho,h⟩:=h;obtain ⟨ho,j⟩:=cm ho
  cases of_decide_eq_true ho
  exact (sOrTs ts G _ _ h (by intro z;rw [z] at j;cases j)).pt
 | .not t,C,X,G,e,h=>by
  refine jc e h fun o x _ h => ?_;replace h:=cm h;obtain ⟨ho,h⟩:=h
  cases of_decide_eq_true ho
  exact CD (mT G.mono t) (sT t G _ h)
theorem sAndTs:∀ (m:MTs) {C:Ctx} {X:Cx} (G:Good C Φ k X) (es:List Expr) (pos:Pos),okTs m C es=true->es≠[]->PW X (.BoolOp .And es pos) (lT X.K (wAndTs Φ m))
 | .nil,C,X,G,es,pos,h,j=>by simp [okTs] at h;exact absurd h j
 | .cons m r,C,X,G,[],pos,h,j=>absurd rfl j
 | .cons m .nil,C,X,G,e::es,pos,h,_=>by
  simp only [okTs,hH] at h;obtain ⟨h1,h2⟩:=h;simp at h2;subst h2;exact AJ (sT m G e h1)
 | .cons m (.cons m2 r),C,X,G,e::es,pos,h,_=>by
  simp only [okTs,hH] at h;obtain ⟨h1,h2⟩:=h
  cases es with
  | nil=>simp at h2
  | cons f fs =>
    exact CG (mT G.mono m) (mAndTs G.mono _) (sT m G e h1) (sAndTs (.cons m2 r) G (f::fs) pos (by simpa only [okTs,hH] using h2) (by simp))
theorem sOrTs:∀ (m:MTs) {C:Ctx} {X:Cx} (G:Good C Φ k X) (es:List Expr) (pos:Pos),okTs m C es=true->es≠[]->PW X (.BoolOp .Or es pos) (lT X.K (wOrTs Φ m))
 | .nil,C,X,G,es,pos,h,j=>by simp [okTs] at h;exact absurd h j
 | .cons m r,C,X,G,[],pos,h,j=>absurd rfl j
 | .cons m .nil,C,X,G,e::es,pos,h,_=>by
  simp only [okTs,hH] at h;obtain ⟨h1,h2⟩:=h;simp at h2;subst h2;exact CF (sT m G e h1)
 | .cons m (.cons m2 r),C,X,G,e::es,pos,h,_=>by
  simp only [okTs,hH] at h;obtain ⟨h1,h2⟩:=h
  cases es with
  | nil=>simp at h2
  | cons f fs =>
    exact E6 (mT G.mono m) (mOrTs G.mono _) (sT m G e h1) (sOrTs (.cons m2 r) G (f::fs) pos (by simpa only [okTs,hH] using h2) (by simp))
theorem sTl:∀ (m:MTs) {C:Ctx} {X:Cx} (G:Good C Φ k X) (es:List Expr),okTs m C es=true->Ig (fun c t=>PT X c t) es ((wTl Φ m).map (lT X.K))
 | .nil,C,X,G,es,h=>by
  simp [okTs] at h;subst h;exact .nil
 | .cons m r,C,X,G,[],h=>by simp [okTs] at h
 | .cons m r,C,X,G,e::es,h=>by
  simp only [okTs,hH] at h;exact .cons (sT m G e h.1) (sTl r G es h.2)
theorem sI:∀ (m:MI) {C:Ctx} {X:Cx} (G:Good C Φ k X) (e tg:Expr),okI m C tg e=true->PI X tg e (lI X.K (wI Φ m)) /\ ∀ x,JH e X.env x=pure x
 | .seq m,C,X,G,e,tg,h=>by
  simp only [okI,hH] at h;exact ⟨CM (mE G.mono m) (sE m G e h.2),pM h.1⟩
 | .keys m,C,X,G,e,tg,h=>by
  simp only [okI,hH] at h;exact ⟨Bc (mE G.mono m) (sE m G e h.2),pM h.1⟩
 | .rng1 a,C,X,G,e,tg,h=>by
  refine cX e h fun x xs p pos h => ?_;refine cW xs h fun y h => ?_;simp only [hH,decide_eq_true_eq] at h;obtain ⟨⟨⟨rfl,q⟩,hs⟩,B⟩:=h;exact ⟨AT (ar (mE G.mono a) ax) (G.gl q) (G.mgB _ (by decide)) (cg (mE G.mono a) ax (sE a G _ B) eG (ak hs)) (ak hs),fun x=>rfl⟩
 | .enum a,C,X,G,e,tg,h=>by
  refine cX e h fun x xs p pos h => ?_;refine cW xs h fun y h => ?_;refine dD tg h fun ts kt pt h => ?_;simp only [hH,decide_eq_true_eq] at h;obtain ⟨⟨⟨rfl,q⟩,hs⟩,B⟩:=h;exact ⟨AU (mE G.mono a) (G.gl q) (G.mgB _ (by decide)) (cg (mE G.mono a) ax (sE a G _ B) eG (ak hs)) (ak hs),fun x=>rfl⟩
 | .zip a b,C,X,G,e,tg,h=>by
  refine cX e h fun x xs p pos h => ?_;refine gO xs h fun y z h => ?_;refine dD tg h fun ts kt pt h => ?_;simp only [hH,decide_eq_true_eq] at h;obtain ⟨⟨⟨⟨⟨rfl,q⟩,hs⟩,j⟩,B⟩,F⟩:=h;exact ⟨CP (mE G.mono a) (mE G.mono b) (G.gl q) (G.mgB _ (by decide)) (cg (mE G.mono a) (ar (mE G.mono b) ax) (sE a G _ B) (cg (mE G.mono b) ax (sE b G _ F) eG (ak j)) (ak hs)) (by rw [ak hs,ak j];rfl) (ak j),fun x=>rfl⟩
theorem sCl:∀ (m:MC) {C:Ctx} {X:Cx} (G:Good C Φ k X) (elt:Expr) (gens:List ID) (sc:Scope) (pos:Pos) (d:Nat) (_:d=0∨d=d) (p:Addr),okC m C C (gens.drop (d+1)) elt=true ->
 PB X (br elt gens sc pos d (.ref p) X.env) (lC X.K p (wCl Φ m))
 | .last src g ifs m,C,X,G,elt,gens,sc,pos,d,_,p,h=>by
  simp only [okC] at h
  split at h
  ·rename_i t it fs a hd;simp only [hH,decide_eq_true_eq] at h;obtain ⟨⟨⟨⟨rfl,hi⟩,j⟩,q⟩,he⟩:=h;have e1:gens[d+1]? = some ⟨t,it,fs,0⟩:=by
    have z:(gens.drop (d+1))[0]? = some ⟨t,it,fs,0⟩:=by rw [hd];rfl
    rw [Lo] at z;simpa using z
   have e2:gens[d+1+1]? = none:=by
    have z:(gens.drop (d+1))[1]? = none:=by rw [hd];rfl
    rw [Lo] at z;simpa using z
   refine PB.imp (m9 G.hx G.calm e1 (fun g' z=>by rw [e2] at z;cases z) (sI src G _ t hi).1 (sG G g t j) (eA (p:=p) G (bV (mE G.mono m)) (mTl G.mono ifs) (PB.imp (kL G.hx (sE m G elt he) e2) (gF (mE G.mono m))) (sTl ifs G fs q)) (sI src G _ t hi).2) (iQ (mI G.mono src) (aV (bV (mE G.mono m)) (mTl G.mono ifs)))
  ·cases h
 | .more src g ifs rest,C,X,G,elt,gens,sc,pos,d,_,p,h=>by
  simp only [okC] at h
  split at h
  ·rename_i t it fs a g2 gs hd;simp only [hH,decide_eq_true_eq] at h;obtain ⟨⟨⟨⟨rfl,hi⟩,j⟩,q⟩,he⟩:=h;have e1:gens[d+1]? = some ⟨t,it,fs,0⟩:=by
    have z:(gens.drop (d+1))[0]? = some ⟨t,it,fs,0⟩:=by rw [hd];rfl
    rw [Lo] at z;simpa using z
   have e2:gens[d+1+1]? = some g2:=by
    have z:(gens.drop (d+1))[1]? = some g2:=by rw [hd];rfl
    rw [Lo] at z;simpa using z
   have F:gens.drop (d+1+1)=g2::gs:=by
    have z:(gens.drop (d+1)).drop 1=g2::gs:=by rw [hd];rfl
    rw [N9] at z;simpa using z
   have B:∀ g',gens[d+1+1]? = some g'->g'.is_async=0:=fun g' z=>by
    rw [e2] at z;cases z;exact gQ he
   refine PB.imp (m9 G.hx G.calm e1 B (sI src G _ t hi).1 (sG G g t j) (eA (p:=p) G (mCl G.mono rest) (mTl G.mono ifs) (sCl rest G elt gens sc pos (d+1) (.inr rfl) p (by rw [F];exact he)) (sTl ifs G fs q)) (sI src G _ t hi).2) (iQ (mI G.mono src) (aV (mCl G.mono rest) (mTl G.mono ifs)))
  ·cases h
end
end
end
section
section
variable {Φ:Phi} {k:Nat} {C:Ctx} {X:Cx}
theorem yU {sc:Scope} {ts vs:List Expr} {kk j:Nat} {pp p2:Pos} {env:Env} (hs:env.scope=sc) (q:sc.kind = .function) (h:tH sc ts vs=true):Kh [.Tuple ts kk pp] (.Tuple vs j p2) env=pure none:=by
 have z:env.blockKind = .function:=by unfold NF;rw [hs,q];rfl
 have h':tH sc ts vs=true:=h;unfold Kh;dsimp only;rw [z]
 by_cases c1:(!(ts.length==2 || ts.length==3) || vs.length != ts.length)=true
 ·simp only [c1,Bool.true_or,if_true]
 ·simp only [LX] at c1;rw [c1];simp only [Lg,bne_self_eq_false,IT,if_false]
  split
  ·rfl
  ·
    generalize B:List.filterMap _ ts=L;obtain rfl:L=bq sc ts:=by
     rw [<- B];unfold bq;congr 1
     funext x
     cases x <;> first | rfl | (unfold Pt;rw [hs])
    unfold tH at h';rw [c1] at h';simp only [Lg,Og] at h'
    by_cases c3:((bq sc ts).length != ts.length || (bq sc ts).eraseDups.length != (bq sc ts).length)=true
    ·rw [if_pos c3]
    ·rw [if_neg c3];have F:vs.all (P6 8)=true:=by
      rcases h' with h' | h'
      ·exact absurd (Og _ _ |>.mpr h') c3
      ·exact h'
     rw [if_pos F]
theorem Bj {sc:Scope} {ts vs:List Expr} {ns:List Str} {kk j:Nat} {pp p2:Pos} {env:Env} (hs:env.scope=sc) (q:sc.kind = .function) (h:tJ sc ts vs ns=true):Kh [.Tuple ts kk pp] (.Tuple vs j p2) env=pure (some ns):=by
 have B:env.blockKind = .function:=by unfold NF;rw [hs,q];rfl
 simp only [tJ,hH,Je,decide_eq_true_eq] at h;obtain ⟨⟨⟨⟨⟨F,G⟩,J⟩,O⟩,U⟩,Y⟩:=h;unfold Kh;dsimp only;rw [B,F];simp only [Lg,bne_self_eq_false,IT,if_false]
 split
 ·next z=>exact absurd z (by rw [LX];exact G)
 ·generalize Z:List.filterMap _ ts=L;obtain rfl:L=bq sc ts:=by
   rw [<- Z];unfold bq;congr 1
   funext x
   cases x <;> first | rfl | (unfold Pt;rw [hs])
  rw [O,U,Y,J];rfl
theorem rA {C:Ctx} {i:Nat} {x:Str} (h:tI C i x=true):C.N[i]? = some x/\C.sc.names.lookup x=some .local:=by
 simpa [tI] using h
theorem di {tg e:Expr} {l:Nat} {env:Env} {b:Bool} (h:Lr e (some tg) l env=pure b):Lc [tg] e l env=pure b:=by
 unfold Lc;exact h
theorem rB {sc:Scope} {tg e:Expr} {env:Env} (hs:env.scope=sc) (j:sc.kind = .function) (h:iy sc tg e=true):Kh [tg] e env=pure none:=by
 cases tg with
 | Tuple ts kk pp =>
   cases e with
   | Tuple vs q p2=>exact yU hs j h
   | _=>rfl
 | _=>first | rfl | (simp [iy] at h;done)
theorem pN {elt:Expr} {gens:List ID} {s sc:Scope} {pos px:Pos} {x:Str} {l:Nat} {env:Env} (hs:env.scope=sc) (j:sc.kind = .function) :
 Lr (.ListComp elt gens s pos) (some (.Name x px)) l env=pure (tK sc x px (.ListComp elt gens s pos)):=by
 have q:env.blockKind = .function:=by unfold NF;rw [hs,j];rfl
 unfold Lr;dsimp only;rw [q];unfold tK Pt;rw [hs];rfl
theorem vZ {ek ev:Expr} {gens:List ID} {s sc:Scope} {pos px:Pos} {x:Str} {l:Nat} {env:Env} (hs:env.scope=sc) (j:sc.kind = .function) :
 Lr (.DictComp ek ev gens s pos) (some (.Name x px)) l env=pure (sc.names.lookup x==some .local&&px.line==(Expr.DictComp ek ev gens s pos).pos.line && !(s.names.any fun (n,k)=>n==x&&(k == .local || k == .cell))):=by
 have q:env.blockKind = .function:=by unfold NF;rw [hs,j];rfl
 unfold Lr;dsimp only;rw [q];unfold Pt;rw [hs];rfl
mutual
theorem sS:∀ (m:MS) (G:Good C Φ k X) (q:C.sc.kind = .function) (s:Stmt),okS m C s=true->PS X s (lS X.K (wS Φ m))
 | .asgL gs m,G,q,s,h=>by
  refine ga s h fun ts e pos h => ?_;refine cW ts h fun tg h => ?_;refine dD tg h fun ts k p h => ?_;simp only [hH] at h;obtain ⟨⟨⟨F,he⟩,O⟩,L⟩:=h;obtain ⟨a,b⟩:=jf (env:=X.env) F;exact PS.imp (nE (sE m G _ he) (CZ G.calm (lj F) (sGs G gs _ F) a b) (di (iz L)) (rB G.sc q O) rfl) (vK (mE G.mono m))
 | .asg g m,G,q,s,h=>by
  refine ga s h fun ts e pos h1 => ?_;clear h;refine cW ts h1 fun tg h => ?_;clear h1;simp only [hH] at h;obtain ⟨⟨⟨F,he⟩,O⟩,L⟩:=h;have hw:=rB G.sc q O;have pg:=sG G g tg F;have plain:Lc [tg] e pos.line X.env=pure false->PS X (.Assign [tg] e pos) (lS X.K (j3 (wE Φ m) (bG g))):=fun hs =>
   PS.imp (nE (sE m G e he) pg hs hw (by cases tg <;> first | rfl | (simp [iy] at O;done))) (yo (mE G.mono m))
  cases tg with
  | Tuple ts a b=>exact plain (di (iz L))
  | Name x px =>
    cases e with
    | ListComp elt gens sc cpos =>
      by_cases sw:tK C.sc x px (.ListComp elt gens sc cpos)=true
      ·cases g with
       | tup gs=>exact absurd F Hi
       | name i =>
         cases m with
         | comp fr N' c =>
           replace he:=cm he;have B:bu sc X.env.scope X.N N' fr:=by rw [G.sc,G.N];exact ky he.1
           have B':bu sc C.sc C.N N' fr:=ky he.1;have Y:PG X (.Name x px) (jv i):=by
            have F:=cm F;have F:=LW (cm F.1) F.2;exact qL G.nd (by rw [G.N];exact of_decide_eq_true F.1.1) (G.loc F.1.2) (G.own F.2)
           have Z:∀ l,Lr (.ListComp elt gens sc cpos) (some (.Name x px)) l X.env=pure true:=fun l=>by rw [pN G.sc q,sw]
           have mc:=mCmp G.mono fr c
           cases c with
           | last src g ifs m =>
             have h2:=he.2;simp only [okC] at h2
             split at h2
             ·rename_i t it fs a;simp only [hH,decide_eq_true_eq] at h2;obtain ⟨⟨⟨⟨rfl,hi⟩,U⟩,ht⟩,J⟩:=h2;refine PS.imp (jI (i:=i) (g:=lG X.K (bG g)) (wi:=lI X.K (wI Φ src)) G.calm G.hx B (fun g' z=>by simp at z) (sI src G _ t hi).1 (fun s H fp=>sG (G.blk B' s H fp) g t U) (tb:=fun p=>lC X.K p (bN (wTl Φ ifs) (bQ (wE Φ m)))) (fun s H fp p => ?_) (sI src G _ t hi).2 Y (Z _)) fun D σ H h => ?_
              ·have G':=G.blk B' s H fp;exact eA (p:=p) G' (bV (mE G.mono m)) (mTl G.mono ifs) (PB.imp (kL G'.hx (sE m G' elt J) rfl) (gF (mE G.mono m))) (sTl ifs G' fs ht)
              ·exact eR (mI G.mono src) (aV (bV (mE G.mono m)) (mTl G.mono ifs)) σ H _ (mC mc D σ H h)
             ·cases h2
           | more src g ifs rest =>
             have h2:=he.2;simp only [okC] at h2
             split at h2
             ·rename_i t it fs a g2 gs;simp only [hH,decide_eq_true_eq] at h2;obtain ⟨⟨⟨⟨rfl,hi⟩,U⟩,ht⟩,J⟩:=h2;have F5:∀ g',(g2::gs)[0]? = some g'->g'.is_async=0:=fun g' z=>by
               have z':g2=g':=by simpa using z
               subst z';exact gQ J
              refine PS.imp (jI (i:=i) (g:=lG X.K (bG g)) (wi:=lI X.K (wI Φ src)) G.calm G.hx B F5 (sI src G _ t hi).1 (fun s H fp=>sG (G.blk B' s H fp) g t U) (tb:=fun p=>lC X.K p (bN (wTl Φ ifs) (wCl Φ rest))) (fun s H fp p => ?_) (sI src G _ t hi).2 Y (Z _)) fun D σ H h => ?_
              ·have G':=G.blk B' s H fp;exact eA (p:=p) G' (mCl G.mono rest) (mTl G.mono ifs) (sCl rest G' elt (⟨t,it,fs,0⟩::g2::gs) sc cpos 0 (.inl rfl) p J) (sTl ifs G' fs ht)
              ·exact eR (mI G.mono src) (aV (mCl G.mono rest) (mTl G.mono ifs)) σ H _ (mC mc D σ H h)
             ·cases h2
         | _=>exact absurd he Hi
      ·refine plain ?_;simp only [LX] at sw;refine di ?_;rw [pN G.sc q,sw]
    | SetComp _ _ _ _=>cases m <;> exact absurd he Hi
    | DictComp _ _ _ _ _ =>
      refine plain (di ?_);rw [vZ G.sc q];unfold Df at L;simp only [Je] at L;rw [L]
    | _=>exact plain (di rfl)
  | _=>simp [iy] at O
 | .par i j a b,G,q,s,h=>by
  refine ga s h fun ts e pos h => ?_;refine cW ts h fun tg h => ?_;refine dD tg h fun ts k p h => ?_;refine dD e h fun es k' p' h => ?_;refine gO ts h fun t u h => ?_;refine gO es h fun e f h => ?_;refine dS t h fun x px h => ?_;refine dS u h fun y py h => ?_;simp only [hH,decide_eq_true_eq] at h;obtain ⟨⟨⟨⟨⟨⟨⟨hi,hj⟩,F6⟩,n1⟩,n2⟩,O⟩,hb⟩,hw⟩:=h;obtain ⟨i1,i2⟩:=rA hi;obtain ⟨j1,j2⟩:=rA hj;exact PS.imp (C4 G.calm G.nd (by rw [G.N];exact i1) (by rw [G.N];exact j1) F6 (by rw [G.sc];exact i2) (by rw [G.sc];exact j2) (cg (mE G.mono a) (ar (mE G.mono b) ax) (sE a G _ O) (cg (mE G.mono b) ax (sE b G _ hb) eG (ak n2)) (ak n1)) (Bj G.sc q hw) (di rfl)) (vq (ar (mE G.mono a) (ar (mE G.mono b) ax)))
 | .put o i m,G,q,s,h=>by
  refine ga s h fun ts e pos h => ?_;refine cW ts h fun tg h => ?_;refine fZ tg h fun x y tp h => ?_;simp only [hH] at h;obtain ⟨⟨⟨⟨F7,L⟩,ho⟩,hi⟩,he⟩:=h;exact CS (by have:=G.units;lia) (mE G.mono m) (mE G.mono o) (mE G.mono i) (sE m G e he) (sE o G x ho) (sE i G y hi) (di (iz L)) rfl (fun v=>by cases y <;> first | rfl | (simp [fo] at F7;done))
 | .drop m,G,q,s,h=>by
  refine Db s h fun e _ h => ?_;simp only [hH] at h;exact PS.imp (Ag (sE m G _ h.2) (iz h.1)) (vm (mE G.mono m))
 | .ret m,G,q,s,h=>by
  refine yR s h fun o _ h => ?_;refine jos o h fun e h => ?_;rw [wS];exact PS.imp (BY (sE m G _ h)) (yn (mE G.mono m))
 | .ite c a b,G,q,s,h=>by
  refine EZ s h fun t x y _ h => ?_;simp only [hH] at h;exact PS.imp (DL (sT c G _ h.1.1) (sSs a G q _ h.1.2) (sSs b G q _ h.2)) (AV (mT G.mono c))
 | .for g src b,G,q,s,h=>by
  refine Eg s h fun tg it body els _ h => ?_;refine gN els h fun  h => ?_;simp only [hH] at h;obtain ⟨⟨⟨hs,F⟩,hi⟩,hb⟩:=h;exact PS.imp (C6 (fun e s z=>(G.hx e s z).elim) G.calm (sI src G _ _ hi).1 (sG G g _ F) (sSs b G q _ hb) (pM hs)) (yp (mI G.mono src) (mSs G.mono b))
 | .while c b,G,q,s,h=>by
  refine Bg s h fun t body els _ h => ?_;refine gN els h fun  h => ?_;simp only [hH] at h;exact PS.imp (xi (fun e s z=>(G.hx e s z).elim) (sT c G _ h.1) (sSs b G q _ h.2)) (sV (mT G.mono c) (mSs G.mono b))
 | .frz i m,G,q,s,h=>by
  simp only [okS] at h;exact D3 (sS m G q s h)
 | .pass,G,q,s,h=>by
  refine Dd s h fun _ h => ?_;exact PS.imp Af mz
 | .brk,G,q,s,h=>by
  refine Bh s h fun _ h => ?_;exact PS.imp xg sU
 | .cnt,G,q,s,h=>by
  refine tG s h fun _ h => ?_;exact PS.imp qu vj
theorem sSs:∀ (m:MSs) (G:Good C Φ k X) (j:C.sc.kind = .function) (s:List Stmt),okSs m C s=true->PSs X s (lS X.K (wSs Φ m))
 | .nil,G,j,s,h=>by
  simp [okSs] at h;subst h;exact PSs.imp Ae mz
 | .cons m r,G,j,[],h=>by simp [okSs] at h
 | .cons m r,G,j,s::ss,h=>by
  simp only [okSs,hH] at h;exact PSs.imp (xf (sS m G j s h.1) (sSs r G j ss h.2)) (ym (mS G.mono m) (mSs G.mono r))
end
end
end
section
structure FD where
 name:Str
 st:Stmt
 N:List Str
 np:Nat
 body:MSs
noncomputable def fw (N:List Str) (ds:List D):au:=ds.map some++HB (N.length - ds.length) none
noncomputable def phi (T:List FD):Nat->Phi
 | 0=>fun _ _ _ _=>False
 | k+1=>fun f ds M Q => ∃ d,T[f]? = some d/\ds.length=d.np/\wSs (phi T k) d.body { nx:=fun _ M'=>Q .non M',rt:=Q } (fw d.N ds) M
theorem jh (T:List FD):∀ k f,bh (phi T k f)
 | 0,f=>fun _ _ _ _ _ q=>q.elim
 | k+1,f=>fun ds M Q Q' h ⟨d,e,l,q⟩=>⟨d,e,l,mSs (jh T k) d.body { nx:=fun _ M'=>Q .non M',rt:=Q } { nx:=fun _ M'=>Q' .non M',rt:=Q' } _ _ ⟨fun _ M' q'=>h _ _ q',h,fun _ _ z=>z,fun _ _ z=>z⟩ q⟩
noncomputable def tM (Γ:List Str) (cs:List (Str×D)) (d:FD):Bool :=
 decide ((aB d.st).kind = .function) && !(aB d.st).isCoroutine && !(aB d.st).isGenerator&&decide (d.N.Nodup)&&decide (d.np<=d.N.length)
  && (d.N.take d.np).all (fun x=>(aB d.st).names.lookup x==some .local || (aB d.st).names.lookup x==some .cell)
  && (aB d.st).names.all (fun y => !(y.2 == .free))&&okSs d.body ⟨Γ,d.N,aB d.st,d.N,cs⟩ (cy d.st)
theorem yV {Γ:List Str} {cs:List (Str×D)} {d:FD} (h:tM Γ cs d=true):hZ d.N (d.N.take d.np) (aB d.st)/\(d.N.take d.np).length=d.np/\okSs d.body ⟨Γ,d.N,aB d.st,d.N,cs⟩ (cy d.st)=true:=by
 simp only [tM,hH,decide_eq_true_eq,Je] at h;obtain ⟨⟨⟨⟨⟨⟨⟨h1,h2⟩,q⟩,B⟩,O⟩,F⟩,G⟩,J⟩:=h;have j:(d.N.take d.np).length=d.np:=by rw [HD];lia
 refine ⟨⟨h1,h2,q,B,by rw [j],fun x hx => ?_,fun y L e => ?_⟩,j,J⟩
 ·have z:=L9.mp F x hx;simpa using z
 ·have z:=L9.mp G y L;rw [e] at z;simp at z
section
variable {P:HK} {w:Ie} {K:Frag} {mg:Str->Option h6} {base:Heap}
structure zX (K:Frag) (mg:Str->Option h6) (T:List FD) (cs:List (Str×D)):Prop where
 blt:∀ x∈bltNames,mg x=none
 fns:∀ (i:Nat) (d:FD),T[i]? = some d -> ∃ f fd,Fun K d.name d.name d.st f fd/\mg d.name=some (.ref f)/\Binds K fd (d.N.take d.np) []
 ok:∀ d∈T,tM (T.map (·.name)) cs d=true
 cst:∀ x d,(x,d)∈cs -> ∃ u,mg x=some u/\GV K d u
theorem w4 {T:List FD} {cs:List (Str×D)} (O:zX K mg T cs):∀ (k i:Nat) (d:FD) (f:Addr) (fd:KZ),T[i]? = some d->Fun K d.name d.name d.st f fd->eE P w K mg base CX0 k f fd (d.N.take d.np) (lSp K (phi T k i))
 | 0,i,d,f,fd,e,F=>⟨fun vs H Q E h=>by obtain ⟨ds,M,_,_,q⟩:=h;exact q.elim,fun A outer s H args us vs Q E _ _ _ _ h=>by obtain ⟨ds,M,_,_,q⟩:=h;exact q.elim⟩
 | k+1,i,d,f,fd,e,F=>by
   obtain ⟨S,Z,hb⟩:=yV (O.ok d (HH e));refine F.ok S (fun vs H Q E h => ?_) fun cdv A outer s H vs Q E hr h => ?_
   ·obtain ⟨ds,M,rm,rs,d',e',l,q⟩:=h;rw [e] at e';cases e';rw [rs.length,l,Z]
   ·obtain ⟨ds,M,rm,rs,d',e',l,q⟩:=h;rw [e] at e';cases e';have G:Good ⟨T.map (·.name),d.N,aB d.st,d.N,cs⟩ (phi T k) k ((iT CX0 P w K mg base d.N d.name (aB d.st) f cdv A outer s H E).nox):=by
     refine ⟨fun _ _ z=>z,rfl,rfl,rfl,S.nd,fun _ _=>rfl,hr,O.blt,fun j x hx => ?_,jh T k,O.cst⟩;have B:(T.map (·.name))[j]? = some x:=hx;rw [HM] at B
     cases e2:T[j]? with
     | none=>rw [e2] at B;cases B
     | some d2 =>
       rw [e2] at B;cases B;obtain ⟨f2,U,Y,m2,b2⟩:=O.fns j d2 e2;exact ⟨f2,U,_,m2,Y.kp,b2,w4 O k j d2 f2 U e2 Y⟩
    refine ⟨_,sSs d.body G S.kind _ hb,fw d.N ds,M, { nx:=fun _ M'=>KE' K M H Q .non M',rt:=KE' K M H Q }, ?_,rm,⟨fun ρ M' σ H' x rs' rm' q' => ?_,fun d M' v H' x rm' rd' q'=>q' v H' x rm' rd',fun _ _ _ _ _ _ _ z=>z,fun _ _ _ _ _ _ _ z=>z⟩,q⟩
    ·refine ⟨by simp [du,fw,rs.length],fun j dd J => ?_⟩
     unfold fw at J;unfold du
     by_cases L:j < ds.length
     ·rw [Hu (by simpa using L),HM] at J
      cases e3:ds[j]? with
      | none=>rw [e3] at J;cases J
      | some z =>
        rw [e3] at J;cases J;obtain ⟨v,hv,rv⟩:=rs.get e3;refine ⟨v, ?_,rv⟩;rw [Hu (by rw [q7,rs.length];exact L),HM,hv];rfl
     ·rw [D1 (by simpa using L),NH] at J
      split at J <;> cases J
    ·exact q' .non H' x rm' (Rp.mpr rfl)
theorem Di {T:List FD} {k i:Nat} {H:Hp} {a:Addr} {ns:List Int} (B:sC H) (F:SqL K H a (ns.map V.int)) (h:phi T k i [.con (ns.map D.int)] (fun _=>none) fun d _=>d = .bl true) :
 lSp K (phi T k i) [.ref a] H (fun v _=>v = .bl true) fun _ _ _=>False:=by
 have j:RM K (fun _=>none) H:=fun _ _ z=>by cases z
 refine ⟨[.con (ns.map D.int)],fun _=>none,j,RDs.cons (Rm.mpr ⟨a,ns.map V.int,rfl, ?_,RDs.ints ns⟩) RDs.nil,jh T k i [.con (ns.map D.int)] (fun _=>none) (fun d _=>d = .bl true) (KE' K (fun _=>none) H fun v _=>v = .bl true) (fun d M' e=>fun v H' x rm rd => ?_) h⟩
 ·rcases F with (z | ⟨o,z⟩) | z
  ·rcases B a with q | ⟨o,xs,q⟩
   ·rw [z] at q;cases q
   ·rw [z] at q;cases q
  ·exact .inl ⟨o,z⟩
  ·exact .inr z
 ·subst e;exact Rk.mp rd
end
theorem Eh (us:List h6) (h:us.length=0):us=[]:=I9.mp h
theorem cY (us:List h6) (h:us.length=1):∃ a,us=[a]:=List.length_eq_one_iff.mp h
theorem cA (us:List h6) (h:us.length=2):∃ a b,us=[a,b]:=by
 cases us with
 | nil=>cases h
 | cons a us=>obtain ⟨b,rfl⟩:=cY us (R8.inj h);exact ⟨a,b,rfl⟩
theorem kz (us:List h6) (h:us.length=3):∃ a b c,us=[a,b,c]:=by
 cases us with
 | nil=>cases h
 | cons a us=>obtain ⟨b,c,rfl⟩:=cA us (R8.inj h);exact ⟨a,b,c,rfl⟩
theorem tN (us:List h6) (h:us.length=4):∃ a b c d,us=[a,b,c,d]:=by
 cases us with
 | nil=>cases h
 | cons a us=>obtain ⟨b,c,d,rfl⟩:=kz us (R8.inj h);exact ⟨a,b,c,d,rfl⟩
end
section
theorem Dj {T:List FD} {k f:Nat} {d:FD} {ds:List D} {M:Mem} {Q:QD} (e:T[f]? = some d) (l:ds.length=d.np) {ρ:au} (r:fw d.N ds = ρ)
 (h:wSs (phi T k) d.body { nx:=fun _ M'=>Q .non M',rt:=Q } ρ M):phi T (k+1) f ds M Q:=⟨d,e,l,by rw [r];exact h⟩
theorem aq {T:List FD} {n f:Nat} {d:FD} {ds:List D} {M:Mem} {Q:QD} (j : 1<=n) (e:T[f]? = some d) (l:ds.length=d.np) {ρ:au} (r:fw d.N ds = ρ)
 (h:wSs (phi T (n - 1)) d.body { nx:=fun _ M'=>Q .non M',rt:=Q } ρ M):phi T n f ds M Q:=by
 obtain ⟨k,rfl⟩:∃ k,n=k+1:=⟨n - 1,by lia⟩
 exact Dj e l r h
theorem Bk {Φ:Phi} {D:bM} {ρ:au} {M:Mem}:wSs Φ .nil D ρ M=D.nx ρ M:=by rw [wSs];rfl
theorem dj {Φ:Phi} {s:MS} {r:MSs} {D:bM} {ρ:au} {M:Mem}:wSs Φ (.cons s r) D ρ M=wS Φ s { D with nx:=wSs Φ r D } ρ M:=by rw [wSs];rfl
theorem rC {ds:List D} {y:D} {M:Mem} {Q:QD}:wIx (.tup ds) y M Q = ∃ i d,y = .int i/\atI ds i=some d/\Q d M:=rfl
theorem rD {ds:List D} {y:D} {M:Mem} {Q:QD}:wIx (.con ds) y M Q = ∃ i d,y = .int i/\atI ds i=some d/\Q d M:=rfl
theorem av {a:Addr} {i:Int} {ds:List D} {d:D} {M:Mem} {Q:QD} (h:M a=some (.lst ds)) (e:atI ds i=some d) (q:Q d M):wIx (.ref a) (.int i) M Q := .inl ⟨ds,i,d,h,rfl,e,q⟩
theorem bZ {a:Addr} {i:Int} {ds:List D} {v:D} {j:Nat} {M:Mem} {Q:Mem->Prop} (h:M a=some (.lst ds)) (e:ixN ds.length i=some j) (q:Q (ag M a (.lst (ds.set j v)))):ie (.ref a) (.int i) v M Q:=⟨a,rfl, .inl ⟨ds,i,j,rfl,h,e,q⟩⟩
theorem fA {a:Addr} {ds:List D} {M:Mem} {Q:QD} (h:M a=some (.lst ds)) (q:Q (.int ds.length) M):fR [.ref a] M Q:=⟨_,_,rfl,by simp only [iY,h],q⟩
theorem ad {a:Addr} {ds:List D} {M:Mem} (h:M a=some (.lst ds)):aw M (.ref a)=some ds:=by simp only [aw,h]
theorem Dl {i:Int} {M:Mem} {Q:QD}:nW [.int i] M Q=Q (.int i) M:=by
 apply propext;constructor
 ·rintro (⟨j,e,q⟩ | ⟨k,e,q⟩)
  ·cases e;exact q
  ·cases e
 ·exact fun q => .inl ⟨i,rfl,q⟩
theorem Dm {b:Bool} {M:Mem} {Q:QD}:nW [.bl b] M Q=Q (.int (if b then 1 else 0)) M:=by
 apply propext;constructor
 ·rintro (⟨j,e,q⟩ | ⟨k,e,q⟩)
  ·cases e
  ·cases e;exact q
 ·exact fun q => .inr ⟨b,rfl,q⟩
theorem Ei {i j:Int} {M:Mem} {Q:QD}:wEq (.int i) (.int j) M Q=Q (.bl (i==j)) M:=by
 simp [wEq,rb,Im]
theorem Ej {i j:Int} {M:Mem} {Q:QD}:wNe (.int i) (.int j) M Q=Q (.bl (!(i==j))) M:=by
 simp [wNe,rb,Im]
theorem w5 {i j:Int} {M:Mem} {Q:QD}:fO (.int i) (.int j) M Q=Q (.int (i+j)) M:=rfl
theorem w6 {a b:List D} {M:Mem} {Q:QD}:fO (.tup a) (.tup b) M Q=((a≠[]∨True)/\a.length+b.length<=Hj/\Q (.tup (a++b)) M):=rfl
theorem w8 {i j:Int} {M:Mem} {Q:QD}:kR (.int i) (.int j) M Q=Q (.int (i - j)) M:=rfl
theorem w9 {i j:Int} {M:Mem} {Q:QD}:iX (.int i) (.int j) M Q=(MulOk i j/\Q (.int (i*j)) M):=rfl
theorem wa {ds:List D} {k:Int} {M:Mem} {Q:QD}:iX (.tup ds) (.int k) M Q=(-(2 ^ 63)<=k/\k < 2 ^ 63/\ds.length*k.toNat<=Hj/\Q (.tup (HB k.toNat ds).flatten) M):=rfl
theorem rE {i j:Int} {M:Mem} {Q:QD}:nk (.int i) (.int j) M Q=(0 < j/\j < 2 ^ 256/\Q (.int (i / j)) M):=rfl
theorem wb {i j:Int} {M:Mem} {Q:QD}:sH (.int i) (.int j) M Q=(0 < j/\Q (.int (i % j)) M):=rfl
theorem wc {i j:Int} {M:Mem} {Q:QD}:sJ (.int i) (.int j) M Q=(0<=j/\j<=1000000/\i.natAbs < 2 ^ 64/\Q (.int (i ^ j.toNat)) M):=rfl
theorem zY {i j:Int} {M:Mem} {Q:QD}:wLt (.int i) (.int j) M Q=Q (.bl (decide (i < j))) M:=rfl
theorem zZ {i j:Int} {M:Mem} {Q:QD}:wLe (.int i) (.int j) M Q=Q (.bl (decide (i<=j))) M:=rfl
theorem tO {i j:Int} {M:Mem} {Q:QD}:wGt (.int i) (.int j) M Q=Q (.bl (decide (j < i))) M:=rfl
theorem A0 {i j:Int} {M:Mem} {Q:QD}:wGe (.int i) (.int j) M Q=Q (.bl (decide (j<=i))) M:=rfl
theorem wd {i:Int} {M:Mem} {Q:QD}:sK (.int i) M Q=Q (.int (-i)) M:=rfl
theorem Dn {i:Int} {M:Mem} {Q:QD}:nV [.int i] M Q=Q (.int (if i < 0 then -i else i)) M:=by simp [nV]
theorem Bl {i j:Int} {M:Mem} {Q:QD}:no [.int i, .int j] M Q=Q (.int (if j < i then j else i)) M:=by
 apply propext;constructor
 ·rintro ⟨a,b,e,q⟩;cases e;exact q
 ·exact fun q=>⟨i,j,rfl,q⟩
theorem Do {ds:List D} {M:Mem} {Q:QD}:fR [.con ds] M Q=Q (.int ds.length) M:=by simp [fR,iY]
theorem Dp {ds:List D} {M:Mem} {Q:QD}:fR [.tup ds] M Q=Q (.int ds.length) M:=by simp [fR,iY]
theorem we {ds:List D} {M:Mem}:aw M (.tup ds)=some ds:=rfl
theorem wf {ds:List D} {M:Mem}:aw M (.con ds)=some ds:=rfl
theorem A1 {α:Sort _} {a b : α}:(if true=true then a else b)=a:=rfl
theorem A2 {α:Sort _} {a b : α}:(if false=true then a else b)=b:=rfl
theorem Bm {ta tb:TEd} {ρ:au} {M:Mem} {R:List D->(Mem->Prop)->Mem->Prop}:ox ta tb ρ M R=ta ρ M fun x j=>tb ρ j fun y M2 => ∃ xs ys,aw M2 x=some xs/\aw M2 y=some ys/\R (L7 i7 xs ys) (fun M=>aw M x=some xs/\aw M y=some ys) M2:=by
 unfold ox aH;congr 1;funext x j;unfold bI;congr 1;funext y M2;apply propext;constructor
 ·rintro ⟨x',y',xs,ys,e,q⟩
  cases e;exact ⟨xs,ys,q⟩
 ·rintro ⟨xs,ys,q⟩;exact ⟨x,y,xs,ys,rfl,q⟩
theorem wg {x y:Str} {M:Mem} {Q:QD}:fO (.str x) (.str y) M Q=(x.length+y.length<=Hj/\Q (.str (x++y)) M):=rfl
local macro_rules | `(tactic| walk_at "wp") => `(tactic| ((try dsimp only [wS,wE,wA,wAnds,wOrs,wO,wT,wAndTs,wOrTs,wTl,wI,wCl,wCmp,bG,bGs,opB,opC,opF,opM,tD,opI,bD,wC,wOp,wUn,bI,aH,wAr,iV,nP,nQ,oi,jM,jN,oj,jO,oo,jP,wIf,ff,jQ,wSl,jR,gL,jK,jY,ke,wBM,bn,fT,bX,kY,ow,jU,km,jT,bQ,bN,dZ,i9,kP,ic,oB,gG,jW,jX,oC,sIf,j3,oD,kg,oE,gH,oF,w5,w6,wg,w8,w9,wa,rE,wb,wc,zY,zZ,tO,A0,wd,we,wf,rC,rD,A1,A2,NQ,Kt,Nf,Ng,LY,KQ,Qq,Qr,Qs,HE,KD,Ic,Jw]);(try simp only [wS,wE,wA,wAnds,wOrs,wO,wT,wAndTs,wOrTs,wTl,wI,wCl,wCmp,bG,bGs,opB,opC,opF,opM,tD,opI,bD,wC,wOp,wUn,bI,aH,wAr,iV,nP,nQ,oi,jM,jN,oj,jO,oo,jP,wIf,ff,jQ,wSl,jR,gL,jK,jY,ke,wBM,bn,fT,bX,kY,ow,Bm,jU,km,jT,bQ,bN,dZ,i9,kP,ic,oB,gG,jW,jX,oC,sIf,j3,oD,kg,oE,gH,oF,Bk,
 w5,w6,wg,w8,w9,wa,rE,wb,wc,zY,zZ,tO,A0,wd,Dl,Dm,Ei,Ej,Dn,Bl,Do,Dp,we,wf,rC,rD,A1,A2,IT,if_false,if_true,
 NQ,Kt,Nf,Ng,PY,exists_eq_left',exists_eq_left,exists_eq_right,exists_and_left,exists_and_right,D.bl.injEq,D.int.injEq,D.ref.injEq,D.tup.injEq,LY,KQ,Qq,Qr,Qs,HE,KD,decide_eq_true_eq,QL,and_true,true_and,Ic,Jw])))
local macro_rules | `(tactic| walk_at "st") => `(tactic| ((first | rw [dj] | (dsimp only;rw [dj]));walk_at "wp"))
theorem Dq {a:Addr} {t:Bool} {kvs:List (D×D)} {k d:D} {M:Mem} {Q:QD} (h:M a=some (.dct t kvs)) (ok:i4 t k=true) (e:dget kvs k=some d) (q:Q d M):wIx (.ref a) k M Q := .inr (.inl ⟨t,kvs,d,h,ok,e,q⟩)
theorem pO {a:Addr} {kvs:List (D×D)} {k d:D} {M:Mem} {Q:QD} (h:M a=some (.fdc kvs)) (ok:cr k=true) (e:dget kvs k=some d) (q:Q d M):wIx (.ref a) k M Q := .inr (.inr ⟨kvs,d,h,ok,e,q⟩)
theorem rF {i:Nat} {t:TSd} {A:bM} {ρ:au} {M:Mem} {a:Addr} {kvs:List (D×D)} (e : ρ[i]? = some (some (.ref a))) (m:M a=some (.dct true kvs)) (h:t A ρ (ag M a (.fdc kvs))):tw i t A ρ M:=⟨a,kvs,e, .inl ⟨m,h⟩⟩
theorem ji {a:Addr} {t:Bool} {kvs:List (D×D)} {k v:D} {M:Mem} {Q:Mem->Prop} (h:M a=some (.dct t kvs)) (ok:i4 t k=true) (j:kvs.length < Hj) (q:Q (ag M a (.dct t (cJ kvs k v)))):ie (.ref a) k v M Q:=⟨a,rfl, .inr ⟨t,kvs,h,ok,j,q⟩⟩
def Ge (M M':Mem):Prop := ∀ a o,M a=some o->M' a=some o
theorem Ge.refl {M:Mem}:Ge M M:=fun _ _ h=>h
theorem Ge.trans {M M' M'':Mem} (h:Ge M M') (g:Ge M' M''):Ge M M'':=fun _ _ e=>g _ _ (h _ _ e)
theorem Ge.new {M:Mem} {p:Addr} {o:O} (h:M p=none):Ge M (ag M p o):=fun a o' e=>by
 rw [aj (fun z=>by rw [z,h] at e;cases e)];exact e
def Box (b:Addr) (M:Mem):Prop := ∃ x y z:Int,M b=some (.lst [.int x, .int y, .int z])
structure Bx (b:Addr) (M M':Mem):Prop where
 box:Box b M'
 keep:∀ a o,a≠b->M a=some o->M' a=some o
theorem Bx.refl {b:Addr} {M:Mem} (h:Box b M):Bx b M M:=⟨h,fun _ _ _ e=>e⟩
theorem Bx.trans {b:Addr} {M M' M'':Mem} (h:Bx b M M') (g:Bx b M' M''):Bx b M M'':=⟨g.box,fun a o n e=>g.keep a o n (h.keep a o n e)⟩
theorem Bx.ge {b:Addr} {M M' M'':Mem} (h:Bx b M M') (g:Ge M' M''):Bx b M M'':=⟨by obtain ⟨x,y,z,e⟩:=h.box;exact ⟨x,y,z,g _ _ e⟩,fun a o n e=>g _ _ (h.keep a o n e)⟩
theorem Bx.put {b:Addr} {M:Mem} {x y z:Int}:Bx b M (ag M b (.lst [.int x, .int y, .int z])):=⟨⟨x,y,z,aa⟩,fun a o n e=>by rw [aj n];exact e⟩
theorem Bx.of {b:Addr} {M M':Mem} (h:Box b M) (g:Ge M M'):Bx b M M':=(Bx.refl h).ge g
theorem wj {b:BT} {tb:TCd} {chk:Mem->Prop} {N:NC} (I:List D->au->Mem->List D->Prop) {xs:List D} {ρ:au} {M:Mem} {acc:List D}
 (h0:I [] ρ M acc)
 (q:∀ l ρ M acc,I l ρ M acc->chk M)
 (hs:∀ l x r ρ M acc,xs=l++x::r->I l ρ M acc -> ∃ ρ',b x ρ = some ρ' /\ ∀ N':NC,(∀ ρ2 M2 j,I (l++[x]) ρ2 M2 j->N' ρ2 M2 j)->tb ρ' M acc N')
 (z:∀ ρ M acc,I xs ρ M acc->N ρ M acc):bo b tb chk N xs ρ M acc:=by
 have g:∀ (r l:List D) (ρ:au) (M:Mem) (acc:List D),xs=l++r->I l ρ M acc->bo b tb chk N r ρ M acc:=by
  intro r
  induction r with
  | nil=>intro l ρ M acc e i;rw [IH] at e;subst e;exact ⟨q _ _ _ _ i,z _ _ _ i⟩
  | cons x r ih =>
    intro l ρ M acc e i;obtain ⟨ρ',e1,h⟩:=hs l x r ρ M acc e i;exact ⟨q _ _ _ _ i, ρ',e1,h _ fun ρ2 M2 j B=>ih (l++[x]) ρ2 M2 j (by rw [e];simp) B⟩
 exact g xs [] ρ M acc rfl h0
theorem yW {b:BT} {tb:TSd} {chk:Mem->Prop} {E:bM} (I:List D->au->Mem->Prop) {xs:List D} {ρ:au} {M:Mem}
 (h0:I [] ρ M)
 (j:∀ l ρ M,I l ρ M->chk M)
 (hs:∀ l x r ρ M,xs=l++x::r->I l ρ M -> ∃ ρ',b x ρ = some ρ' /\ ∀ F:au->Mem->Prop,(∀ ρ2 M2,I (l++[x]) ρ2 M2->F ρ2 M2)->tb { E with nx:=F,ct:=F,bk:=E.nx } ρ' M)
 (q:∀ ρ M,I xs ρ M->E.nx ρ M):bU b tb chk E xs ρ M:=by
 have g:∀ (r l:List D) (ρ:au) (M:Mem),xs=l++r->I l ρ M->bU b tb chk E r ρ M:=by
  intro r
  induction r with
  | nil=>intro l ρ M e i;rw [IH] at e;subst e;exact ⟨j _ _ _ i,q _ _ i⟩
  | cons x r ih =>
    intro l ρ M e i;obtain ⟨ρ',e1,h⟩:=hs l x r ρ M e i;exact ⟨j _ _ _ i, ρ',e1,h _ fun ρ2 M2 z=>ih (l++[x]) ρ2 M2 (by rw [e];simp) z⟩
 exact g xs [] ρ M rfl h0
section
variable {T:List FD}
noncomputable def kA (s:Stmt):FD:=⟨"_law_cell_at",s,["_law_script", "_law_k"],2,
 (.cons (.ite (.cmp .lt (.var 1) (.blt .len (.cons (.var 0) .nil))) (.cons (.ret (.ix (.var 0) (.var 1)))
 .nil) .nil)
 (.cons (.ret (.int 0))
 .nil))⟩
theorem pP {α:Type} {xs:List α} {i:Int} (h0 : 0<=i) (h1:i < xs.length):∃ x,atI xs i=some x/\xs[i.toNat]? = some x:=by
 have:i.toNat < xs.length:=by lia
 refine ⟨xs[i.toNat], ?_,z4 this⟩;unfold atI ixN;simp [h0,h1,z4 this]
theorem Bn {f:Nat} {s:Stmt} (hf:T[f]? = some (kA s)) {n:Nat} (j : 1<=n) {ns:List Int} {k:Int} {M:Mem} {Q:QD} (h0 : 0<=k) (q:∀ i,Q (.int i) M):phi T n f [.con (ns.map D.int), .int k] M Q:=by
 refine aq j hf rfl (ρ := [some _,some _]) rfl ?_;unfold kA;walk_at "st"
 split
 ·next h =>
  walk_at "st";obtain ⟨x,e,e2⟩:=pP (xs:=ns.map D.int) h0 h;rw [HM] at e2
  cases e3:ns[k.toNat]? with
  | none=>rw [e3] at e2;cases e2
  | some y=>rw [e3] at e2;cases e2;exact ⟨_,e,q y⟩
 ·walk_at "st";exact q 0
theorem dk {i j:Int} (h : -(2 ^ 64) < i/\i < 2 ^ 64):MulOk i j := .inl h
theorem ll {i j:Int} (h : -(2 ^ 64) < j/\j < 2 ^ 64):MulOk i j := .inr (.inl h)
noncomputable def ln (s:Stmt):FD:=⟨"_law_mixed",s,["_law_number_here", "_law_k", "_law_once", "_law_twice"],2,
 (.cons (.asg (.name 2) (.bin .mod (.bin .mul (.bin .add (.bin .add (.bin .mod (.var 0) (.int 1000000007)) (.bin .mul (.int 7) (.var 1))) (.int 1)) (.int 48271)) (.int 2147483647)))
 (.cons (.asg (.name 3) (.bin .mod (.bin .mul (.var 2) (.bin .add (.bin .add (.bin .mod (.var 2) (.int 1009)) (.var 1)) (.int 3))) (.int 998244353)))
 (.cons (.ret (.bin .fdiv (.bin .mod (.bin .add (.bin .mul (.var 3) (.int 39373)) (.var 2)) (.int 2147483629)) (.int 64)))
 .nil)))⟩
noncomputable def tP (s:Stmt) (fc fm:Nat):FD:=⟨"_law_box",s,["_law_script", "_law_k", "_law_cell"],2,
 (.cons (.asg (.name 2) (.call fc (.cons (.var 0) (.cons (.var 1) .nil))))
 (.cons (.ret (.lst (.cons (.bin .mul (.blt .abs (.cons (.var 2) .nil)) (.blt .int (.cons (.cmp .ge (.blt .abs (.cons (.var 2) .nil)) (.bin .pow (.int 10) (.int 18))) .nil))) (.cons (.call fm (.cons (.var 2) (.cons (.bin .add (.int 900) (.var 1)) .nil))) (.cons (.int 0) .nil)))))
 .nil))⟩
theorem Ds {f fc fm:Nat} {s sc:Stmt} (hf:T[f]? = some (tP s fc fm)) (z:T[fc]? = some (kA sc)) {n:Nat} (B:∀ {x k:Int} {M:Mem} {Q:QD},(∀ i,Q (.int i) M)->phi T (n - 1) fm [.int x, .int k] M Q) (G : 2<=n) {ns:List Int} {k:Int} {M:Mem} {Q:QD} (h0 : 0<=k)
 (q:∀ p x y,M p=none->Q (.ref p) (ag M p (.lst [.int x, .int y, .int 0]))):phi T n f [.con (ns.map D.int), .int k] M Q:=by
 refine aq (by lia) hf rfl (ρ := [some _,some _,none]) rfl ?_
 unfold tP;walk_at "st";refine Bn z (by lia) h0 fun i => ?_
 walk_at "st";refine ⟨by decide,by decide,by decide,ll ?_, ?_⟩
 ·split <;> lia
 refine B fun j => ?_;exact ⟨by rw [tv];lia,fun p F=>q p _ _ F⟩
noncomputable def pQ (s:Stmt) (fm:Nat):FD:=⟨"_law_take",s,["_law_box_here", "_law_many", "_law_found", "_law_reach"],2,
 (.cons (.ite (.cmp .gt (.ix (.var 0) (.int 0)) (.int 0)) (.cons (.asg (.name 2) (.bin .mod (.ix (.var 0) (.int 0)) (.var 1)))
 (.cons (.put (.var 0) (.int 0) (.bin .fdiv (.ix (.var 0) (.int 0)) (.var 1)))
 (.cons (.ret (.var 2))
 .nil))) .nil)
 (.cons (.asg (.tup (.cons (.name 2) (.cons (.name 3) .nil))) (.tup (.cons (.int 0) (.cons (.int 1) .nil))))
 (.cons (.while (.cmp .lt (.var 3) (.var 1)) (.cons (.put (.var 0) (.int 2) (.bin .add (.ix (.var 0) (.int 2)) (.int 1)))
 (.cons (.asg (.name 2) (.bin .add (.bin .mul (.var 2) (.int 33554432)) (.call fm (.cons (.ix (.var 0) (.int 1)) (.cons (.ix (.var 0) (.int 2)) .nil)))))
 (.cons (.asg (.name 3) (.bin .mul (.var 3) (.int 33554432)))
 .nil))))
 (.cons (.ret (.bin .mod (.var 2) (.var 1)))
 .nil))))⟩
def tQ (T:List FD) (n fm:Nat):Prop := ∀ {x k:Int} {M:Mem} {Q:QD},(∀ i,Q (.int i) M)->phi T n fm [.int x, .int k] M Q
theorem Bo {f fm:Nat} {s:Stmt} (hf:T[f]? = some (pQ s fm)) {n:Nat} (J:tQ T (n - 1) fm) (O : 2<=n) {b:Addr} {m:Int} {M:Mem} {Q:QD} (L:Box b M) (h1 : 0 < m) (h2:m<=2 ^ 100)
 (q:∀ r M',0<=r->r < m->Bx b M M'->Q (.int r) M'):phi T n f [.ref b, .int m] M Q:=by
 refine aq (by lia) hf rfl (ρ := [some _,some _,none,none]) rfl ?_
 unfold pQ;obtain ⟨x,y,z,G⟩:=L;walk_at "st";refine av G (d := .int x) rfl ?_;simp only [tO];walk_at "wp"
 split
 ·next hx =>
  walk_at "st";refine av G (d := .int x) rfl ?_;walk_at "wp";refine ⟨h1, ?_⟩;walk_at "st";refine av G (d := .int x) rfl ?_;walk_at "wp";refine ⟨h1,by lia, ?_⟩
  refine bZ G (j := 0) rfl ?_;walk_at "st";exact q _ _ (My _ (by lia)) (Lp _ h1) Bx.put
 ·next hx =>
  walk_at "st";refine ⟨by rw [tv];lia, ?_⟩
  walk_at "st";refine ⟨5, ?_⟩;have go:∀ (f:Nat) (found reach z:Int) (M':Mem),m<=reach*33554432 ^ f->M' b=some (.lst [.int x, .int y, .int z])->Bx b M M' ->
   bB (iV (wOp wLt (bD 3) (bD 1))) (wSs (phi T (n - 1)) (MSs.cons (MS.put (ME.var 0) (ME.int 2) (ME.bin BOp.add ((ME.var 0).ix (ME.int 2)) (ME.int 1)))
    (MSs.cons (MS.asg (MG.name 2) (ME.bin BOp.add (ME.bin BOp.mul (ME.var 2) (ME.int 33554432)) (ME.call fm (MEs.cons ((ME.var 0).ix (ME.int 1)) (MEs.cons ((ME.var 0).ix (ME.int 2)) MEs.nil)))))
      (MSs.cons (MS.asg (MG.name 3) (ME.bin BOp.mul (ME.var 3) (ME.int 33554432))) MSs.nil))))
    { nx:=wSs (phi T (n - 1)) (MSs.cons (MS.ret (ME.bin BOp.mod (ME.var 2) (ME.var 1))) MSs.nil) { nx:=fun x M'=>Q D.non M',rt:=Q },rt:=Q } (f+1) [some (.ref b),some (.int m),some (.int found),some (.int reach)] M':=by
   intro f
   induction f with
   | zero =>
     intro found reach z M' hm F B;simp only [bB];walk_at "wp";rw [if_neg (by lia)]
     walk_at "st";exact ⟨h1,q _ _ (My _ (by lia)) (Lp _ h1) B⟩
   | succ f ih =>
     intro found reach z M' hm F B;rw [bB];walk_at "wp"
     split
     ·next U =>
      walk_at "st";refine av F (d := .int z) rfl ?_;walk_at "wp";refine bZ F (j := 2) rfl ?_;walk_at "st";refine ⟨ll (by decide), ?_⟩
      refine av aa (d := .int y) rfl ?_;refine av aa (d := .int (z+1)) rfl ?_;refine J fun i => ?_;walk_at "wp";walk_at "st";refine ⟨ll (by decide), ?_⟩
      exact ih _ _ (z+1) _ (by rw [Int.mul_assoc, <- Int.pow_succ'];exact hm) aa (B.trans Bx.put)
     ·walk_at "st";exact ⟨h1,q _ _ (My _ (by lia)) (Lp _ h1) B⟩
  exact go 4 0 1 z M (by lia) G (Bx.refl ⟨x,y,z,G⟩)
def fB (T:List FD) (n f:Nat):Prop := ∀ {b:Addr} {m:Int} {M:Mem} {Q:QD},Box b M->0 < m->m<=2 ^ 100->(∀ r M',0<=r->r < m->Bx b M M'->Q (.int r) M')->phi T n f [.ref b, .int m] M Q
noncomputable def jj (s:Stmt) (ft:Nat):FD:=⟨"_law_number",s,["_law_box_here", "_law_way"],1,
 (.cons (.asg (.name 1) (.call ft (.cons (.var 0) (.cons (.int 9) .nil))))
 (.cons (.ite (.cmp .eq (.var 1) (.int 0)) (.cons (.ret (.bin .sub (.call ft (.cons (.var 0) (.cons (.int 2001) .nil))) (.int 1000)))
 .nil) .nil)
 (.cons (.ret (.ix (.lst (.cons (.int 0) (.cons (.int 0) (.cons (.int 0) (.cons (.int 1) (.cons (.int 1) (.cons (.int 1) (.cons (.neg (.int 1)) (.cons (.neg (.int 1)) (.cons (.int 2) .nil)))))))))) (.var 1)))
 .nil)))⟩
theorem wk {f ft:Nat} {s:Stmt} (hf:T[f]? = some (jj s ft)) {n:Nat} (j:fB T (n - 1) ft) (U : 1<=n) {b:Addr} {M:Mem} {Q:QD} (G:Box b M)
 (q:∀ r M', -1000<=r->r<=1000->Bx b M M'->Q (.int r) M'):phi T n f [.ref b] M Q:=by
 refine aq (by lia) hf rfl (ρ := [some _,none]) rfl ?_
 unfold jj;walk_at "st";refine j G (by decide) (by decide) fun r Y h0 h1 B => ?_
 walk_at "st"
 split
 ·walk_at "st";refine j B.box (by decide) (by decide) fun Z M2 h0 h1 J => ?_
  walk_at "wp";exact q _ _ (by lia) (by lia) (B.trans J)
 ·next F =>
  walk_at "st";refine ⟨by rw [tv];lia,fun p L => ?_⟩
  have F:r=1∨r=2∨r=3∨r=4∨r=5∨r=6∨r=7∨r=8:=by
   have:r≠0:=fun z=>F (by rw [z];rfl)
   lia
  have O:=B.ge (Ge.new (o := .lst [.int 0, .int 0, .int 0, .int 1, .int 1, .int 1, .int (-1), .int (-1), .int 2]) L)
  rcases F with rfl | rfl | rfl | rfl | rfl | rfl | rfl | rfl <;> exact av aa rfl (q _ _ (by decide) (by decide) O)
end
section
variable {T:List FD}
def pR (T:List FD) (n f:Nat):Prop := ∀ {b:Addr} {M:Mem} {Q:QD},Box b M->(∀ r M', -1000<=r->r<=1000->Bx b M M'->Q (.int r) M')->phi T n f [.ref b] M Q
def bE (ns:List Int):Prop := ∀ x∈ns, -1000<=x/\x<=1000
theorem dW {lo:Int} {n:Nat}:(cv lo n).length=n:=by simp [cv]
theorem al {α:Type} {xs l r:List α} {x : α} (e:xs=l++x::r):l.length < xs.length:=by rw [e];simp
noncomputable def pS (s:Stmt) (fn:Nat):FD:=⟨"_law_part",s,["_law_box_here", "_law_length"],2,
 (.cons (.ret (.blt .tuple (.cons (.comp [none,(some 0)] ["_law_k", "_law_box_here"] (.last (.rng1 (.var 1)) (.name 0) .nil (.call fn (.cons (.var 1) .nil)))) .nil)))
 .nil)⟩
theorem Bp {f fn:Nat} {s:Stmt} (hf:T[f]? = some (pS s fn)) {n:Nat} (B:pR T (n - 1) fn) (Y : 1<=n) {b:Addr} {L:Nat} (Z:L<=1000) {M:Mem} {Q:QD} (F:Box b M)
 (q:∀ (ns:List Int) M',ns.length=L->bE ns->Bx b M M'->Q (.tup (ns.map .int)) M'):phi T n f [.ref b, .int L] M Q:=by
 refine aq (by lia) hf rfl (ρ := [some _,some _]) rfl ?_
 unfold pS;walk_at "st";refine ⟨by lia,by lia, ?_⟩
 refine wj (I:=fun l ρ M' acc => ∃ (ns:List Int) (x:Option D),acc=ns.map .int/\ns.length=l.length/\bE ns/\Bx b M M' /\ ρ = [x,some (.ref b)]) ⟨[],none,rfl,rfl,fun _ h=>by simp at h,Bx.refl F,rfl⟩ (fun _ _ _ _ _=>trivial) ?_ ?_
 ·rintro l x r ρ M1 acc e ⟨ns,o,rfl,j,hs,z,rfl⟩;refine ⟨_,rfl,fun N' G => ?_⟩;walk_at "wp";refine B z.box fun v M2 h1 h2 J => ?_;have:=al e;rw [dW] at this;refine ⟨by rw [q7,j,tv];lia,G _ _ _ ⟨ns++[v],_,by simp,by simp [j], ?_,z.trans J,rfl⟩⟩
  intro y O
  rcases Hv.mp O with h | h
  ·exact hs y h
  ·simp at h;subst h;exact ⟨h1,h2⟩
 ·rintro ρ M1 acc ⟨ns,o,rfl,j,hs,z,rfl⟩ p U;rw [dW] at j;refine ⟨_,ns.map .int,rfl,ad aa,q ns _ (by lia) hs (z.ge (Ge.new U))⟩
noncomputable abbrev Pr:=List Int×List Int×List Int
noncomputable def prD (p:Pr):D := .tup [.tup (p.1.map .int), .tup (p.2.1.map .int), .tup (p.2.2.map .int)]
noncomputable def dm (p:Pr):IU := .tuple [.tuple (p.1.map .int), .tuple (p.2.1.map .int), .tuple (p.2.2.map .int)]
structure pT (L0 L1 L2:Nat) (p:Pr):Prop where
 l0:p.1.length=L0
 l1:p.2.1.length=L1
 l2:p.2.2.length=L2
 s0:bE p.1
 s1:bE p.2.1
 s2:bE p.2.2
theorem fC {k:Nat} {M:Mem}:∀ ns:List Int,aD (rb k M) (ns.map D.int)=some (ns.map PyData.int)
 | [] => rfl
 | x::r=>by
   have e:rb k M (.int x)=some (.int x):=by cases k <;> rfl
   simp [aD,e,fC r]
theorem Ek {k:Nat} {M:Mem} (p:Pr):rb (k+2) M (prD p)=some (dm p):=by
 simp [rb,prD,dm,aD,fC]
theorem kB {k:Nat} {M:Mem}:∀ ps:List Pr,aD (rb (k+2) M) (ps.map prD)=some (ps.map dm)
 | [] => rfl
 | p::r=>by simp [aD,Ek,kB r]
theorem cG {k:Nat} {M:Mem} {a:Addr} {ds:List D} (h:M a=some (.lst ds)):rb (k+1) M (.ref a)=(aD (rb k M) ds).map QA:=by
 simp only [rb,h]
theorem dq {Φ:Phi} {s:MS} {r:MSs} {E:bM} {ρ:au} {M:Mem} (I:au->Mem->Prop) (h1:∀ R:au->Mem->Prop,(∀ ρ M,I ρ M->R ρ M)->wS Φ s { E with nx:=R } ρ M) (h2:∀ ρ M,I ρ M->wSs Φ r E ρ M):wSs Φ (.cons s r) E ρ M:=by
 rw [dj];exact h1 _ h2
theorem Bx.upd {b q:Addr} {M M':Mem} {o:O} (h:Bx b M M') (B:M q=none) (j:q≠b):Bx b M (ag M' q o) :=
 ⟨by obtain ⟨x,y,z,e⟩:=h.box;exact ⟨x,y,z,by rw [aj j.symm];exact e⟩,fun u o' nu eu=>by
   rw [aj (fun z=>by rw [z,B] at eu;cases eu)];exact h.keep u o' nu eu⟩
theorem Bx.none {b q:Addr} {M M':Mem} (h:Bx b M M') (z:M' q=none) (j:q≠b):M q=none:=by
 cases e:M q with
 | none=>rfl
 | some o=>rw [h.keep q o j e] at z;cases z
noncomputable def prL (p:Pr):List D := [.tup (p.1.map .int), .tup (p.2.1.map .int), .tup (p.2.2.map .int)]
theorem gR {k:Nat}:bE (HB k 0):=fun x h=>by
 rw [(List.mem_replicate.mp h).2];decide
theorem yX {k:Nat}:(HB k [D.int 0]).flatten=(HB k (0:Int)).map D.int:=by
 induction k with
 | zero=>rfl
 | succ k ih=>rw [IX,IJ,ih];rfl
def wl (T:List FD) (n f:Nat):Prop := ∀ {b:Addr} {L:Nat} {M:Mem} {Q:QD},L<=1000->Box b M->(∀ (ns:List Int) M',ns.length=L->bE ns->Bx b M M'->Q (.tup (ns.map .int)) M')->phi T n f [.ref b, .int L] M Q
noncomputable def jk (s:Stmt) (ft fp:Nat):FD:=⟨"_law_scheme",s,["_law_box_here", "_law_lengths", "_law_count", "_law_products", "_law_k", "_law_product", "_law_way", "_law_side"],3,
 (.cons (.asg (.name 3) (.lst .nil))
 (.cons (.for (.name 4) (.rng1 (.var 2)) (.cons (.asg (.name 5) (.comp [none,(some 0)] ["_law_length", "_law_box_here"] (.last (.seq (.var 1)) (.name 0) .nil (.call fp (.cons (.var 1) (.cons (.var 0) .nil))))))
 (.cons (.asg (.name 6) (.call ft (.cons (.var 0) (.cons (.int 8) .nil))))
 (.cons (.ite (.and (.cons (.cmp .lt (.var 6) (.int 3)) (.cons (.cmp .ne (.var 3) (.lst .nil)) .nil))) (.cons (.put (.var 5) (.var 6) (.ix (.ix (.var 3) (.call ft (.cons (.var 0) (.cons (.blt .len (.cons (.var 3) .nil)) .nil)))) (.var 6)))
 .nil) .nil)
 (.cons (.ite (.cmp .eq (.var 6) (.int 3)) (.cons (.asg (.name 7) (.call ft (.cons (.var 0) (.cons (.int 3) .nil))))
 (.cons (.put (.var 5) (.var 7) (.bin .mul (.tup (.cons (.int 0) .nil)) (.ix (.var 1) (.var 7))))
 .nil)) .nil)
 (.cons (.drop (.meth .append (.var 3) (.blt .tuple (.cons (.var 5) .nil))))
 .nil))))))
 (.cons (.ret (.bin .add (.blt .tuple (.cons (.var 1) .nil)) (.tup (.cons (.var 3) .nil))))
 .nil)))⟩
theorem wm {f ft fp:Nat} {s:Stmt} (hf:T[f]? = some (jk s ft fp)) {n:Nat} (Ff:fB T (n - 1) ft) (Fg:wl T (n - 1) fp) (hn : 1<=n) {b a:Addr} {L0 L1 L2 c:Nat} (h0:L0<=1000) (h1:L1<=1000) (h2:L2<=1000) (hc:c<=1000) {M:Mem} {Q:QD} (hb:Box b M) (F6:a≠b) (ha:M a=some (.lst [.int L0, .int L1, .int L2]))
 (q:∀ (ps:List Pr) pr M',ps.length=c->(∀ p∈ps,pT L0 L1 L2 p)->Bx b M M'->M pr=none->M' pr=some (.lst (ps.map prD))->Q (.tup [.int L0, .int L1, .int L2, .ref pr]) M'):phi T n f [.ref b, .ref a, .int c] M Q:=by
 refine aq (by lia) hf rfl (ρ := [some _,some _,some _,none,none,none,none,none]) rfl ?_
 unfold jk;walk_at "st";refine ⟨by lia,fun pr F8 => ?_⟩
 have U:pr≠b:=fun z=>by obtain ⟨x,y,w,e⟩:=hb;rw [<- z,F8] at e;cases e
 have Fx:pr≠a:=fun z=>by rw [<- z,F8] at ha;cases ha
 walk_at "st";refine ⟨by lia,by lia, ?_⟩
 refine yW (I:=fun l ρ M' => ∃ (ps:List Pr) (o4 o5 o6 o7:Option D), ρ = [some (.ref b),some (.ref a),some (.int c),some (.ref pr),o4,o5,o6,o7]/\ps.length=l.length/\(∀ p∈ps,pT L0 L1 L2 p)/\Bx b M M'/\M' pr=some (.lst (ps.map prD)))
  ⟨[],none,none,none,none,rfl,rfl,fun _ h=>by simp at h,Bx.of hb (Ge.new F8),aa⟩ (fun _ _ _ _=>trivial) ?_ ?_
 ·rintro l x r ρ M1 e ⟨ps,o4,o5,o6,o7,rfl,hl,hp,x1,Fh⟩;have Fo:=al e;rw [dW] at Fo;refine ⟨_,rfl,fun F hF => ?_⟩;walk_at "wp";have F9:=x1.keep a _ F6 ha;rw [dj];walk_at "wp";refine ⟨_,ad F9, ?_⟩;simp only [bo];refine ⟨ad F9,_,rfl, ?_⟩;walk_at "wp";refine Fg h0 x1.box fun n0 M2 l0 s0 x2 => ?_;have Fi:=x2.keep a _ F6 F9;refine ⟨by simp [tv],ad Fi, ?_⟩
  refine Fg h1 x2.box fun n1 M3 l1 s1 x3 => ?_;have Fj:=x3.keep a _ F6 Fi;refine ⟨by simp [tv],ad Fj, ?_⟩
  refine Fg h2 x3.box fun n2 M4 l2 s2 x4 => ?_;have Fc:=x4.keep a _ F6 Fj;refine ⟨by simp [tv],ad Fc,fun pq F7 => ?_⟩
  have F5:=x4.keep pr _ U (x3.keep pr _ U (x2.keep pr _ U Fh));have x5:=((x1.trans x2).trans (x3.trans x4)).ge (Ge.new (o := .lst ([]++[D.tup (L4 D.int n0)]++[D.tup (L4 D.int n1)]++[D.tup (L4 D.int n2)])) F7);have J:pq≠b:=fun z=>by obtain ⟨x,y,w,e⟩:=x4.box;rw [<- z,F7] at e;cases e
  have L:M pq=none:=((x1.trans x2).trans (x3.trans x4)).none F7 J;have Y:pr≠pq:=fun z=>by rw [z,F7] at F5;cases F5
  have Fy:a≠pq:=fun z=>by rw [z,F7] at Fc;cases Fc
  have Fd:ag M4 pq (.lst ([]++[D.tup (L4 D.int n0)]++[D.tup (L4 D.int n1)]++[D.tup (L4 D.int n2)])) pr=some (.lst (ps.map prD)):=by rw [aj Y];exact F5
  have Fk:ag M4 pq (.lst ([]++[D.tup (L4 D.int n0)]++[D.tup (L4 D.int n1)]++[D.tup (L4 D.int n2)])) pq=some (.lst (prL (n0,n1,n2))):=aa;have hok:pT L0 L1 L2 (n0,n1,n2):=⟨l0,l1,l2,s0,s1,s2⟩;generalize ag M4 pq (.lst ([]++[D.tup (L4 D.int n0)]++[D.tup (L4 D.int n1)]++[D.tup (L4 D.int n2)]))=M5 at x5 Fd Fk;generalize hP:(n0,n1,n2)=p0 at hok Fk;clear F7 F5 x4 Fc x3 Fj x2 Fi hP;walk_at "st";refine Ff x5.box (by decide) (by decide) fun way M6 w0 w1 x6 => ?_
  have Fa:=x6.keep pr _ U Fd;have Fm:=x6.keep pq _ J Fk;have Fn:=x5.trans x6;refine dq (I:=fun ρ' M' => ρ'=[some (.ref b),some (.ref a),some (.int c),some (.ref pr),some x,some (.ref pq),some (.int way),o7] /\ ∃ p:Pr,pT L0 L1 L2 p/\Bx b M M'/\M' pr=some (.lst (ps.map prD))/\M' pq=some (.lst (prL p))) (fun R hR => ?_) ?_
  ·walk_at "wp"
   split
   ·next hw =>
    refine ⟨by lia,fun pe Fp => ?_⟩
    have g:=Ge.new (o := .lst []) Fp;refine ⟨_,_,cG (g _ _ Fa) |>.trans (by rw [kB];rfl),cG aa, ?_⟩
    walk_at "wp";have x7:=Fn.ge g;have O:=g _ _ Fa;have Fb:=g _ _ Fm
    split
    ·next Fq =>
     have Fw : 0 < ps.length:=by
      cases ps with
      | nil=>simp [Im,IW] at Fq
      | cons p r=>simp
     walk_at "st";refine fA O ?_;refine Ff x7.box (by rw [q7];lia) (by rw [q7];lia) fun r M8 r0 r1 x8 => ?_
     have G:=x8.keep pr _ U O;have Z:=x8.keep pq _ J Fb;obtain ⟨d,e1,e2⟩:=pP r0 r1;refine av G e1 ?_;rw [HM] at e2
     cases e3:ps[r.toNat]? with
     | none=>rw [e3] at e2;cases e2
     | some pp =>
       rw [e3] at e2;cases e2;have ho:=hp pp (HH e3);have Fs:way=0∨way=1∨way=2:=by lia
       have x9:=x7.trans x8
       rcases Fs with rfl | rfl | rfl
       ·refine ⟨_,_,rfl,rfl,bZ Z (j := 0) rfl ?_⟩;exact hR _ _ ⟨rfl,(pp.1,p0.2.1,p0.2.2),⟨ho.l0,hok.l1,hok.l2,ho.s0,hok.s1,hok.s2⟩,x9.upd L J,by rw [aj Y];exact G,aa⟩
       ·refine ⟨_,_,rfl,rfl,bZ Z (j := 1) rfl ?_⟩;exact hR _ _ ⟨rfl,(p0.1,pp.2.1,p0.2.2),⟨hok.l0,ho.l1,hok.l2,hok.s0,ho.s1,hok.s2⟩,x9.upd L J,by rw [aj Y];exact G,aa⟩
       ·refine ⟨_,_,rfl,rfl,bZ Z (j := 2) rfl ?_⟩;exact hR _ _ ⟨rfl,(p0.1,p0.2.1,pp.2.2),⟨hok.l0,hok.l1,ho.l2,hok.s0,hok.s1,ho.s2⟩,x9.upd L J,by rw [aj Y];exact G,aa⟩
    ·exact hR _ _ ⟨rfl,p0,hok,x7,O,Fb⟩
   ·exact hR _ _ ⟨rfl,p0,hok,Fn,Fa,Fm⟩
  ·rintro ρ M7 ⟨rfl,p,B,x7,O,Fb⟩;refine dq (I:=fun ρ' M' => ∃ (o7:Option D), ρ'=[some (.ref b),some (.ref a),some (.int c),some (.ref pr),some x,some (.ref pq),some (.int way),o7] /\ ∃ p:Pr,pT L0 L1 L2 p/\Bx b M M'/\M' pr=some (.lst (ps.map prD))/\M' pq=some (.lst (prL p))) (fun R hR => ?_) ?_
   ·walk_at "wp"
    split
    ·walk_at "st";refine Ff x7.box (by decide) (by decide) fun side M8 d0 d1 x8 => ?_
     have G:=x8.keep pr _ U O;have Z:=x8.keep pq _ J Fb;have x9:=x7.trans x8;have Fl:=x9.keep a _ F6 ha;walk_at "st";refine ⟨by rw [tv];lia, ?_⟩
     have Ft:side=0∨side=1∨side=2:=by lia
     rcases Ft with rfl | rfl | rfl
     ·refine av Fl (d := .int L0) rfl ?_;walk_at "wp";refine ⟨by lia,by lia,by rw [tv];lia,bZ Z (j := 0) rfl ?_⟩
      rw [yX];exact hR _ _ ⟨_,rfl,(HB (L0:Int).toNat 0,p.2.1,p.2.2),⟨by simp,B.l1,B.l2,gR,B.s1,B.s2⟩,x9.upd L J,by rw [aj Y];exact G,aa⟩
     ·refine av Fl (d := .int L1) rfl ?_;walk_at "wp";refine ⟨by lia,by lia,by rw [tv];lia,bZ Z (j := 1) rfl ?_⟩
      rw [yX];exact hR _ _ ⟨_,rfl,(p.1,HB (L1:Int).toNat 0,p.2.2),⟨B.l0,by simp,B.l2,B.s0,gR,B.s2⟩,x9.upd L J,by rw [aj Y];exact G,aa⟩
     ·refine av Fl (d := .int L2) rfl ?_;walk_at "wp";refine ⟨by lia,by lia,by rw [tv];lia,bZ Z (j := 2) rfl ?_⟩
      rw [yX];exact hR _ _ ⟨_,rfl,(p.1,p.2.1,HB (L2:Int).toNat 0),⟨B.l0,B.l1,by simp,B.s0,B.s1,gR⟩,x9.upd L J,by rw [aj Y];exact G,aa⟩
    ·exact hR _ _ ⟨_,rfl,p,B,x7,O,Fb⟩
   ·rintro ρ M9 ⟨Fz,rfl,p,B,x9,Fe,Fu⟩;walk_at "st";refine ⟨⟨_,Fe⟩,_,_,rfl,ad Fu,_,_,_,rfl,rfl,Fe,by rw [q7,tv];lia, ?_⟩
    walk_at "wp";exact hF _ _ ⟨ps++[p],_,_,_,_,rfl,by simp [hl],fun p' Fv=>(Hv.mp Fv).elim (hp p') fun z=>by simp at z;subst z;exact B,x9.upd F8 U,by rw [aa];simp [prD,prL]⟩
 ·rintro ρ M1 ⟨ps,o4,o5,o6,o7,rfl,hl,hp,x1,Fh⟩;have F9:=x1.keep a _ F6 ha;dsimp only;walk_at "st";refine ⟨_,_,rfl,ad F9,by rw [tv];lia, ?_⟩
  walk_at "wp";rw [dW] at hl;exact ⟨by simp,by rw [tv];lia,q ps pr M1 (by lia) hp x1 F8 Fh⟩
end
section
theorem ay {α:Type} {f : α -> D} {b:BT} {tb:TCd} {chk:Mem->Prop} {N:NC} (I:List α -> au->Mem->List D->Prop) {ys:List α} {xs:List D} (hx:xs=ys.map f) {ρ:au} {M:Mem} {acc:List D}
 (h0:I [] ρ M acc)
 (q:∀ l ρ M acc,I l ρ M acc->chk M)
 (hs:∀ l x r ρ M acc,ys=l++x::r->I l ρ M acc -> ∃ ρ',b (f x) ρ = some ρ' /\ ∀ N':NC,(∀ ρ2 M2 j,I (l++[x]) ρ2 M2 j->N' ρ2 M2 j)->tb ρ' M acc N')
 (z:∀ ρ M acc,I ys ρ M acc->N ρ M acc):bo b tb chk N xs ρ M acc:=by
 subst hx;have g:∀ (r l:List α) (ρ:au) (M:Mem) (acc:List D),ys=l++r->I l ρ M acc->bo b tb chk N (r.map f) ρ M acc:=by
  intro r
  induction r with
  | nil=>intro l ρ M acc e i;rw [IH] at e;subst e;exact ⟨q _ _ _ _ i,z _ _ _ i⟩
  | cons x r ih =>
    intro l ρ M acc e i;obtain ⟨ρ',e1,h⟩:=hs l x r ρ M acc e i;exact ⟨q _ _ _ _ i, ρ',e1,h _ fun ρ2 M2 j B=>ih (l++[x]) ρ2 M2 j (by rw [e];simp) B⟩
 exact g ys [] ρ M acc rfl h0
theorem aP {α:Type} {f : α -> D} {b:BT} {tb:TSd} {chk:Mem->Prop} {E:bM} (I:List α -> au->Mem->Prop) {ys:List α} {xs:List D} (hx:xs=ys.map f) {ρ:au} {M:Mem}
 (h0:I [] ρ M)
 (j:∀ l ρ M,I l ρ M->chk M)
 (hs:∀ l x r ρ M,ys=l++x::r->I l ρ M -> ∃ ρ',b (f x) ρ = some ρ' /\ ∀ F:au->Mem->Prop,(∀ ρ2 M2,I (l++[x]) ρ2 M2->F ρ2 M2)->tb { E with nx:=F,ct:=F,bk:=E.nx } ρ' M)
 (q:∀ ρ M,I ys ρ M->E.nx ρ M):bU b tb chk E xs ρ M:=by
 subst hx;have g:∀ (r l:List α) (ρ:au) (M:Mem),ys=l++r->I l ρ M->bU b tb chk E (r.map f) ρ M:=by
  intro r
  induction r with
  | nil=>intro l ρ M e i;rw [IH] at e;subst e;exact ⟨j _ _ _ i,q _ _ i⟩
  | cons x r ih =>
    intro l ρ M e i;obtain ⟨ρ',e1,h⟩:=hs l x r ρ M e i;exact ⟨j _ _ _ i, ρ',e1,h _ fun ρ2 M2 z=>ih (l++[x]) ρ2 M2 (by rw [e];simp) z⟩
 exact g ys [] ρ M rfl h0
theorem dr {M M':Mem} {x:D} {ds:List D} (h:aw M x=some ds) (g:Ge M M'):aw M' x=some ds:=by
 cases x with
 | ref a =>
   simp only [aw] at h ⊢
   split at h
   ·next e=>rw [g _ _ e];exact h
   ·cases h
 | _=>exact h
theorem cM {M:Mem} {x:D} {ds:List D} (h:aw M x=some ds):iY M x=some ds.length:=by
 cases x with
 | ref a =>
   simp only [aw] at h
   split at h
   ·next e=>cases h;simp only [iY,e]
   ·cases h
 | tup es=>cases h;rfl
 | con es=>cases h;rfl
 | _=>cases h
theorem lp {M:Mem} {x:D} {ds:List D} {Q:QD} (h:aw M x=some ds) (q:Q (.int ds.length) M):fR [x] M Q:=⟨_,_,rfl,cM h,q⟩
theorem iA {α:Type} {xs:List α} {k:Nat} {x : α} (h:xs[k]? = some x):atI xs (k:Int)=some x:=by
 have j:k < xs.length:=(HC.mp h).1;unfold atI ixN;rw [if_pos (by lia),if_pos (by lia)]
 exact h
theorem aG {n:Nat}:cv 0 n=(Hz n).map fun i=>D.int (i:Nat):=by simp [cv]
end
section
variable {T:List FD}
def Big (ns:List Int):Prop := ∀ x∈ns, -1000000000000<=x/\x<=1000000000000
end
section
variable {T:List FD}
noncomputable def pU (x:Str) (s:Stmt):FD:=⟨"_law_mixed",s,[x, "_law_k", "_law_once", "_law_twice"],2,(ln s).body⟩
theorem wn {f:Nat} {x:Str} {s:Stmt} (hf:T[f]? = some (pU x s)) {n:Nat} (j : 1<=n):tQ T n f:=by
 intro x k M Q q;refine aq j hf rfl (ρ := [some _,some _,none,none]) rfl ?_;unfold pU ln;walk_at "st";refine ⟨by decide,dk (by decide),ll (by decide),by decide, ?_⟩
 walk_at "st";refine ⟨by decide,dk ?_,by decide, ?_⟩
 ·have h1:=My ((x % 1000000007+7*k+1)*48271) (b := 2147483647) (by decide)
  have h2:=Lp ((x % 1000000007+7*k+1)*48271) (b := 2147483647) (by decide)
  lia
 walk_at "st";refine ⟨ll (by decide),by decide,by decide,by decide, ?_⟩
 exact q _
end
section
open PySem PySem.Spec PyProof.Rows L2.Srt
variable {T:List FD}
noncomputable abbrev K3:=Int×Int×Int
noncomputable abbrev Tm:=K3×Int
noncomputable def k3D (k:K3):D := .tup [.int k.1, .int k.2.1, .int k.2.2]
noncomputable def kcD (t:Tm):D×D:=(k3D t.1, .int t.2)
noncomputable def k3K (k:K3):Ky := .tup [.int k.1, .int k.2.1, .int k.2.2]
def klt (a b:K3):Prop:=ltK (k3K a) (k3K b)=true
theorem iB {a b:K3} (h:k3D a=k3D b):a=b:=by
 obtain ⟨a1,a2,j⟩:=a;obtain ⟨b1,b2,b3⟩:=b;simp [k3D] at h;simp [h]
theorem Bq {a b:K3} (h:k3K a=k3K b):a=b:=by
 obtain ⟨a1,a2,j⟩:=a;obtain ⟨b1,b2,b3⟩:=b;simp [k3K] at h;simp [h]
noncomputable def cf (ts:List Tm) (k:K3):Int:=((ts.filter fun t=>decide (t.1=k)).map (·.2)).sum
theorem fD {k:K3}:cf [] k=0:=rfl
theorem aX {t:Tm} {ts:List Tm} {k:K3}:cf (t::ts) k=(if t.1=k then t.2 else 0)+cf ts k:=by
 unfold cf
 by_cases h:t.1=k
 ·rw [IA (by simpa using h),if_pos h];simp
 ·rw [IB (by simpa using h),if_neg h];simp
theorem dE {a b:List Tm} {k:K3}:cf (a++b) k=cf a k+cf b k:=by
 induction a with
 | nil=>simp [fD]
 | cons t a ih=>rw [NO,aX,aX,ih];lia
theorem rG {a b:List Tm} (h:a.Perm b) {k:K3}:cf a k=cf b k:=by
 induction h with
 | nil=>rfl
 | cons x h ih=>rw [aX,aX,ih]
 | swap x y l=>simp only [aX];lia
 | trans _ _ j q=>rw [j,q]
theorem eB {ts:List Tm} {k:K3} (h:∀ t∈ts,t.1≠k):cf ts k=0:=by
 induction ts with
 | nil=>rfl
 | cons t ts ih=>rw [aX,if_neg (h t (by simp)),ih fun u j=>h u (by simp [j])];rfl
theorem fE {ts:List Tm} (j:(ts.map (·.1)).Nodup) {t:Tm} (q:t∈ts):cf ts t.1=t.2:=by
 induction ts with
 | nil=>simp at q
 | cons u ts ih =>
   simp only [HE,J4] at j;rw [aX]
   rcases Ho.mp q with z | z
   ·subst z;rw [if_pos rfl,eB fun v B e=>j.1 (by rw [<- e];exact HS B)]
    lia
   ·rw [if_neg fun e=>j.1 (by rw [e];exact HS z),ih j.2 z];lia
noncomputable def eO (L:List Tm) (k:K3) (c:Int):List Tm:=if (L.any fun p=>decide (p.1=k))=true then L.map fun p=>if p.1=k then (p.1,p.2+c) else p else L++[(k,c)]
theorem rH {L:List Tm} {k:K3}:dget (L.map kcD) (k3D k)=(L.find? fun p=>decide (p.1=k)).map fun p => .int p.2:=by
 unfold dget
 induction L with
 | nil=>rfl
 | cons t L ih =>
   by_cases h:t.1=k
   ·rw [HE,LP (by simp [kcD,h]),LP (by simpa using h)];rfl
   ·rw [HE,KN (by simp only [decide_eq_true_eq];exact fun e=>h (iB e)),KN (by simpa using h),ih]
theorem wo {L:List Tm} {k:K3}:((L.map kcD).any fun p=>decide (p.1=k3D k))=L.any fun p=>decide (p.1=k):=by
 induction L with
 | nil=>rfl
 | cons t L ih =>
   rw [HE,Jp,Jp,ih];congr 1
   by_cases h:t.1=k
   ·simp [kcD,h]
   ·rw [decide_eq_false h];exact decide_eq_false (fun e=>h (iB e))
theorem Br {L:List Tm} (j:(L.map (·.1)).Nodup) {k:K3} {c:Int}:cJ (L.map kcD) (k3D k) (.int ((((L.find? fun p=>decide (p.1=k)).map (·.2)).getD 0)+c))=(eO L k c).map kcD:=by
 unfold cJ eO;rw [wo]
 split
 ·next h =>
  rw [Ip,Ip];apply IE;intro t q;simp only [Kn]
  by_cases e:t.1=k
  ·rw [if_pos (by rw [<- e];rfl),if_pos e]
   have:L.find? (fun p=>decide (p.1=k))=some t:=by
    clear h
    induction L with
    | nil=>simp at q
    | cons u L ih =>
      simp only [HE,J4] at j
      rcases Ho.mp q with z | z
      ·subst z;rw [LP (by simpa using e)]
      ·rw [KN (by simp;intro e2;exact j.1 (by rw [e2, <- e];exact HS z))]
       exact ih j.2 z
   rw [this];rfl
  ·rw [if_neg (c:=(kcD t).1=k3D k) (fun z=>e (iB z)),if_neg e]
 ·next h =>
  have:L.find? (fun p=>decide (p.1=k))=none:=by
   rw [List.find?_eq_none];intro x hx;simp only [decide_eq_true_eq];intro e;exact h (JA.mpr ⟨x,hx,by simpa using e⟩)
  rw [this];simp [kcD]
theorem wp {L:List Tm} {k:K3} {c:Int}:(eO L k c).map (·.1)=if (L.any fun p=>decide (p.1=k))=true then L.map (·.1) else L.map (·.1)++[k]:=by
 unfold eO
 split
 ·rw [Ip];apply IE;intro t _;simp only [Kn]
  split <;> rfl
 ·simp
theorem tR {L:List Tm} (j:(L.map (·.1)).Nodup) {k:K3} {c:Int}:((eO L k c).map (·.1)).Nodup:=by
 rw [wp]
 split
 ·exact j
 ·next h =>
  refine KY.mpr ⟨j,by simp,fun a z b q e => ?_⟩
  simp at q;subst q;subst e;obtain ⟨t,B,e⟩:=HF.mp z;exact h (JA.mpr ⟨t,B,by simpa using e⟩)
theorem yY {L:List Tm} {k:K3} {c:Int}:(eO L k c).length<=L.length+1:=by
 unfold eO;split <;> simp
theorem Bs {L:List Tm} (j:(L.map (·.1)).Nodup) {k a:K3} {c:Int}:cf (eO L k c) a=cf L a+if k=a then c else 0:=by
 unfold eO
 split
 ·next h =>
  obtain ⟨t,q,e⟩:=JA.mp h;have e:t.1=k:=by simpa using e
  clear h
  induction L with
  | nil=>simp at q
  | cons u L ih =>
    simp only [HE,J4] at j;rw [HE,aX,aX]
    by_cases eu:u.1=k
    ·have rest:(L.map fun p=>if p.1=k then (p.1,p.2+c) else p)=L:=by
      conv=>rhs;rw [<- List.map_id L]
      apply IE;intro p B;rw [if_neg fun z=>j.1 (by rw [eu, <- z];exact HS B)];rfl
     rw [rest,if_pos eu];dsimp only
     by_cases ea:u.1=a
     ·rw [if_pos ea,if_pos ea,if_pos (by rw [<- eu];exact ea)];lia
     ·rw [if_neg ea,if_neg ea,if_neg (by rw [<- eu];exact ea)];lia
    ·rcases Ho.mp q with z | z
     ·exact absurd (by rw [<- z];exact e) eu
     ·rw [ih j.2 z,if_neg eu];lia
 ·rw [dE,aX,fD];simp
noncomputable def aZ (ts:List Tm):List Tm:=ts.foldl (fun L t=>eO L t.1 t.2) []
theorem eV {ts:List Tm} {t:Tm}:aZ (ts++[t])=eO (aZ ts) t.1 t.2:=by simp [aZ]
theorem gf {α:Type} {P:List α -> Prop} (h0:P []) (h1:∀ l x,P l->P (l++[x])) (l:List α):P l:=by
 have:∀ r:List α,P r.reverse:=by
  intro r
  induction r with
  | nil=>exact h0
  | cons x r ih=>rw [List.reverse_cons];exact h1 _ _ ih
 have:=this l.reverse;rw [OI] at this;exact this
theorem gh (ts:List Tm):((aZ ts).map (·.1)).Nodup:=gf (P:=fun ts=>((aZ ts).map (·.1)).Nodup) (by simp [aZ]) (fun l x ih=>by rw [eV];exact tR ih) ts
theorem Bt (ts:List Tm) (k:K3):cf (aZ ts) k=cf ts k:=gf (P:=fun ts=>cf (aZ ts) k=cf ts k) rfl (fun l x ih=>by
 rw [eV,Bs (gh l),ih,dE,aX,fD];lia) ts
theorem pV (ts:List Tm):(aZ ts).length<=ts.length:=gf (P:=fun ts=>(aZ ts).length<=ts.length) (by simp [aZ]) (fun l x ih=>by
 rw [eV];have:=yY (L:=aZ l) (k:=x.1) (c:=x.2);simp;lia) ts
theorem El {ts:List Tm} {k:K3}:Mi.cf (ts.filter fun t => !(t.2==0)) k=Mi.cf ts k:=by
 induction ts with
 | nil=>rfl
 | cons t ts ih =>
   rw [aX]
   by_cases h:t.2=0
   ·rw [IB (by simp [h]),ih,h];split <;> lia
   ·rw [IA (by simp [h]),aX,ih]
theorem Ge.upd {M j:Mem} {d:Addr} {o:O} (g:Ge M j) (hd:M d=none):Ge M (ag j d o):=fun a o' e=>by
 rw [aj (fun z=>by rw [z,hd] at e;cases e)];exact g _ _ e
end
section
open PySem PySem.Spec PyProof.Rows L2.Srt
variable {T:List FD}
theorem gS {M:Mem} {x d:D} {ds:List D} {i:Int} {Q:QD} (h:aw M x=some ds) (e:atI ds i=some d) (q:Q d M):wIx x (.int i) M Q:=by
 cases x with
 | ref a =>
   simp only [aw] at h
   split at h
   ·next e0=>cases h;exact av e0 e q
   ·cases h
 | tup es=>cases h;exact ⟨i,d,rfl,e,q⟩
 | con es=>cases h;exact ⟨i,d,rfl,e,q⟩
 | _=>cases h
end
section
open PySem PySem.Spec PyProof.Rows L2.Srt
variable {T:List FD}
theorem yZ {l:List Nat} {m:Nat} {g:Nat->Nat->Tm}:(l.flatMap fun i=>(Hz m).map (g i)).length=l.length*m:=by
 induction l with
 | nil=>simp
 | cons i l ih=>rw [Kd,D0,ih,Ic,JC];simp;lia
end
section
open PySem PySem.Spec PyProof.Rows L2.Srt
theorem fF {b p:Addr} {M:Mem} (j:Box b M) (q:M p=none):p≠b:=fun z=>by
 obtain ⟨x,y,w,e⟩:=j;rw [<- z,q] at e;cases e
end
section
open PySem PySem.Spec PyProof.Rows L2.Srt
variable {T:List FD}
noncomputable def ck (m p a b c:Nat):Tm:=(((a*p+c:Nat),((a*m+b:Nat):Int),((b*p+c:Nat):Int)),1)
noncomputable def eZ (m p a:Nat):List Tm:=(Hz m).flatMap fun b=>(Hz p).map (ck m p a b)
noncomputable def bP (n m p:Nat):List Tm:=(Hz n).flatMap (eZ m p)
theorem z9 {m p a:Nat}:(eZ m p a).length=m*p:=by unfold eZ;rw [yZ,HQ]
theorem Bu {m p:Nat} {l:List Nat}:(l.flatMap (eZ m p)).length=l.length*(m*p):=by
 induction l with
 | nil=>simp
 | cons i l ih=>rw [Kd,D0,ih,Ic,z9,JC];lia
theorem fG {n m p:Nat} {t:Tm} (h:t∈bP n m p):∃ a b c,a < n/\b < m/\c < p/\t=ck m p a b c:=by
 obtain ⟨a,j,h⟩:=JV.mp h;obtain ⟨b,q,h⟩:=JV.mp h;obtain ⟨c,z,rfl⟩:=HF.mp h;exact ⟨a,b,c,Ia.mp j,Ia.mp q,Ia.mp z,rfl⟩
theorem kC {a b n m:Nat} (j:a < n) (q:b < m):a*m+b < n*m:=by
 have:(a+1)*m<=n*m:=L5 m j;rw [JC] at this;lia
end
section
open PySem PySem.Spec PyProof.Rows L2.Srt
variable {T:List FD}
noncomputable def cZ (L:List Tm) (k:K3) (c:Int):List Tm:=if (L.any fun p=>decide (p.1=k))=true then L.map (fun p=>if p.1=k then (p.1,c) else p) else L++[(k,c)]
theorem jl {L:List Tm} {k:K3} {c:Int}:cJ (L.map kcD) (k3D k) (.int c)=(cZ L k c).map kcD:=by
 unfold cJ cZ;rw [wo]
 split
 ·rw [Ip,Ip];refine IE fun p _ => ?_;simp only [Kn]
  by_cases h:p.1=k
  ·rw [if_pos h,if_pos (show (kcD p).1=k3D k by show k3D p.1=k3D k;rw [h])];rfl
  ·rw [if_neg h,if_neg (show ¬ (kcD p).1=k3D k from fun z=>h (iB z))]
 ·rw [IV];rfl
theorem tS {L:List Tm} (j:(L.map (·.1)).Nodup) {k:K3} {c:Int}:((cZ L k c).map (·.1)).Nodup:=by
 unfold cZ
 split
 ·rw [Ip];have e:L.map ((fun x:Tm=>x.1) ∘ fun p=>if p.1=k then (p.1,c) else p)=L.map (·.1):=IE fun p _=>by
   simp only [Kn];split <;> rfl
  rw [e];exact j
 ·next h =>
  rw [IV,KY];refine ⟨j,by simp,fun a z b q e => ?_⟩
  simp at q;subst e q;obtain ⟨p,B,rfl⟩:=HF.mp z;exact h (JA.mpr ⟨p,B,by simp⟩)
theorem zc {L:List Tm} {k:K3} {c:Int} {t:Tm} (h:t∈cZ L k c):t∈L∨t=(k,c):=by
 unfold cZ at h
 split at h
 ·obtain ⟨p,j,rfl⟩:=HF.mp h
  by_cases e:p.1=k
  ·rw [if_pos e];exact .inr (by rw [e])
  ·rw [if_neg e];exact .inl j
 ·rcases Hv.mp h with h | h
  ·exact .inl h
  ·exact .inr (by simpa using h)
theorem zd {L:List Tm} {k:K3} {c:Int}:(cZ L k c).length<=L.length+1:=by
 unfold cZ;split <;> simp
theorem qI {L:List Tm} (B:(L.map (·.1)).Nodup) {ys:List D} (q:ys.Perm ((L.map kcD).map (·.1))) (hs:lf ys):∃ rs:List Tm,rs.Perm L/\ys=rs.map (fun t=>k3D t.1)/\rs.Pairwise fun a b=>klt a.1 b.1:=by
 have e0:(L.map kcD).map (·.1)=L.map fun t=>k3D t.1:=by rw [Ip];rfl
 rw [e0] at q;obtain ⟨rs,z,p2⟩:=mL (fun t:Tm=>k3D t.1) q rfl;refine ⟨rs,z,p2.symm, ?_⟩;have j:(rs.map (·.1)).Nodup:=(z.map (·.1)).nodup_iff.mpr B;unfold lf at hs;rw [<- p2,Jd] at hs;rw [Iu,Jd] at j;refine (hs.and j).imp ?_;rintro a b ⟨h1,h2⟩;unfold klt
 cases e1:ltK (k3K a.1) (k3K b.1) with
 | true=>rfl
 | false=>exact absurd (Bq (mG _ _ e1 h1)) h2
theorem eP {L:List Tm} (j:(L.map (·.1)).Nodup) {t:Tm} (q:t∈L):dget (L.map kcD) (k3D t.1)=some (.int t.2):=by
 rw [rH];have:L.find? (fun p=>decide (p.1=t.1))=some t:=by
  induction L with
  | nil=>simp at q
  | cons x L ih =>
    simp only [HE,J4] at j
    rcases Ho.mp q with z | z
    ·subst z;simp
    ·have:x.1≠t.1:=fun e=>j.1 (by rw [e];exact HS z)
     rw [KN (by simpa using this)]
     exact ih j.2 z
 rw [this];rfl
theorem ze {L:List Tm} (j:(L.map (·.1)).Nodup):t9 (L.map kcD)=L.map kcD:=by
 have g:∀ (r l:List Tm),(((l++r).map (·.1)).Nodup)->(r.map kcD).foldl (fun a kv=>cJ a kv.1 kv.2) (l.map kcD)=(l++r).map kcD:=by
  intro r
  induction r with
  | nil=>intro l _;simp
  | cons t r ih =>
    intro l h;rw [HE,Li];have e:cJ (l.map kcD) (kcD t).1 (kcD t).2=(l++[t]).map kcD:=by
     show cJ (l.map kcD) (k3D t.1) (.int t.2)=_;rw [jl];unfold cZ;rw [if_neg];intro z;obtain ⟨p,q,e⟩:=JA.mp z;rw [IV,KY] at h;exact h.2.2 _ (HS q) _ (HS (Ir ..)) (of_decide_eq_true e)
    rw [e,ih (l++[t]) (by rw [Hn];exact h)]
    rw [Hn];rfl
 have:=g L [] (by simpa using j)
 simpa [t9] using this
theorem gi (k:K3):cr (k3D k)=true:=rfl
end
section
open PySem PySem.Spec PyProof.Rows L2.Srt
variable {T:List FD}
noncomputable def idx (l:List Int):List (Int×Int):=l.mapIdx fun i x=>((i:Nat),x)
noncomputable def nz (l:List Int):List (Int×Int):=(idx l).filter fun q => !(q.2==0)
noncomputable def pD (q:Int×Int):D := .tup [.int q.1, .int q.2]
theorem rJ {l:List Int}:(idx l).length=l.length:=by simp [idx]
theorem pW {l:List Int}:(nz l).length<=l.length:=by
 unfold nz;exact Iv (IM _ _) (by rw [rJ];exact Hr _)
theorem zf {l:List Int}:fU (l.map .int)=(idx l).map pD:=by
 unfold fU idx;apply LJ;intro j;simp only [OH,HM]
 cases l[j]? <;> rfl
noncomputable def gT (xp xn:Str) (s:Stmt):FD:=⟨"_law_nonzero",s,[xp],1,
 (.cons (.ret (.comp [none,none] ["_law_place",xn] (.last (.enum (.var 0)) (.tup (.cons (.name 0) (.cons (.name 1) .nil))) (.cons (.cmp .ne (.var 1) (.int 0)) .nil) (.tup (.cons (.var 0) (.cons (.var 1) .nil))))))
 .nil)⟩
theorem tT {f:Nat} {xp xn:Str} {s:Stmt} (hf:T[f]? = some (gT xp xn s)) {n:Nat} (G : 1<=n) {l:List Int} (J:l.length<=10000000) {M:Mem} {Q:QD} (q:∀ p,M p=none->Q (.ref p) (ag M p (.lst ((nz l).map pD)))):phi T n f [.tup (l.map .int)] M Q:=by
 refine aq (by lia) hf rfl (ρ := [some _]) rfl ?_
 unfold gT;walk_at "st";rw [zf];refine ay (f:=pD) (ys:=idx l) (I:=fun r ρ M' acc=>(∃ o0 z, ρ = [o0,z])/\M'=M/\acc=(r.filter fun q => !(q.2==0)).map pD) rfl ⟨⟨_,_,rfl⟩,rfl,rfl⟩ (fun _ _ _ _ _=>by first | rfl | trivial) ?_ ?_
 ·rintro l' x r ρ M1 acc e ⟨⟨o0,z,rfl⟩,rfl,rfl⟩;refine ⟨_,rfl,fun N' j => ?_⟩;have B:=al e;rw [rJ] at B;have F:(l'.filter fun q => !(q.2==0)).length<=l'.length:=IM _ _;walk_at "wp"
  by_cases hz:x.2=0
  ·rw [if_neg (by simp [hz])]
   refine j _ _ _ ⟨⟨_,_,rfl⟩,rfl, ?_⟩;rw [JY,IB (by simp [hz])];simp
  ·rw [if_pos (by simp [hz])]
   refine ⟨by rw [tv];lia,by rw [q7,tv];lia,j _ _ _ ⟨⟨_,_,rfl⟩,rfl, ?_⟩⟩
   rw [JY,IA (by simp [hz])];simp [pD]
 ·rintro ρ M1 acc ⟨⟨o0,z,rfl⟩,rfl,rfl⟩ p hp;exact q p hp
noncomputable def ca (i a j b:Int) (zs:List (Int×Int)):List Tm:=zs.map fun z=>((z.1,i,j),a*b*z.2)
noncomputable def cD (i a:Int) (ys zs:List (Int×Int)):List Tm:=ys.flatMap fun y=>ca i a y.1 y.2 zs
noncomputable def de (xs ys zs:List (Int×Int)):List Tm:=xs.flatMap fun x=>cD x.1 x.2 ys zs
noncomputable def fb (p:Pr):List Tm:=de (nz p.1) (nz p.2.1) (nz p.2.2)
noncomputable def bj (ps:List Pr):List Tm:=ps.flatMap fb
theorem pX {i a j b:Int} {zs:List (Int×Int)}:(ca i a j b zs).length=zs.length:=by simp [ca]
theorem pY {i a:Int} {ys zs:List (Int×Int)}:(cD i a ys zs).length=ys.length*zs.length:=by
 unfold cD
 induction ys with
 | nil=>simp
 | cons y ys ih=>rw [Kd,D0,ih,pX,Ic,JC];lia
theorem jm {xs ys zs:List (Int×Int)}:(de xs ys zs).length=xs.length*(ys.length*zs.length):=by
 unfold de
 induction xs with
 | nil=>simp
 | cons y ys ih=>rw [Kd,D0,ih,pY,Ic,JC];lia
noncomputable def pZ (xs:Str) (s:Stmt) (fz:Nat):FD:=⟨"_law_sums",s,[xs, "_law_found", "_law_l", "_law_r", "_law_o", "_law_rights", "_law_outs", "_law_i", "_law_a", "_law_j", "_law_b", "_law_k", "_law_c"],1,
 (.cons (.asg (.name 1) (.dnew true))
 (.cons (.for (.tup (.cons (.name 2) (.cons (.name 3) (.cons (.name 4) .nil)))) (.seq (.ix (.var 0) (.int 3))) (.cons (.asg (.name 5) (.call fz (.cons (.var 3) .nil)))
 (.cons (.asg (.name 6) (.call fz (.cons (.var 4) .nil)))
 (.cons (.for (.tup (.cons (.name 7) (.cons (.name 8) .nil))) (.seq (.call fz (.cons (.var 2) .nil))) (.cons (.for (.tup (.cons (.name 9) (.cons (.name 10) .nil))) (.seq (.var 5)) (.cons (.for (.tup (.cons (.name 11) (.cons (.name 12) .nil))) (.seq (.var 6)) (.cons (.put (.var 1) (.tup (.cons (.var 11) (.cons (.var 7) (.cons (.var 9) .nil)))) (.bin .add (.dget (.var 1) (.tup (.cons (.var 11) (.cons (.var 7) (.cons (.var 9) .nil)))) (.int 0)) (.bin .mul (.bin .mul (.var 8) (.var 10)) (.var 12))))
 .nil))
 .nil))
 .nil))
 .nil))))
 (.cons (.frz 1 (.ret (.blt .dict (.cons (.comp [none,(some 1)] ["_law_place", "_law_found"] (.last (.keys (.var 1)) (.name 0) (.cons (.cmp .ne (.ix (.var 1) (.var 0)) (.int 0)) .nil) (.tup (.cons (.var 0) (.cons (.ix (.var 1) (.var 0)) .nil))))) .nil))))
 .nil)))⟩
def Dt (T:List FD) (n f:Nat):Prop := ∀ {l:List Int} {M:Mem} {Q:QD},l.length<=10000000->(∀ p,M p=none->Q (.ref p) (ag M p (.lst ((nz l).map pD))))->phi T n f [.tup (l.map .int)] M Q
structure zg (p:Pr):Prop where
 b1:Big p.1
 b2:Big p.2.1
 b3:Big p.2.2
 l1:p.1.length<=100
 l2:p.2.1.length<=100
 l3:p.2.2.length<=100
structure ny (ps:List Pr) (L:List Tm):Prop where
 nd:(L.map (·.1)).Nodup
 nz:∀ t∈L,t.2≠0
 cf:∀ k,cf L k=cf (bj ps) k
def Od (d:Addr) (M M':Mem):Prop := ∀ a,a≠d->M' a=M a
theorem Od.refl {d:Addr} {M:Mem}:Od d M M:=fun _ _=>rfl
theorem Od.trans {d:Addr} {M M' M'':Mem} (h:Od d M M') (g:Od d M' M''):Od d M M'':=fun a n=>(g a n).trans (h a n)
theorem Od.upd {d:Addr} {M M':Mem} {o:O} (h:Od d M M'):Od d M (ag M' d o):=fun a n=>(aj n).trans (h a n)
noncomputable def A3:MSs := .cons (.put (.var 1) (.tup (.cons (.var 11) (.cons (.var 7) (.cons (.var 9) .nil)))) (.bin .add (.dget (.var 1) (.tup (.cons (.var 11) (.cons (.var 7) (.cons (.var 9) .nil)))) (.int 0)) (.bin .mul (.bin .mul (.var 8) (.var 10)) (.var 12)))) .nil
noncomputable def tU:MSs := .cons (.for (.tup (.cons (.name 11) (.cons (.name 12) .nil))) (.seq (.var 6)) A3) .nil
noncomputable def tV:MSs := .cons (.for (.tup (.cons (.name 9) (.cons (.name 10) .nil))) (.seq (.var 5)) tU) .nil
noncomputable abbrev bd (x:Int):Prop := -1000000000000<=x/\x<=1000000000000
theorem Em {Φ:Phi} {v0 v2 O v4 U B G:Option D} {d po:Addr} {i a j b:Int} {zs:List (Int×Int)} {pre:List Tm} {M:Mem} {E:bM} (J:M po=some (.lst (zs.map pD))) (Y:po≠d) (hd:M d=some (.dct true ((aZ pre).map kcD))) (hl:pre.length+zs.length<=10000000) (ha:bd a) (hb:bd b)  (hc:∀ z∈zs,bd z.2)
 (q:∀ M' B G,Od d M M'->M' d=some (.dct true ((aZ (pre++ca i a j b zs)).map kcD))->E.nx [v0,some (.ref d),v2,O,v4,U,some (.ref po),some (.int i),some (.int a),some (.int j),some (.int b),B,G] M') :
 wSs Φ tU E [v0,some (.ref d),v2,O,v4,U,some (.ref po),some (.int i),some (.int a),some (.int j),some (.int b),B,G] M:=by
 unfold tU;walk_at "st";refine ⟨_,ad J, ?_⟩;refine aP (f:=pD) (ys:=zs) (I:=fun l ρ M' => ∃ B G, ρ = [v0,some (.ref d),v2,O,v4,U,some (.ref po),some (.int i),some (.int a),some (.int j),some (.int b),B,G]/\Od d M M'/\M' d=some (.dct true ((aZ (pre++ca i a j b l)).map kcD))) rfl ⟨_,_,rfl,Od.refl,by simpa [ca] using hd⟩ (fun l ρ M' ⟨_,_,_,g,_⟩=>ad ((g po Y).trans J)) ?_ ?_
 ·rintro l z r ρ M1 e ⟨B,G,rfl,g1,L⟩;refine ⟨_,rfl,fun F hF => ?_⟩;have F5:=al e;have hz:=hc z (by rw [e];simp)
  have Z:=pV (pre++ca i a j b l);rw [D0,pX] at Z;unfold A3;rw [dj];walk_at "wp";refine ⟨⟨_,_,L⟩,by rw [tv];lia,_,_,L,rfl,dk (by lia),ll (by lia), ?_⟩
  have ek:D.tup [D.int z.1,D.int i,D.int j]=k3D (z.1,i,j):=rfl;rw [ek,rH];have eg:((Option.map (fun p:Tm=>D.int p.2) ((aZ (pre++ca i a j b l)).find? fun p=>decide (p.1=(z.1,i,j)))).getD (.int 0)) = .int (((((aZ (pre++ca i a j b l)).find? fun p=>decide (p.1=(z.1,i,j))).map (·.2)).getD 0)):=by
   cases (aZ (pre++ca i a j b l)).find? fun p=>decide (p.1=(z.1,i,j)) <;> rfl
  rw [eg];walk_at "wp";refine ⟨by rw [tv];lia,ji L rfl (by rw [q7,tv];lia) ?_⟩
  rw [Br (gh _)];refine hF _ _ ⟨_,_,rfl,g1.upd, ?_⟩;rw [aa,show ca i a j b (l++[z])=ca i a j b l++[((z.1,i,j),a*b*z.2)] by simp [ca], <- Hn,eV]
 ·rintro ρ M1 ⟨B,G,rfl,g1,L⟩;dsimp only;walk_at "wp";exact q _ _ _ g1 L
theorem Eo {Φ:Phi} {v0 v2 U v4 J G j B:Option D} {d pr po:Addr} {i a:Int} {ys zs:List (Int×Int)} {pre:List Tm} {M:Mem} {E:bM} (L:M pr=some (.lst (ys.map pD))) (Y:pr≠d) (Z:M po=some (.lst (zs.map pD))) (O:po≠d) (hd:M d=some (.dct true ((aZ pre).map kcD))) (hl:pre.length+ys.length*zs.length<=10000000) (ha:bd a) (hb:∀ z∈ys,bd z.2) (hc:∀ z∈zs,bd z.2)
 (q:∀ M' J G j B,Od d M M'->M' d=some (.dct true ((aZ (pre++cD i a ys zs)).map kcD))->E.nx [v0,some (.ref d),v2,U,v4,some (.ref pr),some (.ref po),some (.int i),some (.int a),J,G,j,B] M') :
 wSs Φ tV E [v0,some (.ref d),v2,U,v4,some (.ref pr),some (.ref po),some (.int i),some (.int a),J,G,j,B] M:=by
 unfold tV;walk_at "st";refine ⟨_,ad L, ?_⟩;refine aP (f:=pD) (ys:=ys) (I:=fun l ρ M' => ∃ J G j B, ρ = [v0,some (.ref d),v2,U,v4,some (.ref pr),some (.ref po),some (.int i),some (.int a),J,G,j,B]/\Od d M M'/\M' d=some (.dct true ((aZ (pre++cD i a l zs)).map kcD))) rfl ⟨_,_,_,_,rfl,Od.refl,by simpa [cD] using hd⟩ (fun l ρ M' ⟨_,_,_,_,_,g,_⟩=>ad ((g pr Y).trans L)) ?_ ?_
 ·rintro l y r ρ M1 e ⟨J,G,j,B,rfl,g1,hM⟩;refine ⟨_,rfl,fun F hF => ?_⟩;have F5:=al e;have hy:=hb y (by rw [e];simp)
  have hm:(l.length+1)*zs.length<=ys.length*zs.length:=L5 _ F5;rw [JC] at hm;refine Em ((g1 po O).trans Z) O hM (by rw [D0,pY];lia) ha hy hc fun M2 j B g2 h2=>hF _ _ ⟨_,_,_,_,rfl,g1.trans g2, ?_⟩
  rw [h2,show cD i a (l++[y]) zs=cD i a l zs++ca i a y.1 y.2 zs by simp [cD],Hn]
 ·rintro ρ M1 ⟨J,G,j,B,rfl,g1,hM⟩;dsimp only;walk_at "wp";exact q _ _ _ _ _ g1 hM
theorem Ep {Φ:Phi} {v0 v2 Z v4:Option D} {d pr po pl:Addr} {xs ys zs:List (Int×Int)} {pre:List Tm} {M:Mem} {E:bM} {L O J j B G:Option D} (F5:M pl=some (.lst (xs.map pD))) (F6:pl≠d) (F7:M pr=some (.lst (ys.map pD))) (U:pr≠d) (F8:M po=some (.lst (zs.map pD))) (Y:po≠d) (hd:M d=some (.dct true ((aZ pre).map kcD))) (hl:pre.length+xs.length*(ys.length*zs.length)<=10000000) (ha:∀ z∈xs,bd z.2) (hb:∀ z∈ys,bd z.2) (hc:∀ z∈zs,bd z.2)
 (q:∀ M' L O J j B G,Od d M M'->M' d=some (.dct true ((aZ (pre++de xs ys zs)).map kcD))->E.nx [v0,some (.ref d),v2,Z,v4,some (.ref pr),some (.ref po),L,O,J,j,B,G] M') :
 bU (kY (bX (bn 7) (bX (bn 8) fT))) (wSs Φ tV) (fun M=>aw M (.ref pl)=some (xs.map pD)) E (xs.map pD) [v0,some (.ref d),v2,Z,v4,some (.ref pr),some (.ref po),L,O,J,j,B,G] M:=by
 refine aP (f:=pD) (ys:=xs) (I:=fun l ρ M' => ∃ L O J j B G, ρ = [v0,some (.ref d),v2,Z,v4,some (.ref pr),some (.ref po),L,O,J,j,B,G]/\Od d M M'/\M' d=some (.dct true ((aZ (pre++de l ys zs)).map kcD))) rfl ⟨_,_,_,_,_,_,rfl,Od.refl,by simpa [de] using hd⟩ (fun l ρ M' ⟨_,_,_,_,_,_,_,g,_⟩=>ad ((g pl F6).trans F5)) ?_ ?_
 ·rintro l x r ρ M1 e ⟨L,O,J,j,B,G,rfl,g1,hM⟩;refine ⟨_,rfl,fun F hF => ?_⟩;have F9:=al e;have hx:=ha x (by rw [e];simp)
  have hm:(l.length+1)*(ys.length*zs.length)<=xs.length*(ys.length*zs.length):=L5 _ F9;rw [JC] at hm;refine Eo ((g1 pr U).trans F7) U ((g1 po Y).trans F8) Y hM (by rw [D0,jm];lia) hx hb hc fun M2 J j B G g2 h2=>hF _ _ ⟨_,_,_,_,_,_,rfl,g1.trans g2, ?_⟩
  rw [h2,show de (l++[x]) ys zs=de l ys zs++cD x.1 x.2 ys zs by simp [de],Hn]
 ·rintro ρ M1 ⟨L,O,J,j,B,G,rfl,g1,hM⟩;exact q _ _ _ _ _ _ _ g1 hM
theorem q0 {l:List Int} (h:Big l):∀ z∈nz l,bd z.2:=fun z j=>by
 unfold nz at j;have j:=(K5.mp j).1;unfold idx at j;obtain ⟨i,hi,e⟩:=List.mem_mapIdx.mp j;rw [<- e];exact h _ (Mg hi)
theorem wq {ps:List Pr} {p:Pr}:bj (ps++[p])=bj ps++fb p:=by simp [bj]
theorem Bv {f fz:Nat} {xs:Str} {s:Stmt} (hf:T[f]? = some (pZ xs s fz)) {n:Nat} (F5:Dt T (n - 1) fz) (hn : 1<=n) {x0 x1 x2:D} {p:Addr} {ps:List Pr} {M:Mem} {Q:QD} (hp:M p=some (.lst (ps.map prD))) (hl:(bj ps).length<=10000000) (hF:∀ p∈ps,zg p)
 (q:∀ (L:List Tm) d M',ny ps L->L.length<=10000000->Ge M M'->M d=none->M' d=some (.dct true (L.map kcD))->Q (.ref d) M'):phi T n f [.tup [x0,x1,x2, .ref p]] M Q:=by
 refine aq (by lia) hf rfl (ρ := [some _,none,none,none,none,none,none,none,none,none,none,none,none]) rfl ?_
 unfold pZ;walk_at "st";intro d hd;have g0:=Ge.new (o := .dct true []) hd;have d0:=aa (M:=M) (a:=d) (o := .dct true []);generalize ag M d (.dct true [])=M0 at g0 d0 ⊢;walk_at "st";refine ⟨_,rfl,_,ad (g0 _ _ hp), ?_⟩;have Fi:p≠d:=fun z=>by rw [z,hd] at hp;cases hp
 refine aP (f:=prD) (ys:=ps) (I:=fun l ρ M' => ∃ o2 o3 o4 o5 o6 o7 o8 o9 B G J, ρ = [some (.tup [x0,x1,x2, .ref p]),some (.ref d),o2,o3,o4,o5,o6,o7,o8,o9,B,G,J]/\Ge M M'/\M' d=some (.dct true ((aZ (bj l)).map kcD))) rfl ⟨_,_,_,_,_,_,_,_,_,_,_,rfl,g0,d0⟩ (fun l ρ M' ⟨_,_,_,_,_,_,_,_,_,_,_,_,g,_⟩=>ad (g _ _ hp)) ?_ ?_
 ·rintro l x r ρ M1 e ⟨o2,o3,o4,o5,o6,o7,o8,o9,B,G,J,rfl,g1,j⟩;refine ⟨_,rfl,fun F Fa => ?_⟩;have hx:=hF x (by rw [e];simp)
  have Fb:(bj l).length+(fb x).length<=10000000:=by
   have:bj ps=bj l++fb x++bj r:=by rw [e];simp [bj]
   rw [this,D0,D0] at hl;lia
  walk_at "st";refine F5 (by have:=hx.l2;lia) fun pr O => ?_
  have Fc:pr≠d:=fun z=>by rw [z,j] at O;cases O
  have gr:=Ge.new (o := .lst ((nz x.2.1).map pD)) O;have er:=aa (M:=M1) (a:=pr) (o := .lst ((nz x.2.1).map pD));have j:=gr _ _ j;have g2:=g1.trans gr;generalize ag M1 pr (.lst ((nz x.2.1).map pD))=M2 at er j g2 ⊢;clear g1 gr O;walk_at "st";refine F5 (by have:=hx.l3;lia) fun po U => ?_
  have Fd:po≠d:=fun z=>by rw [z,j] at U;cases U
  have go:=Ge.new (o := .lst ((nz x.2.2).map pD)) U;have eo:=aa (M:=M2) (a:=po) (o := .lst ((nz x.2.2).map pD));have j:=go _ _ j;have er:=go _ _ er;have g3:=g2.trans go;generalize ag M2 po (.lst ((nz x.2.2).map pD))=M3 at er eo j g3 ⊢;clear g2 go U;walk_at "st";refine F5 (by have:=hx.l1;lia) fun pl Y => ?_
  have Fe:pl≠d:=fun z=>by rw [z,j] at Y;cases Y
  have gl:=Ge.new (o := .lst ((nz x.1).map pD)) Y;have el:=aa (M:=M3) (a:=pl) (o := .lst ((nz x.1).map pD));have j:=gl _ _ j;have er:=gl _ _ er;have eo:=gl _ _ eo;have g4:=g3.trans gl;generalize ag M3 pl (.lst ((nz x.1).map pD))=M4 at er eo el j g4 ⊢;clear g3 gl Y;refine ⟨_,ad el, ?_⟩;refine Ep el Fe er Fc eo Fd j (by have:=jm (xs:=nz x.1) (ys:=nz x.2.1) (zs:=nz x.2.2);unfold fb at Fb;lia) (q0 hx.b1) (q0 hx.b2) (q0 hx.b3) fun M5 o7 o8 o9 B G J g5 h5 => ?_
  walk_at "wp";refine Fa _ _ ⟨_,_,_,_,_,_,_,_,_,_,_,rfl,fun a o ea => ?_,by rw [h5,wq];rfl⟩
  by_cases had:a=d
  ·subst had;rw [hd] at ea;cases ea
  ·rw [g5 a had];exact g4 _ _ ea
 ·rintro ρ M1 ⟨o2,o3,o4,o5,o6,o7,o8,o9,B,G,J,rfl,g1,j⟩;dsimp only;walk_at "st";refine rF rfl j ?_;have fd:=aa (M:=M1) (a:=d) (o := .fdc ((aZ (bj ps)).map kcD));have g2:Ge M (ag M1 d (.fdc ((aZ (bj ps)).map kcD))):=g1.upd hd;have Ff:=Iv (pV (bj ps)) hl;have Z:=gh (bj ps);have F7:=Bt (bj ps);generalize ag M1 d (.fdc ((aZ (bj ps)).map kcD))=M2 at fd g2 ⊢;generalize aZ (bj ps)=L at fd Ff Z F7;walk_at "wp";refine ⟨_,fd, ?_⟩;refine ay (f:=fun t:Tm=>k3D t.1) (ys:=L) (I:=fun l ρ M' acc=>(∃ o0, ρ = [o0,some (.ref d)])/\M'=M2/\acc=(l.filter fun t => !(t.2==0)).map fun t => .tup [k3D t.1, .int t.2]) (by rw [Ip];rfl) ⟨⟨_,rfl⟩,rfl,rfl⟩ (fun _ _ _ _ _=>trivial) ?_ ?_
  ·rintro l t r ρ M3 acc e ⟨⟨o0,rfl⟩,rfl,rfl⟩;refine ⟨_,rfl,fun N' F8 => ?_⟩;have Fj:=al e;have ht:t∈L:=by rw [e];simp
   have Fg:(l.filter fun t => !(t.2==0)).length<=l.length:=IM _ _;walk_at "wp";refine pO fd (gi _) (eP Z ht) ?_;walk_at "wp"
   by_cases hz:t.2=0
   ·rw [if_neg (by simp [hz])]
    refine F8 _ _ _ ⟨⟨_,rfl⟩,rfl, ?_⟩;rw [JY,IB (by simp [hz])];simp
   ·rw [if_pos (by simp [hz])]
    refine pO fd (gi _) (eP Z ht) ?_;refine ⟨by rw [tv];lia,by rw [q7,tv];lia,F8 _ _ _ ⟨⟨_,rfl⟩,rfl, ?_⟩⟩
    rw [JY,IA (by simp [hz])];simp
  ·rintro ρ M3 acc ⟨⟨o0,rfl⟩,rfl,rfl⟩ p2 hp2;have Fg:(L.filter fun t => !(t.2==0)).length<=L.length:=IM _ _;have F9:((L.filter fun t => !(t.2==0)).map (·.1)).Nodup:=Z.sublist (List.Sublist.map _ List.filter_sublist);refine ⟨p2,(L.filter fun t => !(t.2==0)).map kcD,rfl,by rw [aa,Ip];rfl,fun kv Fh => ?_,by rw [q7,tv];lia,fun pf F6 => ?_⟩
   ·obtain ⟨t,_,rfl⟩:=HF.mp Fh;exact gi _
   ·rw [ze F9];have g3:=g2.trans (Ge.new (o := .lst ((L.filter fun t => !(t.2==0)).map fun t=>D.tup [k3D t.1, .int t.2])) hp2);refine q (L.filter fun t => !(t.2==0)) pf _ ⟨F9,fun t ht => ?_,fun k=>by rw [El];exact F7 k⟩ (by lia) (g3.trans (Ge.new F6)) ?_ aa
    ·have:=(K5.mp ht).2;simpa using this
    ·cases hz:M pf with
     | none=>rfl
     | some o=>rw [g3 _ _ hz] at F6;cases F6
end
section
open PySem PySem.Spec PyProof.Rows L2.Srt
noncomputable def S1 (zs:List (Int×Int)) (k:Int):Int:=(zs.map fun z=>if z.1=k then z.2 else 0).sum
theorem eD {z:Int×Int} {zs:List (Int×Int)} {k:Int}:S1 (z::zs) k=(if z.1=k then z.2 else 0)+S1 zs k:=by simp [S1]
theorem rK {α:Type} {F : α -> List Tm} {k:K3}:∀ l:List α,cf (l.flatMap F) k=(l.map fun x=>cf (F x) k).sum
 | [] => rfl
 | x::l=>by rw [Kd,dE,rK l];simp
theorem rL {i a j b k i' j':Int}:∀ {zs:List (Int×Int)},cf (ca i a j b zs) (k,i',j')=if i=i'/\j=j' then a*b*S1 zs k else 0
 | [] => by simp [ca,fD,S1]
 | z::zs=>by
   rw [show ca i a j b (z::zs)=((z.1,i,j),a*b*z.2)::ca i a j b zs from rfl,aX,rL,eD]
   by_cases h:i=i'/\j=j'
   ·obtain ⟨rfl,rfl⟩:=h
    by_cases q:z.1=k
    ·subst q;simp [OQ]
    ·have : ¬ ((z.1,i,j)=(k,i,j)):=fun e=>q (congrArg (·.1) e);rw [if_neg this,if_pos ⟨rfl,rfl⟩,if_pos ⟨rfl,rfl⟩,if_neg q];simp
   ·have : ¬ ((z.1,i,j)=(k,i',j')):=fun e=>h ⟨congrArg (·.2.1) e,congrArg (·.2.2) e⟩;rw [if_neg this,if_neg h,if_neg h];rfl
theorem rM {i a k i' j':Int} {zs:List (Int×Int)}:∀ {ys:List (Int×Int)},cf (cD i a ys zs) (k,i',j')=if i=i' then a*S1 ys j'*S1 zs k else 0
 | [] => by simp [cD,fD,S1]
 | y::ys=>by
   rw [show cD i a (y::ys) zs=ca i a y.1 y.2 zs++cD i a ys zs from by simp [cD],dE,rM,rL,eD]
   by_cases h:i=i'
   ·subst h
    by_cases j:y.1=j'
    ·subst j;simp [OQ,Nt]
    ·rw [if_neg (fun e=>j e.2),if_pos rfl,if_pos rfl,if_neg j];simp
   ·rw [if_neg (fun e=>h e.1),if_neg h,if_neg h];rfl
theorem rN {k i' j':Int} {ys zs:List (Int×Int)}:∀ {xs:List (Int×Int)},cf (de xs ys zs) (k,i',j')=S1 xs i'*S1 ys j'*S1 zs k
 | [] => by simp [de,fD,S1]
 | x::xs=>by
   rw [show de (x::xs) ys zs=cD x.1 x.2 ys zs++de xs ys zs from by simp [de],dE,rN,rM,eD]
   by_cases h:x.1=i'
   ·subst h;simp [Nt]
   ·rw [if_neg h,if_neg h];simp
noncomputable def gz (l:List Int) (i:Int):Int:=if i < 0 then 0 else l.getD i.toNat 0
theorem wt {l:List Int} {i:Int} (h:i < 0):gz l i=0:=if_pos h
theorem gU {i:Int}:gz [] i=0:=by unfold gz;split <;> simp
theorem ci {x:Int} {l:List Int} {i:Int}:gz (x::l) i=if i=0 then x else gz l (i - 1):=by
 unfold gz
 by_cases h:i < 0
 ·rw [if_pos h,if_neg (by lia),if_pos (by lia)]
 ·rw [if_neg h]
  by_cases h0:i=0
  ·subst h0;simp
  ·rw [if_neg h0,if_neg (by lia)]
   obtain ⟨n,rfl⟩:∃ n:Nat,i=((n+1:Nat):Int):=⟨(i - 1).toNat,by lia⟩
   rw [show (((n+1:Nat):Int) - 1).toNat=n by lia,HX]
   simp
theorem wu {a b:List Int}:∀ {i:Int},gz (a++b) i=if i < a.length then gz a i else gz b (i - a.length):=by
 induction a with
 | nil =>
   intro i
   by_cases h:i < 0
   ·rw [if_pos (by simpa using h),Ms,wt h,wt h]
   ·rw [if_neg (by simpa using h)];simp
 | cons x a ih =>
   intro i;rw [NO,ci,ci,ih,Ic]
   by_cases h0:i=0
   ·subst h0;rw [if_pos rfl,if_pos rfl,if_pos (by lia)]
   ·rw [if_neg h0,if_neg h0]
    by_cases h:i < ((a.length+1:Nat):Int)
    ·rw [if_pos (by lia),if_pos h]
    ·rw [if_neg (by lia),if_neg h]
     congr 1;lia
theorem wv {x:Int}:∀ {b:List Int} {i:Int},gz (b.map (x * ·)) i=x*gz b i
 | [],i=>by rw [KD,gU];simp
 | y::b,i=>by rw [HE,ci,ci,wv];split <;> rfl
theorem fH {l:List Int} {i:Int} (h:gz l i≠0) : 0<=i/\i < l.length:=by
 unfold gz at h
 by_cases hi:i < 0
 ·rw [if_pos hi] at h;exact absurd rfl h
 ·rw [if_neg hi] at h;refine ⟨by lia, ?_⟩
  by_cases hl:i.toNat < l.length
  ·lia
  ·rw [Ih,Ol (by lia)] at h;exact absurd rfl h
theorem ww {a b:List (Int×Int)} {k:Int}:S1 (a++b) k=S1 a k+S1 b k:=by simp [S1]
theorem kD {k:Int}:∀ zs:List (Int×Int),S1 (zs.filter fun q => !(q.2==0)) k=S1 zs k
 | [] => rfl
 | z::zs=>by
   rw [eD]
   by_cases h:z.2=0
   ·rw [IB (by simp [h]),kD zs,h];simp
   ·rw [IA (by simp [h]),eD,kD zs]
theorem q8 (l:List Int) (k:Int):S1 (idx l) k=gz l k:=gf (P:=fun l=>S1 (idx l) k=gz l k) (by rw [gU];rfl) (fun l x ih=>by
 have e:idx (l++[x])=idx l++[(((l.length:Nat):Int),x)]:=by simp [idx,List.mapIdx_append]
 rw [e,ww,ih,wu,eD];simp only [S1,KD,List.sum_nil]
 by_cases h:k < l.length
 ·rw [if_pos h,if_neg (by lia)];lia
 ·rw [if_neg h,ci,gU];have z:gz l k=0:=by
   cases Decidable.em (gz l k=0) with
   | inl h=>exact h
   | inr h'=>exact absurd (fH h').2 h
  rw [z]
  by_cases e:(l.length:Int)=k
  ·rw [if_pos e,if_pos (by lia)];lia
  ·rw [if_neg e,if_neg (by lia)];rfl) l
theorem Bw {p:Pr} {k i j:Int}:cf (fb p) (k,i,j)=gz p.1 i*gz p.2.1 j*gz p.2.2 k:=by
 unfold fb;rw [rN];unfold nz;rw [kD,kD,kD,q8,q8,q8]
noncomputable def Tn (ps:List Pr) (k i j:Int):Int:=(ps.map fun p=>gz p.1 i*gz p.2.1 j*gz p.2.2 k).sum
theorem lq {ps:List Pr} {k i j:Int}:cf (bj ps) (k,i,j)=Tn ps k i j:=by
 unfold bj Tn;rw [rK];congr 1;exact IE fun p _=>Bw
theorem gW {a b:List Pr} {k i j:Int}:Tn (a++b) k i j=Tn a k i j+Tn b k i j:=by simp [Tn]
theorem fI {p:Pr} {a:List Pr} {k i j:Int}:Tn (p::a) k i j=gz p.1 i*gz p.2.1 j*gz p.2.2 k+Tn a k i j:=by simp [Tn]
theorem q9 {L0 L1 L2:Nat} {k i j:Int}:∀ {us:List Pr},(∀ u∈us,u.1.length=L0/\u.2.1.length=L1/\u.2.2.length=L2)->Tn us k i j≠0->(0<=k/\k < L2)/\(0<=i/\i < L0)/\(0<=j/\j < L1)
 | [],_,h=>absurd (by simp [Tn]) h
 | u::us,q,h=>by
   obtain ⟨e0,e1,e2⟩:=q u (by simp)
   rw [fI] at h
   by_cases z:gz u.1 i*gz u.2.1 j*gz u.2.2 k=0
   ·rw [z,Int.zero_add] at h;exact q9 (fun v B=>q v (by simp [B])) h
   ·have a1:gz u.1 i≠0:=fun e=>z (by rw [e];simp)
    have a2:gz u.2.1 j≠0:=fun e=>z (by rw [e];simp)
    have F:gz u.2.2 k≠0:=fun e=>z (by rw [e];simp)
    have:=fH a1;have:=fH a2;have:=fH F;lia
theorem nA {l:List Tm} (g:(l.map (·.1)).Nodup):l.Nodup:=by
 rw [Iu] at g ⊢;rw [Jd] at g;exact g.imp fun {a b} hab e=>hab (by rw [e])
theorem wx {a:List Tm} (q:(a.map (·.1)).Nodup) {k:K3} (h:cf a k≠0):(k,cf a k)∈a:=by
 by_cases e:∃ r∈a,r.1=k
 ·obtain ⟨r,j,rfl⟩:=e;rw [fE q j];exact j
 ·exact absurd (eB fun r j z=>e ⟨r,j,z⟩) h
theorem rO {a b:List Tm} (q:(a.map (·.1)).Nodup) (z:(b.map (·.1)).Nodup) (za:∀ t∈a,t.2≠0) (zb:∀ t∈b,t.2≠0) (h:∀ k,cf a k=cf b k):a.Perm b:=by
 refine (Nh (nA q) (nA z)).mpr fun t=>⟨fun j => ?_,fun j => ?_⟩
 ·have e:=fE q j;have:=wx z (k:=t.1) (by rw [<- h,e];exact za t j)
  rwa [<- h,e] at this
 ·have e:=fE z j;have:=wx q (k:=t.1) (by rw [h,e];exact zb t j)
  rwa [h,e] at this
theorem qa {a b:List Tm} (q:(b.map (·.1)).Nodup) (h:a.Perm b):eqD (a.map kcD) (b.map kcD)=true:=by
 unfold eqD;rw [hH];refine ⟨by simp [h.length_eq], ?_⟩
 rw [L9];intro kv j;obtain ⟨t,z,rfl⟩:=HF.mp j;exact decide_eq_true (eP q (h.mem_iff.mp z))
end
section
open PySem PySem.Spec PyProof.Rows L2.Srt
theorem bK {a b m:Nat} (j:b < m):(a*m+b) / m=a:=by
 rw [MB,Nat.mul_add_div (by lia),Nat.div_eq_of_lt j,Nat.add_zero]
theorem cQ {n m p:Nat}:((bP n m p).map (·.1)).Nodup:=by
 unfold bP eZ;rw [NR,Iu,Om];refine ⟨fun a _ => ?_, ?_⟩
 ·rw [NR,Om];refine ⟨fun b _ => ?_, ?_⟩
  ·rw [Ip,Jd];refine (Iu.mp Mk).imp ?_;intro c c' F e;have h:=congrArg (fun k:K3=>k.2.2) e;simp only [Kn,ck] at h;lia
  ·refine (Iu.mp Mk).imp ?_;intro b b' z x hx y j e;rw [Ip] at hx j;obtain ⟨u,_,rfl⟩:=HF.mp hx;obtain ⟨v,_,rfl⟩:=HF.mp j;have h:=congrArg (fun k:K3=>k.2.1) e;simp only [Kn,ck] at h;lia
 ·refine (Iu.mp Mk).imp ?_;intro a a' B x hx y j e;rw [NR] at hx j;obtain ⟨b,z,hx⟩:=JV.mp hx;obtain ⟨b',q,j⟩:=JV.mp j;rw [Ip] at hx j;obtain ⟨u,_,rfl⟩:=HF.mp hx;obtain ⟨v,_,rfl⟩:=HF.mp j;have h:=congrArg (fun k:K3=>k.2.1) e;simp only [Kn,ck] at h;have h2:a*m+b=a'*m+b':=by lia
  apply B;rw [<- bK (a:=a) (Ia.mp z),h2,bK (Ia.mp q)]
theorem Du {n m p:Nat}:∀ u∈bP n m p,u.2≠0:=fun u j=>by
 obtain ⟨a,b,c,_,_,_,rfl⟩:=fG j;exact Int.one_ne_zero
theorem wy {α:Type} {n p:Nat} {f:Nat -> α}:(Hz (n*p)).map f=(Hz n).flatMap fun i=>(Hz p).map fun j=>f (i*p+j):=by
 induction n with
 | zero=>simp
 | succ n ih =>
   rw [JC,List.range_add,IV,ih,List.range_succ,Kq,Ip];simp
end
section
open PySem PySem.Spec PyProof.Rows L2.Srt
variable {T:List FD}
noncomputable def lr (xs:Str) (s:Stmt):FD:=⟨"_law_table_sums",s,[xs, "_law_n", "_law_m", "_law_p", "_law_found", "_law_a", "_law_b", "_law_c"],1,
 (.cons (.asg (.tup (.cons (.name 1) (.cons (.name 2) (.cons (.name 3) .nil)))) (.var 0))
 (.cons (.asg (.name 4) (.dnew true))
 (.cons (.for (.name 5) (.rng1 (.var 1)) (.cons (.for (.name 6) (.rng1 (.var 2)) (.cons (.for (.name 7) (.rng1 (.var 3)) (.cons (.put (.var 4) (.tup (.cons (.bin .add (.bin .mul (.var 5) (.var 3)) (.var 7)) (.cons (.bin .add (.bin .mul (.var 5) (.var 2)) (.var 6)) (.cons (.bin .add (.bin .mul (.var 6) (.var 3)) (.var 7)) .nil)))) (.int 1))
 .nil))
 .nil))
 .nil))
 (.cons (.ret (.var 4))
 .nil))))⟩
structure TI (n m p:Nat) (X:List Tm) (L:List Tm):Prop where
 nd:(L.map (·.1)).Nodup
 sub:∀ t∈L,t∈X
 all:∀ t∈X,t.1∈L.map (·.1)
theorem mV {L:List Tm} {k a:K3} {c:Int} (h:a∈L.map (·.1)∨a=k):a∈(cZ L k c).map (·.1):=by
 unfold cZ
 split
 ·next j =>
  rw [Ip];have e:L.map ((fun x:Tm=>x.1) ∘ fun p=>if p.1=k then (p.1,c) else p)=L.map (·.1):=IE fun p _=>by
   simp only [Kn];split <;> rfl
  rw [e]
  rcases h with h | rfl
  ·exact h
  ·obtain ⟨t,q,e⟩:=JA.mp j;rw [<- of_decide_eq_true e];exact HS q
 ·rw [IV]
  rcases h with h | rfl
  ·exact II _ h
  ·exact HA _ (by simp)
theorem TI.put {n m p:Nat} {X L:List Tm} (h:TI n m p X L) (t:Tm):TI n m p (X++[t]) (cZ L t.1 t.2) where
 nd:=tS h.nd
 sub:=fun u j=>by
  rcases zc j with z | z
  ·exact II _ (h.sub u z)
  ·exact HA _ (by rw [z];simp)
 all:=fun u j=>by
  rcases Hv.mp j with z | z
  ·exact mV (.inl (h.all u z))
  ·have e:u=t:=by simpa using z
   rw [e];exact mV (.inr rfl)
theorem TI.perm {n m p:Nat} {L:List Tm} (h:TI n m p (bP n m p) L):L.Perm (bP n m p):=by
 refine (Nh (nA h.nd) (nA cQ)).mpr fun t=>⟨h.sub t,fun j => ?_⟩;obtain ⟨u,q,e⟩:=HF.mp (h.all t j);have h1:=fE cQ (h.sub u q);have h2:=fE cQ j;rw [e,h2] at h1;have:u=t:=Ot e h1.symm;rw [<- this];exact q
theorem zh {f:Nat} {xs:Str} {s:Stmt} (hf:T[f]? = some (lr xs s)) {k:Nat} (hk : 1<=k) {n m p:Nat} (hn:n<=50) (hm:m<=50) (hp:p<=50) {M:Mem} {Q:QD}
 (q:∀ (L:List Tm) d M',L.Perm (bP n m p)->Ge M M'->M d=none->M' d=some (.dct true (L.map kcD))->Q (.ref d) M'):phi T k f [.tup [.int n, .int m, .int p]] M Q:=by
 refine aq (by lia) hf rfl (ρ := [some _,none,none,none,none,none,none,none]) rfl ?_
 unfold lr;walk_at "st";walk_at "st";intro d hd;have g0:=Ge.new (o := .dct true []) hd;have d0:=aa (M:=M) (a:=d) (o := .dct true []);generalize ag M d (.dct true [])=M0 at g0 d0 ⊢;walk_at "st";refine ⟨by lia,by lia, ?_⟩
 rw [HX];refine aP (f:=fun i=>D.int (i:Nat)) (ys:=Hz n) (I:=fun l ρ M' => ∃ L U G j, ρ = [some (.tup [.int n, .int m, .int p]),some (.int n),some (.int m),some (.int p),some (.ref d),U,G,j]/\Ge M M'/\M' d=some (.dct true (L.map kcD))/\TI n m p (l.flatMap (eZ m p)) L/\L.length<=l.length*2500) aG ⟨[],_,_,_,rfl,g0,d0,⟨by simp,fun _ h=>by simp at h,fun _ h=>by simp at h⟩,by simp⟩ (fun _ _ _ _=>trivial) ?_ ?_
 ·rintro l a r ρ M1 e ⟨L,U,G,j,rfl,g1,h1,z,B⟩;refine ⟨_,rfl,fun F hF => ?_⟩;have Y:=al e;rw [HQ] at Y;have ha:a < n:=Ia.mp (by rw [e];simp)
  walk_at "st";refine ⟨by lia,by lia, ?_⟩
  rw [HX];refine aP (f:=fun i=>D.int (i:Nat)) (ys:=Hz m) (I:=fun l' ρ M' => ∃ L G j, ρ = [some (.tup [.int n, .int m, .int p]),some (.int n),some (.int m),some (.int p),some (.ref d),some (.int (a:Nat)),G,j]/\Ge M M'/\M' d=some (.dct true (L.map kcD))/\TI n m p (l.flatMap (eZ m p)++l'.flatMap fun b=>(Hz p).map (ck m p a b)) L/\L.length<=l.length*2500+l'.length*50) aG ⟨L,_,_,rfl,g1,h1,by simpa using z,by simpa using B⟩ (fun _ _ _ _=>trivial) ?_ ?_
  ·rintro l' b r' ρ M2 e' ⟨L,G,j,rfl,g2,h2,z,B⟩;refine ⟨_,rfl,fun F' Z => ?_⟩;have J:=al e';rw [HQ] at J;have hb:b < m:=Ia.mp (by rw [e'];simp)
   walk_at "st";refine ⟨by lia,by lia, ?_⟩
   rw [HX];refine aP (f:=fun i=>D.int (i:Nat)) (ys:=Hz p) (I:=fun l3 ρ M' => ∃ L j, ρ = [some (.tup [.int n, .int m, .int p]),some (.int n),some (.int m),some (.int p),some (.ref d),some (.int (a:Nat)),some (.int (b:Nat)),j]/\Ge M M'/\M' d=some (.dct true (L.map kcD))/\TI n m p ((l.flatMap (eZ m p)++l'.flatMap fun b=>(Hz p).map (ck m p a b))++l3.map (ck m p a b)) L/\L.length<=l.length*2500+l'.length*50+l3.length) aG ⟨L,_,rfl,g2,h2,by simpa using z,by simpa using B⟩ (fun _ _ _ _=>trivial) ?_ ?_
   ·rintro l3 c r3 ρ M3 e3 ⟨L,j,rfl,g3,h3,z,B⟩;refine ⟨_,rfl,fun F3 F5 => ?_⟩;have O:=al e3;rw [HQ] at O;rw [dj];walk_at "wp";refine ⟨dk (by lia),dk (by lia),dk (by lia),by rw [tv];lia, ?_⟩
    have ek:D.tup [.int (a*p+c), .int (a*m+b), .int (b*p+c)]=k3D (ck m p a b c).1:=by
     unfold ck k3D;simp only [Lm,K7]
    rw [ek];refine ji h3 (gi (ck m p a b c).1) (by rw [q7,tv];lia) ?_
    rw [show D.int 1 = .int (ck m p a b c).2 from rfl,jl];refine F5 _ _ ⟨_,_,rfl,g3.upd hd,aa, ?_, ?_⟩
    ·rw [IV, <- Hn];exact z.put _
    ·have:=zd (L:=L) (k:=(ck m p a b c).1) (c:=(ck m p a b c).2);rw [D0,HI];lia
   ·rintro ρ M3 ⟨L,j,rfl,g3,h3,z,B⟩;dsimp only;walk_at "wp";refine Z _ _ ⟨L,_,_,rfl,g3,h3, ?_, ?_⟩
    ·rw [Kq];simpa using z
    ·rw [D0];rw [HQ] at B;simp;lia
  ·rintro ρ M2 ⟨L,G,j,rfl,g2,h2,z,B⟩;dsimp only;walk_at "wp";refine hF _ _ ⟨L,_,_,_,rfl,g2,h2, ?_, ?_⟩
   ·rw [Kq];simpa [eZ] using z
   ·rw [D0];rw [HQ] at B;simp;lia
 ·rintro ρ M1 ⟨L,U,G,j,rfl,g1,h1,z,B⟩;dsimp only;walk_at "st";exact q L d M1 z.perm g1 hd h1
noncomputable def one (L:Nat) (k:Int):List Int:=(Hz L).map fun h=>if ((h:Nat):Int)=k then 1 else 0
theorem iC {L:Nat} {k:Int}:(one L k).length=L:=by simp [one]
theorem qb {L:Nat} {k i:Int} (h0 : 0<=k) (h1:k < L):gz (one L k) i=if i=k then 1 else 0:=by
 unfold gz one
 by_cases hi:i < 0
 ·rw [if_pos hi,if_neg (by lia)]
 ·rw [if_neg hi,Ih,HM]
  by_cases hl:i.toNat < L
  ·rw [Mz hl];simp only [KQ,Option.getD_some]
   by_cases e:i=k
   ·rw [if_pos (by lia),if_pos e]
   ·rw [if_neg (by lia),if_neg e]
  ·rw [Ol (by simp;lia),if_neg (by lia)];rfl
noncomputable def jn (s:Stmt):FD:=⟨"_law_single",s,["_law_length", "_law_place"],2,
 (.cons (.ret (.blt .tuple (.cons (.comp [none,(some 1)] ["_law_here", "_law_place"] (.last (.rng1 (.var 0)) (.name 0) .nil (.blt .int (.cons (.cmp .eq (.var 0) (.var 1)) .nil)))) .nil)))
 .nil)⟩
theorem wz {f:Nat} {s:Stmt} (hf:T[f]? = some (jn s)) {n:Nat} (F : 1<=n) {L:Nat} (G:L<=100000) {k:Int} {M:Mem} {Q:QD} (q:∀ M',Ge M M'->Q (.tup ((one L k).map .int)) M'):phi T n f [.int L, .int k] M Q:=by
 refine aq (by lia) hf rfl (ρ := [some _,some _]) rfl ?_
 unfold jn;walk_at "st";refine ⟨by lia,by lia, ?_⟩
 rw [HX];refine ay (f:=fun i=>D.int (i:Nat)) (ys:=Hz L) (I:=fun l ρ M' acc=>(∃ o0, ρ = [o0,some (.int k)])/\M'=M/\acc=(l.map fun h=>if ((h:Nat):Int)=k then (1:Int) else 0).map .int) aG ⟨⟨_,rfl⟩,rfl,rfl⟩ (fun _ _ _ _ _=>trivial) ?_ ?_
 ·rintro l i r ρ M1 acc e ⟨⟨o0,rfl⟩,rfl,rfl⟩;refine ⟨_,rfl,fun N' j => ?_⟩;have z:=al e;rw [HQ] at z;walk_at "wp";refine ⟨by rw [q7,q7,tv];lia,j _ _ _ ⟨⟨_,rfl⟩,rfl, ?_⟩⟩
  simp
 ·rintro ρ M1 acc ⟨⟨o0,rfl⟩,rfl,rfl⟩ p B;exact ⟨_,_,rfl,ad aa,q _ (Ge.new B)⟩
noncomputable def lu (x y:Str) (s:Stmt):FD:=⟨"_law_turned_about",s,[x],1,
 (.cons (.ret (.blt .tuple (.cons (.comp [none] [y] (.last (.seq (.var 0)) (.name 0) .nil (.neg (.var 0)))) .nil)))
 .nil)⟩
theorem zi {f:Nat} {x y:Str} {s:Stmt} (hf:T[f]? = some (lu x y s)) {n:Nat} (F : 1<=n) {l:List Int} (G:l.length<=100000) {M:Mem} {Q:QD} (q:∀ M',Ge M M'->Q (.tup ((l.map (- ·)).map .int)) M'):phi T n f [.tup (l.map .int)] M Q:=by
 refine aq (by lia) hf rfl (ρ := [some _]) rfl ?_
 unfold lu;walk_at "st";refine ay (f:=D.int) (ys:=l) (I:=fun l ρ M' acc=>(∃ o0, ρ = [o0])/\M'=M/\acc=(l.map (- ·)).map .int) rfl ⟨⟨_,rfl⟩,rfl,rfl⟩ (fun _ _ _ _ _=>by first | rfl | trivial) ?_ ?_
 ·rintro l' i r ρ M1 acc e ⟨⟨o0,rfl⟩,rfl,rfl⟩;refine ⟨_,rfl,fun N' j => ?_⟩;have z:=al e;walk_at "wp";refine ⟨by rw [q7,q7,tv];lia,j _ _ _ ⟨⟨_,rfl⟩,rfl, ?_⟩⟩
  simp
 ·rintro ρ M1 acc ⟨⟨o0,rfl⟩,rfl,rfl⟩ p B;exact ⟨_,_,rfl,ad aa,q _ (Ge.new B)⟩
noncomputable def plP (L0 L1 L2:Nat) (t:Tm):Pr:=(one L0 t.1.2.1,one L1 t.1.2.2,(one L2 t.1.1).map (· * t.2))
theorem rP {x:Int}:∀ {b:List Int} {i:Int},gz (b.map (· * x)) i=gz b i*x
 | [],i=>by rw [KD,gU];simp
 | y::b,i=>by rw [HE,ci,ci,rP];split <;> rfl
theorem qc {L0 L1 L2:Nat} {k i j:Int}:∀ {L:List Tm},(∀ t∈L,(0<=t.1.1/\t.1.1 < L2)/\(0<=t.1.2.1/\t.1.2.1 < L0)/\(0<=t.1.2.2/\t.1.2.2 < L1))->Tn (L.map (plP L0 L1 L2)) k i j=cf L (k,i,j)
 | [],_=>rfl
 | t::L,h=>by
   obtain ⟨⟨z,a1⟩,⟨b0,b1⟩,⟨B,F⟩⟩:=h t (by simp)
   rw [HE,fI,aX,qc fun u G=>h u (by simp [G])]
   congr 1;unfold plP;dsimp only;rw [qb b0 b1,qb B F,rP,qb z a1]
   by_cases e:t.1=(k,i,j)
   ·rw [if_pos e,if_pos (by rw [e]),if_pos (by rw [e]),if_pos (by rw [e])];lia
   ·rw [if_neg e]
    by_cases e1:i=t.1.2.1
    ·by_cases e2:j=t.1.2.2
     ·by_cases q:k=t.1.1
      ·exact absurd (by rw [e1,e2,q]) e
      ·rw [if_neg q];simp
     ·rw [if_neg e2];simp
    ·rw [if_neg e1];simp
def rQ (cap:Nat) (bf:BF):Prop := ∀ {d:Addr} {kvs:List (D×D)} (sh:Sh) {M:Mem} {Q:QD},M d=some (.dct true kvs)->j9 sh=true->(∀ kv∈kvs,hs sh kv.1=true)->kvs.length<=cap->(∀ p ys,M p=none->ys.Perm (kvs.map (·.1))->lf ys->Q (.ref p) (ag M p (.lst ys)))->opF bf [.ref d] M Q
theorem F1 {cap:Nat}:rQ cap .sortk:=fun sh _ _ h1 h2 j _ q=>⟨_,true,_,sh,rfl,h1,h2,j,q⟩
noncomputable def gX (bf:BF) (y:Str) (s:Stmt) (fs:Nat):FD:=⟨"_law_plainly",s,["_law_lengths", "_law_sums_here"],2,
 (.cons (.ret (.comp [none,none,none,(some 0),(some 1)] ["_law_k", "_law_i", "_law_j", "_law_lengths", "_law_sums_here"] (.last (.seq (.blt bf (.cons (.var 1) .nil))) (.tup (.cons (.name 0) (.cons (.name 1) (.cons (.name 2) .nil)))) .nil (.tup (.cons (.call fs (.cons (.ix (.var 3) (.int 0)) (.cons (.var 1) .nil))) (.cons (.call fs (.cons (.ix (.var 3) (.int 1)) (.cons (.var 2) .nil))) (.cons (.blt .tuple (.cons (.comp [none,(some 4),(some 0),(some 1),(some 2)] [y, "_law_sums_here", "_law_k", "_law_i", "_law_j"] (.last (.seq (.call fs (.cons (.ix (.var 3) (.int 2)) (.cons (.var 0) .nil)))) (.name 0) .nil (.bin .mul (.var 0) (.ix (.var 1) (.tup (.cons (.var 2) (.cons (.var 3) (.cons (.var 4) .nil)))))))) .nil)) .nil)))))))
 .nil)⟩
def qd (T:List FD) (n f:Nat):Prop := ∀ {L:Nat} {k:Int} {M:Mem} {Q:QD},L<=100000->(∀ M',Ge M M'->Q (.tup ((one L k).map .int)) M')->phi T n f [.int L, .int k] M Q
theorem tW {f fs:Nat} {y:Str} {s:Stmt} {cap:Nat} {bf:BF} (hS:rQ cap bf) (hf:T[f]? = some (gX bf y s fs)) {n:Nat} (j:qd T (n - 1) fs) (hn : 1<=n) {L0 L1 L2:Nat} (h0:L0<=1000) (h1:L1<=1000) (h2:L2<=1000) {L:List Tm} (B:(L.map (·.1)).Nodup) (hl:L.length<=1000000) (F:L.length<=cap) {d:Addr} {M:Mem} {Q:QD} (hd:M d=some (.dct true (L.map kcD)))
 (q:∀ (rs:List Tm) p M',rs.Perm L->Ge M M'->M p=none->M' p=some (.lst ((rs.map (plP L0 L1 L2)).map prD))->Q (.ref p) M'):phi T n f [.tup [.int L0, .int L1, .int L2], .ref d] M Q:=by
 refine aq (by lia) hf rfl (ρ := [some _,some _]) rfl ?_
 unfold gX;walk_at "st";refine hS (.tup [.int, .int, .int]) hd rfl (fun kv Z => ?_) (by rw [q7];exact F) fun ps ys F5 z G => ?_
 ·obtain ⟨t,_,rfl⟩:=HF.mp Z;rfl
 obtain ⟨rs,J,rfl,F7⟩:=qI B z G;have g1:=Ge.new (o := .lst (rs.map fun t=>k3D t.1)) F5;have e1:=aa (M:=M) (a:=ps) (o := .lst (rs.map fun t=>k3D t.1));generalize ag M ps (.lst (rs.map fun t=>k3D t.1))=M1 at g1 e1 ⊢;have F8:rs.length<=1000000:=by rw [J.length_eq];exact hl
 refine ⟨_,ad e1, ?_⟩;refine ay (f:=fun t:Tm=>k3D t.1) (ys:=rs) (I:=fun l ρ M' acc=>(∃ o0 o1 o2, ρ = [o0,o1,o2,some (.tup [.int L0, .int L1, .int L2]),some (.ref d)])/\Ge M1 M'/\acc=(l.map (plP L0 L1 L2)).map prD) rfl ⟨⟨_,_,_,rfl⟩,Ge.refl,rfl⟩ (fun _ _ _ _ h=>ad (h.2.1 _ _ e1)) ?_ ?_
 ·rintro l t r ρ M2 acc e ⟨⟨o0,o1,o2,rfl⟩,g2,rfl⟩;refine ⟨_,rfl,fun N' F6 => ?_⟩;have F9:=al e;have ht:t∈L:=J.mem_iff.mp (by rw [e];simp)
  walk_at "wp";refine ⟨_,rfl,j (by lia) fun M3 g3=>⟨_,rfl,j (by lia) fun M4 g4=>⟨_,rfl,j (by lia) fun M5 Y=>⟨_,rfl, ?_⟩⟩⟩⟩
  have Y:=g2.trans (g3.trans (g4.trans Y));have d5:=Y _ _ (g1 _ _ hd);have ho:∀ x∈one L2 t.1.1,x=0∨x=1:=fun x hx=>by
   unfold one at hx;obtain ⟨h,_,rfl⟩:=HF.mp hx
   split <;> simp
  refine ay (f:=D.int) (ys:=one L2 t.1.1) (I:=fun l' ρ M' acc=>(∃ o0, ρ = [o0,some (.ref d),some (.int t.1.1),some (.int t.1.2.1),some (.int t.1.2.2)])/\M'=M5/\acc=(l'.map (· * t.2)).map .int) rfl ⟨⟨_,rfl⟩,rfl,rfl⟩ (fun _ _ _ _ _=>by first | rfl | trivial) ?_ ?_
  ·rintro l' x r' ρ M6 acc e' ⟨⟨o0,rfl⟩,rfl,rfl⟩;refine ⟨_,rfl,fun N'' O => ?_⟩;have U:=al e';rw [iC] at U;have hx:=ho x (by rw [e'];simp)
   walk_at "wp";refine ⟨by rw [tv];lia, ?_⟩
   rw [show D.tup [.int t.1.1, .int t.1.2.1, .int t.1.2.2]=k3D t.1 from rfl];refine Dq d5 (gi t.1) (eP B ht) ?_;walk_at "wp";refine ⟨dk (by lia),by rw [q7,q7,tv];lia,O _ _ _ ⟨⟨_,rfl⟩,rfl,by simp⟩⟩
  ·rintro ρ M6 acc ⟨⟨o0,rfl⟩,rfl,rfl⟩ p J;refine ⟨_,_,rfl,ad aa,by rw [tv];lia,by rw [q7,q7,tv];lia,F6 _ _ _ ⟨⟨_,_,_,rfl⟩,Y.trans (Ge.new J), ?_⟩⟩
   simp [prD,plP]
 ·rintro ρ M2 acc ⟨⟨o0,o1,o2,rfl⟩,g2,rfl⟩ p2 hp2;have g3:=g1.trans g2;refine q rs p2 _ J (g3.trans (Ge.new hp2)) ?_ aa
  cases hz:M p2 with
  | none=>rfl
  | some o=>rw [g3 _ _ hz] at hp2;cases hp2
end
section
open PySem PySem.Spec PyProof.Rows L2.Srt
noncomputable def tm (p:Pr) (k i j:Int):Int:=gz p.1 i*gz p.2.1 j*gz p.2.2 k
theorem eW {p:Pr} {a:List Pr} {k i j:Int}:Tn (p::a) k i j=tm p k i j+Tn a k i j:=fI
theorem wB {ps:List Pr} {n:Nat} {p:Pr} {k i j:Int}:Tn (ps.take n++p::ps.drop n) k i j=Tn ps k i j+tm p k i j:=by
 have e:Tn ps k i j=Tn (ps.take n) k i j+Tn (ps.drop n) k i j:=by rw [<- gW,J0]
 rw [gW,eW,e];lia
theorem wD {k i j:Int} {p':Pr}:∀ {ps:List Pr} {n:Nat} {p:Pr},ps[n]? = some p->Tn (ps.set n p') k i j=Tn ps k i j - tm p k i j+tm p' k i j
 | [],n,p,h=>by simp at h
 | a::ps,0,p,h=>by
   simp at h;subst h;rw [Nf,eW,eW];lia
 | a::ps,n+1,p,h=>by
   rw [Ng,eW,eW,wD (ps:=ps) (n:=n) (p:=p) (by simpa using h)];lia
theorem iD {i:Int}:∀ {l:List Int},gz (l.map (- ·)) i = - gz l i:=by
 intro l;have:=wv (x := -1) (b:=l) (i:=i);rw [show l.map (- ·)=l.map (-1 * ·) from IE fun x _=>by lia,this];lia
theorem Er {l r o:List Int} {k i j:Int}:tm (l.map (- ·),r,o.map (- ·)) k i j=tm (l,r,o) k i j:=by
 unfold tm;dsimp only;rw [iD,iD];simp [Int.neg_mul,Int.mul_neg]
theorem tm_lr {l r o:List Int} {k i j:Int}:tm (l.map (- ·),r.map (- ·),o) k i j=tm (l,r,o) k i j:=by
 unfold tm;dsimp only;rw [iD,iD];simp [Int.neg_mul,Int.mul_neg]
noncomputable def aS (a b:List Int):List Int:=L7 (· - ·) a b
theorem lw {i:Int}:∀ {a b:List Int},a.length=b.length->gz (aS a b) i+gz b i=gz a i:=by
 intro a
 induction a generalizing i with
 | nil=>intro b h;cases b with | nil=>rw [show aS [] []=[] from rfl,gU];rfl | cons y b=>simp at h
 | cons x a ih =>
   intro b h
   cases b with
   | nil=>simp at h
   | cons y b =>
     rw [show aS (x::a) (y::b)=(x - y)::aS a b from rfl,ci,ci,ci]
     by_cases e:i=0
     ·rw [if_pos e,if_pos e,if_pos e];lia
     ·rw [if_neg e,if_neg e,if_neg e];exact ih (by simpa using h)
theorem By {l r o m:List Int} {k i j:Int} (h:l.length=m.length):tm (aS l m,r,o) k i j+tm (m,r,o) k i j=tm (l,r,o) k i j:=by
 unfold tm;dsimp only;rw [<- Nt, <- Nt,lw h]
theorem Bz {l r o m:List Int} {k i j:Int} (h:r.length=m.length):tm (l,aS r m,o) k i j+tm (l,m,o) k i j=tm (l,r,o) k i j:=by
 unfold tm;dsimp only;rw [<- Nt, <- OQ,lw h]
theorem BA {l r o m:List Int} {k i j:Int} (h:o.length=m.length):tm (l,r,aS o m) k i j+tm (l,r,m) k i j=tm (l,r,o) k i j:=by
 unfold tm;dsimp only;rw [<- OQ,lw h]
noncomputable def seven:List Pr := [([1,0,0,1],[1,0,0,1],[1,0,0,1]),([0,0,1,1],[1,0,0,0],[0,0,1, -1]),([1,0,0,0],[0,1,0, -1],[0,1,0,1]),([0,0,0,1],[-1,0,1,0],[1,0,1,0]),([1,1,0,0],[0,0,0,1],[-1,1,0,0]),([-1,0,1,0],[1,1,0,0],[0,0,0,1]),([0,1,0, -1],[0,0,1,1],[1,0,0,0])]
theorem zj:∀ a b c:Fin 4,Tn seven (a.val:Nat) (b.val:Nat) (c.val:Nat)=cf (bP 2 2 2) (((a.val:Nat):Int),((b.val:Nat):Int),((c.val:Nat):Int)):=by decide +kernel
theorem zk {k i j:Int}:Tn seven k i j=cf (bP 2 2 2) (k,i,j):=by
 by_cases h:(0<=k/\k < 4)/\(0<=i/\i < 4)/\(0<=j/\j < 4)
 ·have:=zj ⟨k.toNat,by lia⟩ ⟨i.toNat,by lia⟩ ⟨j.toNat,by lia⟩
  dsimp only at this;rw [IY h.1.1,IY h.2.1.1,IY h.2.2.1] at this;exact this
 ·have z:Tn seven k i j=0:=by
   cases Decidable.em (Tn seven k i j=0) with
   | inl e=>exact e
   | inr e=>exact absurd (q9 (L0 := 4) (L1 := 4) (L2 := 4) (us:=seven) (by decide) e) h
  have B:cf (bP 2 2 2) (k,i,j)=0:=eB fun t F e=>by
   obtain ⟨a,b,c,J,L,O,rfl⟩:=fG F;unfold ck at e;have e1:=congrArg (fun q:K3=>q.1) e;have e2:=congrArg (fun q:K3=>q.2.1) e;have G:=congrArg (fun q:K3=>q.2.2) e;dsimp only at e1 e2 G;lia
  rw [z,B]
end
section
open PySem PySem.Spec PyProof.Rows L2.Srt
variable {T:List FD}
noncomputable def nsD (ps:List Nat):List D:=ps.map fun t=>D.int (t:Nat)
end
section
open PySem PySem.Spec PyProof.Rows L2.Srt
variable {T:List FD}
noncomputable def gY (xv:Str) (s:Stmt) (ft fa:Nat):FD:=⟨"_law_dressed",s,["_law_box_here", "_law_lengths", "_law_products", "_law_most", "_law_found", "_law_l", "_law_r", "_law_o", "_law_way", "_law_turn", "_law_at", "_law_side", "_law_more", "_law_less", "_law_extra"],4,
 (.cons (.asg (.name 4) (.lst .nil))
 (.cons (.for (.tup (.cons (.name 5) (.cons (.name 6) (.cons (.name 7) .nil)))) (.seq (.var 2)) (.cons (.asg (.name 8) (.call ft (.cons (.var 0) (.cons (.int 6) .nil))))
 (.cons (.ite (.cmp .eq (.var 8) (.int 0)) (.cons (.par 5 7 (.call fa (.cons (.var 5) .nil)) (.call fa (.cons (.var 7) .nil)))
 .nil) .nil)
 (.cons (.ite (.cmp .eq (.var 8) (.int 1)) (.cons (.par 5 6 (.call fa (.cons (.var 5) .nil)) (.call fa (.cons (.var 6) .nil)))
 .nil) .nil)
 (.cons (.drop (.ins (.var 4) (.call ft (.cons (.var 0) (.cons (.bin .add (.blt .len (.cons (.var 4) .nil)) (.int 1)) .nil))) (.tup (.cons (.var 5) (.cons (.var 6) (.cons (.var 7) .nil))))))
 .nil)))))
 (.cons (.for (.name 9) (.rng1 (.call ft (.cons (.var 0) (.cons (.bin .add (.var 3) (.int 1)) .nil)))) (.cons (.asg (.name 10) (.call ft (.cons (.var 0) (.cons (.blt .len (.cons (.var 4) .nil)) .nil))))
 (.cons (.asg (.tup (.cons (.name 5) (.cons (.name 6) (.cons (.name 7) .nil)))) (.ix (.var 4) (.var 10)))
 (.cons (.asg (.name 11) (.call ft (.cons (.var 0) (.cons (.int 3) .nil))))
 (.cons (.asg (.name 12) (.blt .tuple (.cons (.comp [none,(some 0)] [xv, "_law_box_here"] (.last (.seq (.ix (.ix (.var 4) (.var 10)) (.var 11))) (.name 0) .nil (.bin .sub (.call ft (.cons (.var 1) (.cons (.int 5) .nil))) (.int 2)))) .nil)))
 (.cons (.asg (.name 13) (.blt .tuple (.cons (.comp [none,none] [xv, "_law_other"] (.last (.zip (.ix (.ix (.var 4) (.var 10)) (.var 11)) (.var 12)) (.tup (.cons (.name 0) (.cons (.name 1) .nil))) .nil (.bin .sub (.var 0) (.var 1)))) .nil)))
 (.cons (.put (.var 4) (.var 10) (.bin .add (.bin .add (.sl (.ix (.var 4) (.var 10)) .none (.some (.var 11))) (.tup (.cons (.var 13) .nil))) (.sl (.ix (.var 4) (.var 10)) (.some (.bin .add (.var 11) (.int 1))) .none)))
 (.cons (.asg (.name 14) (.bin .add (.bin .add (.sl (.tup (.cons (.var 5) (.cons (.var 6) (.cons (.var 7) .nil)))) .none (.some (.var 11))) (.tup (.cons (.var 12) .nil))) (.sl (.tup (.cons (.var 5) (.cons (.var 6) (.cons (.var 7) .nil)))) (.some (.bin .add (.var 11) (.int 1))) .none)))
 (.cons (.drop (.ins (.var 4) (.call ft (.cons (.var 0) (.cons (.bin .add (.blt .len (.cons (.var 4) .nil)) (.int 1)) .nil))) (.var 14)))
 .nil)))))))))
 (.cons (.ret (.bin .add (.blt .tuple (.cons (.var 1) .nil)) (.tup (.cons (.var 4) .nil))))
 .nil))))⟩
def rR (T:List FD) (n f:Nat):Prop := ∀ {l:List Int} {M:Mem} {Q:QD},l.length<=100000->(∀ M',Ge M M'->Q (.tup ((l.map (- ·)).map .int)) M')->phi T n f [.tup (l.map .int)] M Q
def Within (B:Int) (l:List Int):Prop := ∀ x∈l, -B<=x/\x<=B
structure Dr (B:Int) (L0 L1 L2:Nat) (p:Pr):Prop where
 l0:p.1.length=L0
 l1:p.2.1.length=L1
 l2:p.2.2.length=L2
 e0:Within B p.1
 e1:Within B p.2.1
 e2:Within B p.2.2
theorem Within.neg {B:Int} {l:List Int} (h:Within B l):Within B (l.map (- ·)):=fun x hx=>by
 obtain ⟨y,j,rfl⟩:=HF.mp hx;have:=h y j;lia
theorem Within.mono {B B':Int} (j:B<=B') {l:List Int} (h:Within B l):Within B' l:=fun x hx=>by
 have:=h x hx;lia
theorem Dr.mono {B B':Int} (j:B<=B') {L0 L1 L2:Nat} {p:Pr} (h:Dr B L0 L1 L2 p):Dr B' L0 L1 L2 p:=⟨h.l0,h.l1,h.l2,h.e0.mono j,h.e1.mono j,h.e2.mono j⟩
theorem zm {a b:List Int} (h:a.length=b.length):(aS a b).length=a.length:=by simp [aS,h]
theorem Within.less {B:Int}:∀ {a b:List Int},Within B a->Within 2 b->Within (B+2) (aS a b)
 | [],_,_,_=>fun x hx=>by simp [aS] at hx
 | _::_,[],_,_=>fun x hx=>by simp [aS] at hx
 | x::a,y::b,q,F=>fun z j=>by
   rw [show aS (x::a) (y::b)=(x - y)::aS a b from rfl] at j
   rcases Ho.mp j with rfl | j
   ·have:=q x (by simp);have:=F y (by simp);lia
   ·exact Within.less (fun w hw=>q w (by simp [hw])) (fun w hw=>F w (by simp [hw])) z j
noncomputable def pAt (p:Pr):Nat->List Int | 0=>p.1 | 1=>p.2.1 | _=>p.2.2
noncomputable def cN (p:Pr) (m:List Int):Nat->Pr | 0=>(m,p.2.1,p.2.2) | 1=>(p.1,m,p.2.2) | _=>(p.1,p.2.1,m)
theorem Dv {p:Pr} {m:List Int} {s:Nat} {k i j:Int} (h:(pAt p s).length=m.length):tm (cN p (aS (pAt p s) m) s) k i j+tm (cN p m s) k i j=tm p k i j:=by
 match s with
 | 0=>exact By h
 | 1=>exact Bz h
 | _+2=>exact BA h
theorem Dr.set {B:Int} {L0 L1 L2:Nat} {p:Pr} (h:Dr B L0 L1 L2 p) {m:List Int} {s:Nat} (j:m.length=(pAt p s).length) (hw:Within B m):Dr B L0 L1 L2 (cN p m s):=by
 match s with
 | 0=>exact ⟨j.trans h.l0,h.l1,h.l2,hw,h.e1,h.e2⟩
 | 1=>exact ⟨h.l0,j.trans h.l1,h.l2,h.e0,hw,h.e2⟩
 | _+2=>exact ⟨h.l0,h.l1,j.trans h.l2,h.e0,h.e1,hw⟩
theorem Dr.at {B:Int} {L0 L1 L2:Nat} {p:Pr} (h:Dr B L0 L1 L2 p) {s:Nat}:Within B (pAt p s):=by
 match s with
 | 0=>exact h.e0
 | 1=>exact h.e1
 | _+2=>exact h.e2
theorem BB {ft n:Nat} (B:fB T n ft) {b:Addr} {M:Mem} {N:NC} (J:Box b M) {l:List Int} (j:l.length<=1000)
 (q:∀ (ns:List Int) ρ M',ns.length=l.length->Within 2 ns->Bx b M M'->N ρ M' (ns.map .int)) :
 bo (bn 0) (bQ (wOp kR (wAr (phi T n ft) (aH (bD 1) (aH (wC (.int 5)) bI))) (wC (.int 2)))) (fun M=>aw M (.tup (l.map .int))=some (l.map .int)) N (l.map .int) [none,some (.ref b)] M []:=by
 refine ay (f:=D.int) (ys:=l) (I:=fun l ρ M' acc => ∃ ns:List Int,(∃ o, ρ = [o,some (.ref b)])/\acc=ns.map .int/\ns.length=l.length/\Within 2 ns/\Bx b M M') rfl ⟨[],⟨_,rfl⟩,rfl,rfl,fun _ h=>by simp at h,Bx.refl J⟩ (fun _ _ _ _ _=>rfl) ?_ ?_
 ·rintro l i r ρ M1 acc e ⟨ns,⟨o,rfl⟩,rfl,j,F,z⟩;refine ⟨_,rfl,fun N' G => ?_⟩;have L:=al e;walk_at "wp";refine B z.box (by lia) (by lia) fun v M2 v0 v1 O => ?_
  walk_at "wp";refine ⟨by rw [q7,tv];lia,G _ _ _ ⟨ns++[v - 2],⟨_,rfl⟩,by simp,by simp [j],fun y U => ?_,z.trans O⟩⟩
  rcases Hv.mp U with h | h
  ·exact F y h
  ·simp at h;subst h;lia
 ·rintro ρ M1 acc ⟨ns,⟨o,rfl⟩,rfl,j,F,z⟩;exact q ns _ M1 j F z
theorem BC {M:Mem} {N:NC} {a b:List Int} (J:a.length<=1000) {chk:Mem->Prop} (G:chk M)
 (q:∀ ρ,N ρ M ((aS a b).map .int)) :
 bo (kY (bX (bn 0) (bX (bn 1) fT))) (bQ (wOp kR (bD 0) (bD 1))) chk N (L7 i7 (a.map .int) (b.map .int)) [none,none] M []:=by
 have ez:L7 i7 (a.map D.int) (b.map D.int)=(a.zip b).map fun z=>D.tup [.int z.1, .int z.2]:=by
  rw [List.zipWith_map,List.zip,Qt];rfl
 refine ay (f:=fun z:Int×Int=>D.tup [.int z.1, .int z.2]) (ys:=a.zip b) (I:=fun l ρ M' acc=>(∃ o0 j, ρ = [o0,j])/\M'=M/\acc=(l.map fun z=>z.1 - z.2).map .int) ez ⟨⟨_,_,rfl⟩,rfl,rfl⟩ (fun _ _ _ _ h=>by rw [h.2.1];exact G) ?_ ?_
 ·rintro l z r ρ M1 acc e ⟨⟨o0,j,rfl⟩,rfl,rfl⟩;refine ⟨_,rfl,fun N' B => ?_⟩;have F:=al e;rw [List.length_zip] at F;walk_at "wp";exact ⟨by rw [q7,q7,tv];lia,B _ _ _ ⟨⟨_,_,rfl⟩,rfl,by simp⟩⟩
 ·rintro ρ M1 acc ⟨⟨o0,j,rfl⟩,rfl,rfl⟩;have:(a.zip b).map (fun z=>z.1 - z.2)=aS a b:=by rw [List.zip,Qt];rfl
  rw [this];exact q _
theorem wF {p:Pr} {s:Nat} (h:s < 3):atI [D.tup (p.1.map .int), .tup (p.2.1.map .int), .tup (p.2.2.map .int)] (s:Nat)=some (.tup ((pAt p s).map .int)):=by
 match s,h with
 | 0,_=>rfl
 | 1,_=>rfl
 | 2,_=>rfl
noncomputable def pts (p:Pr):List D := [.tup (p.1.map .int), .tup (p.2.1.map .int), .tup (p.2.2.map .int)]
theorem rS {p:Pr} {s:Nat} (h:s < 3) {M:Mem} {Q:QD} (q:Q (.tup ((pts p).take s)) M):dA (prD p) none (some ((s:Nat):Int)) M Q:=by
 match s,h with
 | 0,_=>exact q
 | 1,_=>exact q
 | 2,_=>exact q
theorem rT {p:Pr} {s:Nat} (h:s < 3) {M:Mem} {Q:QD} (q:Q (.tup ((pts p).drop (s+1))) M):dA (prD p) (some (((s:Nat):Int)+1)) none M Q:=by
 match s,h with
 | 0,_=>exact q
 | 1,_=>exact q
 | 2,_=>exact q
theorem rV {p:Pr} {m:List Int} {s:Nat} (h:s < 3):D.tup ((pts p).take s++[.tup (m.map .int)]++(pts p).drop (s+1))=prD (cN p m s):=by
 match s,h with
 | 0,_=>rfl
 | 1,_=>rfl
 | 2,_=>rfl
theorem iE {p:Pr}:(pts p).length=3:=rfl
theorem tX {f ft fa:Nat} {xv:Str} {s:Stmt} (hf:T[f]? = some (gY xv s ft fa)) {n:Nat} (Y:fB T (n - 1) ft) (F8:rR T (n - 1) fa) (hn : 1<=n) {b:Addr} {L0 L1 L2 most:Nat} {B:Int} (hB : 1<=B/\B<=100) (h0:L0<=100) (h1:L1<=100) (h2:L2<=100) (hm:most<=20) {ps:List Pr} (Fp:∀ p∈ps,Dr B L0 L1 L2 p) (Fj:ps≠[]) (hl:ps.length<=10000) {y0 y1 y2:D} {pp:Addr} {M:Mem} {Q:QD} (hb:Box b M) (Fk:pp≠b) (ep:M pp=some (.lst (ps.map prD)))
 (q:∀ (qs:List Pr) pf M',(∀ p∈qs,Dr (B+2*most) L0 L1 L2 p)->qs.length<=ps.length+most->qs≠[]->(∀ k i j,Tn qs k i j=Tn ps k i j)->Bx b M M'->M pf=none->pf≠b->M' pf=some (.lst (qs.map prD))->Q (.tup [y0,y1,y2, .ref pf]) M') :
 phi T n f [.ref b, .tup [y0,y1,y2], .ref pp, .int most] M Q:=by
 refine aq (by lia) hf rfl (ρ := [some _,some _,some _,some _,none,none,none,none,none,none,none,none,none,none,none]) rfl ?_
 unfold gY;walk_at "st";refine ⟨by rw [tv];lia,fun pf Z => ?_⟩
 have G:pf≠b:=fun w=>by obtain ⟨_,_,_,e⟩:=hb;rw [<- w,Z] at e;cases e
 have x1:=Bx.of hb (Ge.new (o := .lst []) Z);have e1:=aa (M:=M) (a:=pf) (o := .lst []);generalize ag M pf (.lst [])=M1 at x1 e1 ⊢;walk_at "st";refine ⟨_,ad (x1.keep _ _ Fk ep), ?_⟩;refine aP (f:=prD) (ys:=ps) (I:=fun l ρ M' => ∃ qs o5 o6 o7 o8, ρ = [some (.ref b),some (.tup [y0,y1,y2]),some (.ref pp),some (.int most),some (.ref pf),o5,o6,o7,o8,none,none,none,none,none,none]/\Bx b M M'/\M' pf=some (.lst (qs.map prD))/\qs.length=l.length/\(∀ p∈qs,Dr B L0 L1 L2 p) /\ ∀ k i j,Tn qs k i j=Tn l k i j) rfl ⟨[],_,_,_,_,rfl,x1,e1,rfl,fun _ h=>by simp at h,fun _ _ _=>rfl⟩ (fun _ _ _ ⟨_,_,_,_,_,_,h,_⟩=>ad (h.keep _ _ Fk ep)) ?_ ?_
 ·rintro l p r ρ M2 e ⟨qs,o5,o6,o7,o8,rfl,x2,e2,F5,L,hT⟩;refine ⟨_,rfl,fun F hF => ?_⟩;have U:=Fp p (by rw [e];simp)
  have Fl:=al e;walk_at "st";refine Y x2.box (by decide) (by decide) fun v M3 v0 v1 x3 => ?_
  have e3:=x3.keep pf _ G e2;have x3:=x2.trans x3;clear e2 x2;refine dq (fun ρ M' => ∃ l' r' o', ρ = [some (.ref b),some (.tup [y0,y1,y2]),some (.ref pp),some (.int most),some (.ref pf),some (.tup (l'.map .int)),some (.tup (r'.map .int)),some (.tup (o'.map .int)),some (.int v),none,none,none,none,none,none]/\Bx b M M'/\M' pf=some (.lst (qs.map prD))/\Dr B L0 L1 L2 (l',r',o') /\ ∀ k i j,tm (l',r',o') k i j=tm p k i j) (fun R hR => ?_) ?_
  ·walk_at "wp"
   by_cases hv:v=0
   ·rw [if_pos (by simp [hv])]
    walk_at "st";refine F8 (by have:=U.l0;lia) fun M4 g4=>F8 (by have:=U.l2;lia) fun M5 g5=>hR _ _ ⟨_,_,_,rfl,x3.ge (g4.trans g5),(g4.trans g5) _ _ e3,⟨by rw [q7];exact U.l0,U.l1,by rw [q7];exact U.l2,U.e0.neg,U.e1,U.e2.neg⟩,fun k i j=>Er⟩
   ·rw [if_neg (by simp [hv])]
    exact hR _ _ ⟨_,_,_,rfl,x3,e3,U,fun _ _ _=>rfl⟩
  rintro ρ M4 ⟨l',r',o',rfl,x4,e4,J,ht⟩;refine dq (fun ρ M' => ∃ l' r' o', ρ = [some (.ref b),some (.tup [y0,y1,y2]),some (.ref pp),some (.int most),some (.ref pf),some (.tup (l'.map .int)),some (.tup (r'.map .int)),some (.tup (o'.map .int)),some (.int v),none,none,none,none,none,none]/\Bx b M M'/\M' pf=some (.lst (qs.map prD))/\Dr B L0 L1 L2 (l',r',o') /\ ∀ k i j,tm (l',r',o') k i j=tm p k i j) (fun R hR => ?_) ?_
  ·walk_at "wp"
   by_cases hv:v=1
   ·rw [if_pos (by simp [hv])]
    walk_at "st";refine F8 (by have:=J.l0;dsimp only at this;lia) fun M5 g5=>F8 (by have:=J.l1;dsimp only at this;lia) fun M6 g6=>hR _ _ ⟨_,_,_,rfl,x4.ge (g5.trans g6),(g5.trans g6) _ _ e4,⟨by rw [q7];exact J.l0,by rw [q7];exact J.l1,J.l2,J.e0.neg,J.e1.neg,J.e2⟩,fun k i j=>tm_lr.trans (ht k i j)⟩
   ·rw [if_neg (by simp [hv])]
    exact hR _ _ ⟨_,_,_,rfl,x4,e4,J,ht⟩
  clear x3 e3 x4 e4 J ht;rintro ρ M5 ⟨l',r',o',rfl,x5,e5,J,ht⟩;walk_at "st";refine ⟨⟨_,e5⟩,fA e5 ?_⟩;walk_at "wp";rw [q7];refine Y x5.box (by lia) (by lia) fun w M6 w0 w1 x6 => ?_
  have e6:=x6.keep pf _ G e5;have x6:=x5.trans x6;refine ⟨by rw [tv];lia, ?_⟩
  refine ⟨_,_,_,_,rfl,rfl,e6,w0,by rw [q7];lia,by rw [q7,tv];lia, ?_⟩
  refine hF _ _ ⟨qs.take w.toNat++(l',r',o')::qs.drop w.toNat,_,_,_,_,rfl,x6.upd Z G, ?_, ?_, ?_, ?_⟩
  ·rw [aa,IV,HE,P7,P9];rfl
  ·rw [D0,Ic,HD,J7,D0,HI];lia
  ·intro y hy
   rcases Hv.mp hy with h | h
   ·exact L y (Kc h)
   ·rcases Ho.mp h with rfl | h
    ·exact J
    ·exact L y (Kb h)
  ·intro k i j;rw [wB,hT,ht,gW,eW];simp [Tn]
 ·rintro ρ M2 ⟨qs,o5,o6,o7,o8,rfl,x2,e2,F5,L,hT⟩;dsimp only;walk_at "st";refine Y x2.box (by lia) (by lia) fun v M3 v0 v1 x3 => ?_
  have e3:=x3.keep pf _ G e2;have x3:=x2.trans x3;clear e1 x1 e2 x2;refine ⟨_,rfl,by lia,by lia, ?_⟩
  refine aP (f:=fun i=>D.int (i:Nat)) (ys:=Hz v.toNat) (I:=fun l ρ M' => ∃ qs o5 o6 o7 o8 o9 Fb Fc Fd Fe Ff, ρ = [some (.ref b),some (.tup [y0,y1,y2]),some (.ref pp),some (.int most),some (.ref pf),o5,o6,o7,o8,o9,Fb,Fc,Fd,Fe,Ff]/\Bx b M M'/\M' pf=some (.lst (qs.map prD))/\qs.length=ps.length+l.length/\(∀ p∈qs,Dr (B+2*l.length) L0 L1 L2 p) /\ ∀ k i j,Tn qs k i j=Tn ps k i j) aG ⟨qs,_,_,_,_,_,_,_,_,_,_,rfl,x3,e3,F5,fun p U=>(L p U).mono (by simp),hT⟩ (fun _ _ _ _=>trivial) ?_ ?_
  ·rintro l t r ρ M4 e ⟨qs,o5,o6,o7,o8,o9,Fb,Fc,Fd,Fe,Ff,rfl,x4,e4,F5,L,hT⟩;refine ⟨_,rfl,fun F hF => ?_⟩;have Fl:=al e;rw [HQ] at Fl;have Fv : 1<=ps.length:=by
    cases ps with
    | nil=>exact absurd rfl Fj
    | cons _ _=>simp
   walk_at "st";refine fA e4 ?_;rw [q7];refine Y x4.box (by lia) (by lia) fun a M5 a0 a1 x5 => ?_
   have e5:=x5.keep pf _ G e4;have x5:=x4.trans x5;clear e4 x4;obtain ⟨a,rfl⟩:∃ k:Nat,a=k:=⟨a.toNat,by lia⟩
   obtain ⟨p,U⟩:∃ p,qs[a]? = some p:=⟨_,z4 (by lia)⟩
   have Fq:=HH U;have hd:=L p Fq;have F6:atI (qs.map prD) ((a:Nat):Int)=some (prD p):=iA (by rw [HM,U];rfl)
   walk_at "st";refine av e5 F6 ?_;refine ⟨_,rfl, ?_⟩;walk_at "st";refine Y x5.box (by decide) (by decide) fun c M6 c0 c1 x6 => ?_
   have e6:=x6.keep pf _ G e5;have x6:=x5.trans x6;clear e5 x5;obtain ⟨c,rfl⟩:∃ k:Nat,c=k:=⟨c.toNat,by lia⟩
   have O:c < 3:=by lia
   have Fm:(pAt p c).length<=1000:=by
    have:=hd.l0;have:=hd.l1;have:=hd.l2
    match c,O with
    | 0,_=>show p.1.length<=_;lia
    | 1,_=>show p.2.1.length<=_;lia
    | 2,_=>show p.2.2.length<=_;lia
   walk_at "st";refine av e6 F6 ?_;refine ⟨_,_,rfl,wF O,_,rfl, ?_⟩;refine BB Y x6.box Fm fun m ρ M7 Fg Fn x7 p7 hp7 => ?_;have e7:=x7.keep pf _ G e6;have x7:=x6.trans x7;refine ⟨_,_,rfl,ad aa, ?_⟩;have g8:=Ge.new (o := .lst (m.map .int)) hp7;have e8:=g8 _ _ e7;have x8:=x7.ge g8;generalize ag M7 p7 (.lst (m.map .int))=M8 at g8 e8 x8 ⊢;clear e6 x6 e7 x7 g8 hp7;walk_at "st";refine av e8 F6 ?_;refine ⟨_,_,rfl,wF O,_,rfl, ?_⟩;refine BC Fm rfl fun ρ p9 hp9 => ?_;refine ⟨_,_,rfl,ad aa, ?_⟩;have g9:=Ge.new (o := .lst ((aS (pAt p c) m).map .int)) hp9;have e9:=g9 _ _ e8;have x9:=x8.ge g9;generalize ag M8 p9 (.lst ((aS (pAt p c) m).map .int))=M9 at g9 e9 x9 ⊢;clear e8 x8 g9 hp9;walk_at "st";refine av e9 F6 ?_;refine rS O ⟨by rw [tv];lia, .inr trivial,by rw [tv,HD,iE,HI];lia, ?_⟩
   refine av e9 F6 ?_;refine rT O ⟨.inr trivial,by rw [tv,D0,HD,J7,iE,HI];lia, ?_⟩
   rw [rV O];refine bZ e9 (j:=a) (by rw [q7];unfold ixN;rw [if_pos (by lia),if_pos (by lia),HX]) ?_
   have Fh:Bx b M (ag M9 pf (.lst ((qs.map prD).set a (prD (cN p (aS (pAt p c) m) c))))):=x9.upd Z G;have F7:ag M9 pf (.lst ((qs.map prD).set a (prD (cN p (aS (pAt p c) m) c)))) pf=some (.lst ((qs.set a (cN p (aS (pAt p c) m) c)).map prD)):=by rw [aa,List.map_set]
   generalize ag M9 pf (.lst ((qs.map prD).set a (prD (cN p (aS (pAt p c) m) c))))=M10 at Fh F7 ⊢;clear e9 x9;have Fo:∀ k i j,Tn (qs.set a (cN p (aS (pAt p c) m) c)) k i j+tm (cN p m c) k i j=Tn ps k i j:=fun k i j=>by
    have h1:=Dv (p:=p) (m:=m) (s:=c) (k:=k) (i:=i) (j:=j) Fg.symm;rw [wD U,hT, <- h1];lia
   have Fi:∀ y∈qs.set a (cN p (aS (pAt p c) m) c),Dr (B+2*(l++[t]).length) L0 L1 L2 y:=fun y hy=>by
    have F9:B+2*l.length<=B+2*(l++[t]).length:=by rw [D0,HI];lia
    rcases List.mem_or_eq_of_mem_set hy with h | h
    ·exact (L y h).mono F9
    ·rw [h];refine (hd.mono F9).set (zm Fg.symm) ?_;have:=(hd.at (s:=c)).less Fn;exact this.mono (by rw [D0,HI];lia)
   have Fs:Dr (B+2*(l++[t]).length) L0 L1 L2 (cN p m c):=by
    have F9:B+2*l.length<=B+2*(l++[t]).length:=by rw [D0,HI];lia
    exact (hd.mono F9).set Fg (Fn.mono (by rw [D0,HI];lia))
   have Ft:(qs.set a (cN p (aS (pAt p c) m) c)).length=qs.length:=QI;generalize qs.set a (cN p (aS (pAt p c) m) c)=us at Fo Fi Ft F7;walk_at "st";refine ⟨by rw [tv];lia, ?_⟩
   refine rS O ⟨by rw [tv];lia, .inr trivial,by rw [tv,HD,iE,HI];lia, ?_⟩
   refine ⟨by rw [tv];lia, ?_⟩
   refine rT O ⟨.inr trivial,by rw [tv,D0,HD,J7,iE,HI];lia, ?_⟩
   rw [rV O];walk_at "st";refine ⟨⟨_,F7⟩,fA F7 ?_⟩;walk_at "wp";rw [q7];refine Y Fh.box (by lia) (by lia) fun w Fw w0 w1 Fa => ?_
   have Fu:=Fa.keep pf _ G F7;have Fa:=Fh.trans Fa;refine ⟨_,_,_,_,rfl,rfl,Fu,w0,by rw [q7];lia,by rw [q7,tv];lia, ?_⟩
   refine hF _ _ ⟨us.take w.toNat++cN p m c::us.drop w.toNat,_,_,_,_,_,_,_,_,_,_,rfl,Fa.upd Z G, ?_, ?_, ?_, ?_⟩
   ·rw [aa,IV,HE,P7,P9]
   ·rw [D0,Ic,HD,J7,D0,HI];lia
   ·intro y hy
    rcases Hv.mp hy with h | h
    ·exact Fi y (Kc h)
    ·rcases Ho.mp h with rfl | h
     ·exact Fs
     ·exact Fi y (Kb h)
   ·intro k i j;rw [wB,Fo]
  ·rintro ρ M4 ⟨qs,o5,o6,o7,o8,o9,Fb,Fc,Fd,Fe,Ff,rfl,x4,e4,F5,L,hT⟩;dsimp only;rw [HQ] at F5 L;walk_at "st";refine ⟨_,_,rfl,rfl,by rw [tv];lia, .inr trivial,by rw [tv];simp, ?_⟩
   refine q qs pf M4 (fun p U=>(L p U).mono (by lia)) (by lia) (fun z => ?_) hT x4 Z G e4
   subst z
   cases ps with
   | nil=>exact Fj rfl
   | cons _ _=>rw [Jw,Ic] at F5;lia
end
section
open PySem PySem.Spec PyProof.Rows L2.Srt
variable {T:List FD}
noncomputable def eX (xv:Str) (s:Stmt):FD:=⟨"_law_lengths_of",s,[xv],1,
 (.cons (.ret (.tup (.cons (.bin .mul (.ix (.var 0) (.int 0)) (.ix (.var 0) (.int 1))) (.cons (.bin .mul (.ix (.var 0) (.int 1)) (.ix (.var 0) (.int 2))) (.cons (.bin .mul (.ix (.var 0) (.int 0)) (.ix (.var 0) (.int 2))) .nil)))))
 .nil)⟩
theorem tY {f:Nat} {xv:Str} {s:Stmt} (hf:T[f]? = some (eX xv s)) {n:Nat} (j : 1<=n) {x y z:Nat} (hx:x<=1000) (B:y<=1000) {M:Mem} {Q:QD} (q:Q (.tup [.int (x*y:Nat), .int (y*z:Nat), .int (x*z:Nat)]) M):phi T n f [.tup [.int x, .int y, .int z]] M Q:=by
 refine aq (by lia) hf rfl (ρ := [some _]) rfl ?_
 unfold eX;walk_at "st";refine ⟨_,rfl,_,rfl,dk (by lia),_,rfl,_,rfl,dk (by lia),_,rfl,_,rfl,dk (by lia),by rw [tv];lia, ?_⟩
 rw [K7,K7,K7] at q;exact q
noncomputable def iF (s:Stmt):FD:=⟨"_law_seven",s,[],0,
 (.cons (.ret (.lst (.cons (.tup (.cons (.tup (.cons (.int 1) (.cons (.int 0) (.cons (.int 0) (.cons (.int 1) .nil))))) (.cons (.tup (.cons (.int 1) (.cons (.int 0) (.cons (.int 0) (.cons (.int 1) .nil))))) (.cons (.tup (.cons (.int 1) (.cons (.int 0) (.cons (.int 0) (.cons (.int 1) .nil))))) .nil)))) (.cons (.tup (.cons (.tup (.cons (.int 0) (.cons (.int 0) (.cons (.int 1) (.cons (.int 1) .nil))))) (.cons (.tup (.cons (.int 1) (.cons (.int 0) (.cons (.int 0) (.cons (.int 0) .nil))))) (.cons (.tup (.cons (.int 0) (.cons (.int 0) (.cons (.int 1) (.cons (.neg (.int 1)) .nil))))) .nil)))) (.cons (.tup (.cons (.tup (.cons (.int 1) (.cons (.int 0) (.cons (.int 0) (.cons (.int 0) .nil))))) (.cons (.tup (.cons (.int 0) (.cons (.int 1) (.cons (.int 0) (.cons (.neg (.int 1)) .nil))))) (.cons (.tup (.cons (.int 0) (.cons (.int 1) (.cons (.int 0) (.cons (.int 1) .nil))))) .nil)))) (.cons (.tup (.cons (.tup (.cons (.int 0) (.cons (.int 0) (.cons (.int 0) (.cons (.int 1) .nil))))) (.cons (.tup (.cons (.neg (.int 1)) (.cons (.int 0) (.cons (.int 1) (.cons (.int 0) .nil))))) (.cons (.tup (.cons (.int 1) (.cons (.int 0) (.cons (.int 1) (.cons (.int 0) .nil))))) .nil)))) (.cons (.tup (.cons (.tup (.cons (.int 1) (.cons (.int 1) (.cons (.int 0) (.cons (.int 0) .nil))))) (.cons (.tup (.cons (.int 0) (.cons (.int 0) (.cons (.int 0) (.cons (.int 1) .nil))))) (.cons (.tup (.cons (.neg (.int 1)) (.cons (.int 1) (.cons (.int 0) (.cons (.int 0) .nil))))) .nil)))) (.cons (.tup (.cons (.tup (.cons (.neg (.int 1)) (.cons (.int 0) (.cons (.int 1) (.cons (.int 0) .nil))))) (.cons (.tup (.cons (.int 1) (.cons (.int 1) (.cons (.int 0) (.cons (.int 0) .nil))))) (.cons (.tup (.cons (.int 0) (.cons (.int 0) (.cons (.int 0) (.cons (.int 1) .nil))))) .nil)))) (.cons (.tup (.cons (.tup (.cons (.int 0) (.cons (.int 1) (.cons (.int 0) (.cons (.neg (.int 1)) .nil))))) (.cons (.tup (.cons (.int 0) (.cons (.int 0) (.cons (.int 1) (.cons (.int 1) .nil))))) (.cons (.tup (.cons (.int 1) (.cons (.int 0) (.cons (.int 0) (.cons (.int 0) .nil))))) .nil)))) .nil)))))))))
 .nil)⟩
theorem wG {f:Nat} {s:Stmt} (hf:T[f]? = some (iF s)) {n:Nat} (j : 1<=n) {M:Mem} {Q:QD} (q:∀ p,M p=none->Q (.ref p) (ag M p (.lst (seven.map prD)))):phi T n f [] M Q:=by
 refine aq (by lia) hf rfl (ρ := []) rfl ?_
 unfold iF;have z : 0+1+1+1+1<=Hj:=by rw [tv];lia
 have B : 0+1+1+1<=Hj:=by rw [tv];lia
 have F : 0+1+1+1+1+1+1+1<=Hj:=by rw [tv];lia
 walk_at "st"
 repeat refine ⟨by assumption, ?_⟩
 exact q
def rW (T:List FD) (k f:Nat):Prop := ∀ {n m p:Nat} {M:Mem} {Q:QD},n<=50->m<=50->p<=50->(∀ (L:List Tm) d M',L.Perm (bP n m p)->Ge M M'->M d=none->M' d=some (.dct true (L.map kcD))->Q (.ref d) M')->phi T k f [.tup [.int n, .int m, .int p]] M Q
def mW (T:List FD) (n f:Nat):Prop := ∀ {b:Addr} {L0 L1 L2 most:Nat} {B:Int},(1<=B/\B<=100)->L0<=100->L1<=100->L2<=100->most<=20 -> ∀ {ps:List Pr},(∀ p∈ps,Dr B L0 L1 L2 p)->ps≠[]->ps.length<=10000 -> ∀ {y0 y1 y2:D} {pp:Addr} {M:Mem} {Q:QD},Box b M->pp≠b->M pp=some (.lst (ps.map prD)) ->
 (∀ (qs:List Pr) pf M',(∀ p∈qs,Dr (B+2*most) L0 L1 L2 p)->qs.length<=ps.length+most->qs≠[]->(∀ k i j,Tn qs k i j=Tn ps k i j)->Bx b M M'->M pf=none->pf≠b->M' pf=some (.lst (qs.map prD))->Q (.tup [y0,y1,y2, .ref pf]) M') ->
 phi T n f [.ref b, .tup [y0,y1,y2], .ref pp, .int most] M Q
def mX (T:List FD) (cap n f:Nat):Prop := ∀ {L0 L1 L2:Nat},L0<=1000->L1<=1000->L2<=1000 -> ∀ {L:List Tm},(L.map (·.1)).Nodup->L.length<=1000000->L.length<=cap -> ∀ {d:Addr} {M:Mem} {Q:QD},M d=some (.dct true (L.map kcD)) ->
 (∀ (rs:List Tm) p M',rs.Perm L->Ge M M'->M p=none->M' p=some (.lst ((rs.map (plP L0 L1 L2)).map prD))->Q (.ref p) M')->phi T n f [.tup [.int L0, .int L1, .int L2], .ref d] M Q
noncomputable def jo (xv:Str) (s:Stmt) (ft fd fv fl fp fs:Nat):FD:=⟨"_law_tables",s,["_law_box_here",xv, "_law_most", "_law_lengths"],3,
 (.cons (.ite (.and (.cons (.cmp .eq (.var 1) (.tup (.cons (.int 2) (.cons (.int 2) (.cons (.int 2) .nil))))) (.cons (.cmp .eq (.call ft (.cons (.var 0) (.cons (.int 2) .nil))) (.int 0)) .nil))) (.cons (.ret (.call fd (.cons (.var 0) (.cons (.tup (.cons (.int 4) (.cons (.int 4) (.cons (.int 4) .nil)))) (.cons (.call fv .nil) (.cons (.var 2) .nil))))))
 .nil) .nil)
 (.cons (.asg (.name 3) (.call fl (.cons (.var 1) .nil)))
 (.cons (.ret (.call fd (.cons (.var 0) (.cons (.var 3) (.cons (.call fp (.cons (.var 3) (.cons (.call fs (.cons (.var 1) .nil)) .nil))) (.cons (.var 2) .nil))))))
 .nil)))⟩
theorem zn:∀ p∈seven,Dr 1 4 4 4 p:=by
 intro p j;have h:∀ p∈seven,(p.1.length=4/\p.2.1.length=4/\p.2.2.length=4)/\(∀ x∈p.1, -1<=x/\x<=1)/\(∀ x∈p.2.1, -1<=x/\x<=1)/\(∀ x∈p.2.2, -1<=x/\x<=1):=by decide
 obtain ⟨⟨a,b,c⟩,d,e,g⟩:=h p j;exact ⟨a,b,c,d,e,g⟩
theorem qe {L:Nat} {k:Int}:Within 1 (one L k):=fun x hx=>by
 unfold one at hx;obtain ⟨h,_,rfl⟩:=HF.mp hx
 split <;> lia
theorem gj {n m p:Nat}:(bP n m p).length=n*(m*p):=by unfold bP;rw [Bu,HQ]
theorem rX {n m p:Nat} {t:Tm} (h:t∈bP n m p):(0<=t.1.1/\t.1.1 < (n*p:Nat))/\(0<=t.1.2.1/\t.1.2.1 < (n*m:Nat))/\(0<=t.1.2.2/\t.1.2.2 < (m*p:Nat)):=by
 obtain ⟨a,b,c,j,q,z,rfl⟩:=fG h;have h1:=kC j z;have h2:=kC j q;have B:=kC q z;unfold ck;dsimp only;lia
theorem Dw {L0 L1 L2:Nat} {t:Tm} (h:t.2=1):Dr 1 L0 L1 L2 (plP L0 L1 L2 t):=by
 refine ⟨iC,iC,by unfold plP;rw [q7];exact iC,qe,qe,fun x hx => ?_⟩
 unfold plP at hx;dsimp only at hx;rw [h] at hx;obtain ⟨y,j,rfl⟩:=HF.mp hx;have:=qe y j;lia
theorem wH {cap f ft fd fv fl fp fs:Nat} {xv:Str} {s sv sl:Stmt} (hf:T[f]? = some (jo xv s ft fd fv fl fp fs)) {n:Nat} (F6:fB T (n - 1) ft) (F5:mW T (n - 1) fd) (F7:T[fv]? = some (iF sv)) (F8:T[fl]? = some (eX xv sl)) (F9:mX T cap (n - 1) fp) (Fa:rW T (n - 1) fs) (hn : 2<=n) {b:Addr} {x y z most:Nat} (hx : 1<=x/\x<=50) (hy : 1<=y/\y<=50) (hz : 1<=z/\z<=50) (h1:x*y<=100) (h2:y*z<=100) (h3:x*z<=100) (h4:x*(y*z)<=10000) (h5:x*(y*z)<=cap) (hm:most<=20) {M:Mem} {Q:QD} (hb:Box b M)
 (q:∀ (qs:List Pr) pf M',(∀ p∈qs,Dr (1+2*most) (x*y) (y*z) (x*z) p)->qs.length<=x*(y*z)+most->(∀ k i j,Tn qs k i j=cf (bP x y z) (k,i,j))->Bx b M M'->M pf=none->pf≠b->M' pf=some (.lst (qs.map prD))->Q (.tup [.int (x*y:Nat), .int (y*z:Nat), .int (x*z:Nat), .ref pf]) M') :
 phi T n f [.ref b, .tup [.int x, .int y, .int z], .int most] M Q:=by
 have bne:∀ {M':Mem} {p:Addr},Box b M'->M' p=none->p≠b:=fun Fb Y w=>by obtain ⟨_,_,_,e⟩:=Fb;rw [<- w,Y] at e;cases e
 refine aq (by lia) hf rfl (ρ := [some _,some _,some _,none]) rfl ?_
 unfold jo;refine dq (fun ρ M' => ρ = [some (.ref b),some (.tup [.int x, .int y, .int z]),some (.int most),none]/\Bx b M M') (fun R hR => ?_) ?_
 ·walk_at "wp";refine ⟨by rw [tv];lia, .tuple [.int x, .int y, .int z], .tuple [.int 2, .int 2, .int 2],rfl,rfl, ?_⟩
  refine ⟨_,rfl, ?_⟩
  by_cases h:x=2/\y=2/\z=2
  ·obtain ⟨rfl,rfl,rfl⟩:=h;rw [if_pos (by rfl)]
   refine F6 hb (by decide) (by decide) fun v M1 _ _ Z => ?_
   walk_at "wp"
   by_cases hv:v=0
   ·rw [if_pos (by simp [hv])]
    walk_at "st";refine ⟨by rw [tv];lia, ?_⟩
    refine wG F7 (by lia) fun p Y => ?_
    have g2:=Ge.new (o := .lst (seven.map prD)) Y;have e2:=aa (M:=M1) (a:=p) (o := .lst (seven.map prD));generalize ag M1 p (.lst (seven.map prD))=M2 at g2 e2 ⊢;have x2:=Z.ge g2;refine F5 (B := 1) (by lia) (by lia) (by lia) (by lia) hm zn (by simp [seven]) (by simp [seven]) x2.box (bne Z.box Y) e2 fun qs pf M3 hq J Fc O x3 U F e3 => ?_
    refine q qs pf M3 hq (by simp [seven] at J;lia) (fun k i j => ?_) (x2.trans x3) (x2.none U F) F e3
    rw [O,zk]
   ·rw [if_neg (by simp [hv])]
    exact hR _ _ ⟨rfl,Z⟩
  ·rw [if_neg]
   ·exact hR _ _ ⟨rfl,Bx.refl hb⟩
   ·intro w;simp [Im,IW] at w;exact h (by lia)
 ·rintro ρ M1 ⟨rfl,Z⟩;walk_at "st";refine tY F8 (by lia) (by lia) (by lia) ?_
  walk_at "st";refine Fa (by lia) (by lia) (by lia) fun L d M2 hL g2 hd e2 => ?_
  have Fd:(L.map (·.1)).Nodup:=(hL.map _).nodup_iff.mpr cQ;have hlen:=hL.length_eq;rw [gj] at hlen;refine F9 (by lia) (by lia) (by lia) Fd (by lia) (by lia) e2 fun rs p M3 Fe g3 Y e3 => ?_
  have x3:=Z.ge (g2.trans g3);have Ff:=bne (Z.ge g2).box Y;have G:=Fe.trans hL;refine F5 (B := 1) (by lia) h1 h2 h3 hm (ps:=rs.map (plP (x*y) (y*z) (x*z))) ?_ ?_ ?_ x3.box Ff e3 fun qs pf M4 hq J Fc O x4 U F e4 => ?_
  ·intro u hu;obtain ⟨t,ht,rfl⟩:=HF.mp hu;obtain ⟨a,b',c,_,_,_,rfl⟩:=fG (G.mem_iff.mp ht);exact Dw rfl
  ·intro w;have:=congrArg Ku w;rw [q7,G.length_eq,gj,Jw] at this;have : 1*(1*1)<=x*(y*z):=Jt hx.1 (Jt hy.1 hz.1);lia
  ·rw [q7,G.length_eq,gj];lia
  ·refine q qs pf M4 hq (by rw [q7,G.length_eq,gj] at J;exact J) (fun k i j => ?_) (x3.trans x4) (x3.none U F) F e4
   rw [O,qc fun t ht=>rX (G.mem_iff.mp ht)];exact rG G
end
section
open PySem PySem.Spec PyProof.Rows L2.Srt
theorem cj {a b m:Nat} (j:b < m):(a*m+b) % m=b:=by
 rw [Nat.add_comm,Nat.add_mul_mod_self_right,Nat.mod_eq_of_lt j]
theorem tZ {n m i:Nat} (h:i < n*m):∃ a b,a < n/\b < m/\i=a*m+b:=by
 have hm : 0 < m:=by
  rcases Nat.eq_zero_or_pos m with z | z
  ·rw [z] at h;simp at h
  ·exact z
 exact ⟨i / m,i % m,Nat.div_lt_of_lt_mul (by rw [MB];exact h),Nat.mod_lt _ hm,by rw [MB];exact (Nat.div_add_mod i m).symm⟩
theorem wJ {n m p x x' y y' z z':Nat} (hx:x < n) (O:x' < n) (G:y < m) (U:y' < m) (J:z < p) (j:z' < p):cf (bP n m p) (((x*p+z:Nat):Int),((x'*m+y:Nat):Int),((y'*p+z':Nat):Int))=if x=x'/\y=y'/\z=z' then 1 else 0:=by
 by_cases h:x=x'/\y=y'/\z=z'
 ·obtain ⟨rfl,rfl,rfl⟩:=h;rw [if_pos ⟨rfl,rfl,rfl⟩];have hm:ck m p x y z∈bP n m p:=by
   unfold bP eZ;exact JV.mpr ⟨x,Ia.mpr hx,JV.mpr ⟨y,Ia.mpr G,HS (Ia.mpr J)⟩⟩
  exact fE cQ hm
 ·rw [if_neg h];refine eB fun t Y e=>h ?_;obtain ⟨a,b,c,Z,L,F,rfl⟩:=fG Y;unfold ck at e;have e1:=congrArg (fun q:K3=>q.1) e;have e2:=congrArg (fun q:K3=>q.2.1) e;have B:=congrArg (fun q:K3=>q.2.2) e;dsimp only at e1 e2 B;have e1:=Lw.inj e1;have e2:=Lw.inj e2;have B:=Lw.inj B;have a1:a=x:=by rw [<- bK (a:=a) F,e1,bK J]
  have a2:c=z:=by rw [<- cj (a:=a) F,e1,cj J]
  have a3:a=x':=by rw [<- bK (a:=a) L,e2,bK G]
  have a4:b=y:=by rw [<- cj (a:=a) L,e2,cj G]
  have a5:b=y':=by rw [<- bK (a:=b) F,B,bK j]
  have a6:c=z':=by rw [<- cj (a:=b) F,B,cj j]
  lia
theorem u5 {n m p:Nat} {k i j:Int} (h : ¬ ((0<=k/\k < (n*p:Nat))/\(0<=i/\i < (n*m:Nat))/\(0<=j/\j < (m*p:Nat)))):cf (bP n m p) (k,i,j)=0:=eB fun t q e=>h (by
 have:=rX q;rw [e] at this;exact this)
theorem wK {F:Pr->Pr} {k i j k' i' j':Int} (h:∀ u,tm (F u) k i j=tm u k' i' j'):∀ {us:List Pr},Tn (us.map F) k i j=Tn us k' i' j'
 | [] => rfl
 | u::us=>by rw [HE,eW,eW,h,wK h]
end
section
open PySem PySem.Spec PyProof.Rows L2.Srt
variable {T:List FD}
theorem u6 {α β:Type} {f g : α -> List β} {l:List α} (h:∀ x∈l,f x=g x):l.flatMap f=l.flatMap g:=by
 rw [Qu,Qu,IE h]
end
section
open PySem PySem.Spec PyProof.Rows L2.Srt
variable {T:List FD}
noncomputable def tp (R C t f W:Nat):List Nat:=(Hz R).flatMap fun a=>(Hz C).map fun b=>(t+a)*W+(f+b)
theorem wL {R C t f W:Nat}:tp R C t f W=(Hz (R*C)).map fun i=>(t+i / C)*W+(f+i % C):=by
 rw [wy];unfold tp;refine u6 fun a _=>IE fun b j => ?_;rw [bK (Ia.mp j),cj (Ia.mp j)]
theorem wM {R C t f W:Nat}:(tp R C t f W).length=R*C:=by rw [wL];simp
theorem Es {R C t f H W:Nat} (h1:t+R<=H) (h2:f+C<=W):∀ x∈tp R C t f W,x < H*W:=by
 intro x hx;unfold tp at hx;simp only [JV,HF,Ia] at hx;obtain ⟨a,j,b,q,rfl⟩:=hx;exact kC (show t+a < H by lia) (show f+b < W by lia)
end
section
variable {T:List FD}
noncomputable def fJ (y:Str) (s:Stmt) (f:Nat):FD:=⟨"_law_same",s,["_law_found",y],2,
 (.cons (.ite (.tru (.isin2 (.var 1) "list" "tuple")) (.cons (.ite (.or (.cons (.cmp .ne (.isin (.var 1) "list") (.isin (.var 0) "list")) (.cons (.cmp .ne (.isin (.var 1) "tuple") (.isin (.var 0) "tuple")) .nil))) (.cons (.ret (.bl false))
 .nil) .nil)
 (.cons (.ret (.and (.cons (.cmp .eq (.blt .len (.cons (.var 0) .nil)) (.blt .len (.cons (.var 1) .nil))) (.cons (.blt .all (.cons (.comp [none,(some 0),(some 1)] ["_law_k", "_law_found",y] (.last (.rng1 (.blt .len (.cons (.var 1) .nil))) (.name 0) .nil (.call f (.cons (.ix (.var 1) (.var 0)) (.cons (.ix (.var 2) (.var 0)) .nil))))) .nil)) .nil))))
 .nil)) .nil)
 (.cons (.ret (.and (.cons (.isin (.var 0) "int") (.cons (.not (.isin (.var 0) "bool")) (.cons (.cmp .eq (.var 0) (.var 1)) .nil)))))
 .nil))⟩
theorem A4 {M:Mem} {x d:D} {ds:List D} {i:Int} {Q:QD} (h:aw M x=some ds) (e:atI ds i=some d) (q:Q d M):wIx x (.int i) M Q:=by
 cases x with
 | ref a =>
   simp only [aw] at h
   split at h
   ·next e0=>cases h;exact av e0 e q
   ·cases h
 | tup es=>cases h;exact ⟨i,d,rfl,e,q⟩
 | con es=>cases h;exact ⟨i,d,rfl,e,q⟩
 | _=>cases h
noncomputable def Sm (M:Mem):Nat->D->D->Prop
 | _, .int i, .int j=>i=j
 | n+1, .tup ds, .tup es=>ds.length<=100000/\ds.length=es.length /\ ∀ (k:Nat) d e,ds[k]? = some d->es[k]? = some e->Sm M n d e
 | n+1, .ref a, .ref b => ∃ ds es,M a=some (.lst ds)/\M b=some (.lst es)/\ds.length<=100000/\ds.length=es.length /\ ∀ (k:Nat) d e,ds[k]? = some d->es[k]? = some e->Sm M n d e
 | _,_,_=>False
theorem Sm.ge {M M':Mem} (g:Ge M M'):∀ {n:Nat} {x y:D},Sm M n x y->Sm M' n x y:=by
 intro n
 induction n with
 | zero=>intro x y h;cases x <;> cases y <;> first | exact h.elim | exact h
 | succ n ih =>
   intro x y h
   cases x <;> cases y <;> first
    | exact h.elim
    | (obtain ⟨ds,es,e1,e2,z,l,q⟩:=h;exact ⟨ds,es,g _ _ e1,g _ _ e2,z,l,fun k d e h1 h2=>ih (q k d e h1 h2)⟩)
    | (obtain ⟨z,l,q⟩:=h;exact ⟨z,l,fun k d e h1 h2=>ih (q k d e h1 h2)⟩)
    | exact h
theorem Sm.int {M:Mem} {n:Nat} {i:Int}:Sm M n (.int i) (.int i):=by unfold Sm;cases n <;> rfl
section
variable {f:Nat} {y:Str} {s:Stmt}
theorem qf (hf:T[f]? = some (fJ y s f)) {n:Nat} (j : 1<=n) {x:Int} {M:Mem} {Q:QD} (q:Q (.bl true) M):phi T n f [.int x, .int x] M Q:=by
 refine aq (by lia) hf rfl (ρ := [some _,some _]) rfl ?_
 unfold fJ;walk_at "st";refine ⟨"int",rfl,false,rfl, ?_⟩;rw [if_neg (by decide)]
 walk_at "st";refine ⟨"int",rfl, ?_⟩;rw [if_pos (by decide)]
 refine ⟨"int",rfl, ?_⟩;rw [if_pos (by decide),beq_self_eq_true]
 exact q
theorem mY {n m:Nat} (ih:∀ {x y:D} {M:Mem} {Q:QD},Sm M n x y->(∀ M',Ge M M'->Q (.bl true) M')->phi T m f [x,y] M Q) {u v:D} {ds es:List D} {M:Mem} {N:NC} (F:aw M u=some ds) (G:aw M v=some es) (z:ds.length<=100000) (l:ds.length=es.length)
 (h:∀ (k:Nat) d e,ds[k]? = some d->es[k]? = some e->Sm M n d e) (q:∀ ρ M',Ge M M'->N ρ M' (es.map fun _ => .bl true)) :
 bo (bn 0) (bQ (wAr (phi T m f) (aH (wOp wIx (bD 1) (bD 0)) (aH (wOp wIx (bD 2) (bD 0)) bI)))) (fun _=>True) N (cv 0 (es.length:Int).toNat) [none,some u,some v] M []:=by
 refine ay (f:=fun i=>D.int (i:Nat)) (I:=fun l ρ M' acc=>(∃ o0, ρ = [o0,some u,some v])/\Ge M M'/\acc=l.map fun _ => .bl true) aG ⟨⟨_,rfl⟩,Ge.refl,rfl⟩ (fun _ _ _ _ _=>trivial) ?_ ?_
 ·rintro l' i r ρ M1 acc e ⟨⟨o0,rfl⟩,g,rfl⟩;refine ⟨_,rfl,fun N' j => ?_⟩;have B:=al e;rw [HQ] at B;have hi:i < es.length:=by
   have:i∈Hz (es.length:Int).toNat:=by rw [e];simp
   have:=Ia.mp this;lia
  walk_at "wp";have h1:ds[i]? = some ds[i]:=z4 (by lia)
  have h2:es[i]? = some es[i]:=z4 hi;refine A4 (dr F g) (iA h1) (A4 (dr G g) (iA h2) (ih ((h i _ _ h1 h2).ge g) fun M2 g2 => ?_));refine ⟨by rw [q7,tv];lia,j _ _ _ ⟨⟨_,rfl⟩,g.trans g2,by simp⟩⟩
 ·rintro ρ M1 acc ⟨⟨o0,rfl⟩,g,rfl⟩;have e:(Hz (es.length:Int).toNat).map (fun _=>D.bl true)=es.map fun _ => .bl true:=by
   rw [QO,QO];simp
  rw [e];exact q _ M1 g
theorem qg:∀ es:List D,aD j5 (es.map fun _ => .bl true)=some (es.map fun _=>true)
 | [] => rfl
 | e::es=>by rw [HE,HE];simp only [aD,j5,qg es];rfl
theorem qh {es:List D} {p:Addr} {M:Mem} {Q:QD} (q:Q (.bl true) (ag M p (.lst (es.map fun _ => .bl true)))):sW [.ref p] (ag M p (.lst (es.map fun _ => .bl true))) Q:=by
 refine ⟨_,_,es.map (fun _=>true),rfl,ad aa,qg es, ?_⟩;rw [show ((es.map fun _=>true).all id)=true by simp]
 exact q
theorem BD (hf:T[f]? = some (fJ y s f)):∀ {n m:Nat},n+1<=m -> ∀ {u v:D} {M:Mem} {Q:QD},Sm M n u v->(∀ M',Ge M M'->Q (.bl true) M')->phi T m f [u,v] M Q:=by
 intro n
 induction n with
 | zero =>
   intro m hm u v M Q h q
   cases u <;> cases v <;> first
    | exact h.elim
    | (have e:=h;unfold Sm at e;subst e;exact qf hf (by lia) (q _ Ge.refl))
 | succ n ih =>
   intro m hm u v M Q h q
   cases u <;> cases v <;> first
    | exact h.elim
    | (have e:=h;unfold Sm at e;subst e;exact qf hf (by lia) (q _ Ge.refl))
    | skip
   case tup.tup ds es =>
    obtain ⟨z,l,h⟩:=h;refine aq (by lia) hf rfl (ρ := [some _,some _]) rfl ?_
    unfold fJ;walk_at "st";refine ⟨"tuple",rfl,true,rfl, ?_⟩;rw [if_pos rfl];walk_at "st";refine ⟨"tuple",rfl, "tuple",rfl,_,_,rfl,rfl,false,rfl, ?_⟩;rw [if_neg (by decide)]
    refine ⟨"tuple",rfl, "tuple",rfl,_,_,rfl,rfl,false,rfl, ?_⟩;rw [if_neg (by decide)]
    walk_at "st";rw [if_pos (by simp [l])]
    refine ⟨by lia,by lia, ?_⟩
    exact mY (ih (m:=m - 1) (by lia)) rfl rfl z l h fun ρ M' g p hp=>qh (q _ (g.trans (Ge.new hp)))
   case ref.ref a b =>
    obtain ⟨ds,es,e1,e2,z,l,h⟩:=h;refine aq (by lia) hf rfl (ρ := [some _,some _]) rfl ?_
    unfold fJ;have t1:tyN M (.ref a)=some "list" := by simp [tyN,e1]
    have j:tyN M (.ref b)=some "list" := by simp [tyN,e2]
    walk_at "st";refine ⟨"list",j,true,rfl, ?_⟩;rw [if_pos rfl];walk_at "st";refine ⟨"list",j, "list",t1,_,_,rfl,rfl,false,rfl, ?_⟩;rw [if_neg (by decide)]
    refine ⟨"list",j, "list",t1,_,_,rfl,rfl,false,rfl, ?_⟩;rw [if_neg (by decide)]
    walk_at "st";refine lp (ad e1) (lp (ad e2) ?_);walk_at "wp";rw [if_pos (by simp [l])]
    refine lp (ad e2) ?_;refine ⟨_,rfl,by lia,by lia, ?_⟩
    exact mY (ih (m:=m - 1) (by lia)) (ad e1) (ad e2) z l h fun ρ M' g p hp=>qh (q _ (g.trans (Ge.new hp)))
end
end
section
open PySem PySem.Spec PyProof.Rows L2.Srt
theorem gZ {M:Mem} {n:Nat} {l:List Int} (j:l.length<=100000):Sm M (n+1) (.tup (l.map .int)) (.tup (l.map .int)):=by
 refine ⟨by rw [q7];exact j,rfl,fun k d e h1 h2 => ?_⟩
 rw [h1] at h2;cases h2;rw [HM] at h1;obtain ⟨i,_,rfl⟩:=KI.mp h1;exact Sm.int
theorem BE {M:Mem} {p:Pr} (h:p.1.length<=100000/\p.2.1.length<=100000/\p.2.2.length<=100000):Sm M 2 (prD p) (prD p):=by
 refine ⟨by simp,rfl,fun k d e h1 h2 => ?_⟩
 rw [h1] at h2;cases h2;have hm:=HH h1;simp only [Ho,HZ,or_false] at hm
 rcases hm with rfl | rfl | rfl
 ·exact gZ h.1
 ·exact gZ h.2.1
 ·exact gZ h.2.2
theorem rY {M:Mem} {x y z:Int} {a b:Addr} {qs:List Pr} (j:qs.length<=100000) (q:M a=some (.lst (qs.map prD))) (B:M b=some (.lst (qs.map prD))) (h:∀ p∈qs,p.1.length<=100000/\p.2.1.length<=100000/\p.2.2.length<=100000) :
 Sm M 4 (.tup [.int x, .int y, .int z, .ref a]) (.tup [.int x, .int y, .int z, .ref b]):=by
 refine ⟨by simp,rfl,fun k d e h1 h2 => ?_⟩
 have:k=0∨k=1∨k=2∨k=3:=by
  have:=(HC.mp h1).1;simp at this;lia
 rcases this with rfl | rfl | rfl | rfl
 ·cases h1;cases h2;exact Sm.int
 ·cases h1;cases h2;exact Sm.int
 ·cases h1;cases h2;exact Sm.int
 ·cases h1;cases h2
  refine ⟨_,_,q,B,by rw [q7];exact j,rfl,fun k d e h1 h2 => ?_⟩
  rw [h1] at h2;cases h2;rw [HM] at h1;obtain ⟨p,F,rfl⟩:=KI.mp h1;exact BE (h p (HH F))
theorem Dx:∀ ns:List Int,IW (ns.map .int) (ns.map .int)=true
 | [] => rfl
 | n::ns=>by simp [IW,Im,Dx ns]
theorem zo:∀ ps:List Pr,IW (ps.map dm) (ps.map dm)=true
 | [] => rfl
 | p::ps=>by simp [IW,Im,zo ps,dm,Dx]
theorem A5 {M:Mem} {a:Addr} {ps:List Pr} (h:M a=some (.lst (ps.map prD))):rb 16 M (.ref a)=some (.list (ps.map dm)):=by rw [cG h,kB];rfl
theorem jq {a b c:Nat}:∀ {ps:List Pr},(∀ p∈ps,p.1.length<=a/\p.2.1.length<=b/\p.2.2.length<=c)->(bj ps).length<=ps.length*(a*(b*c))
 | [],_=>by simp [bj]
 | p::ps,h=>by
   rw [show bj (p::ps)=fb p++bj ps by simp [bj],D0,Ic,JC]
   have h1:=jq (ps:=ps) fun q j=>h q (by simp [j])
   obtain ⟨x,y,z⟩:=h p (by simp)
   have h2:(fb p).length<=a*(b*c):=by
    unfold fb;rw [jm];have:=pW (l:=p.1);have:=pW (l:=p.2.1);have:=pW (l:=p.2.2);exact Jt (by lia) (Jt (by lia) (by lia))
   lia
theorem iG {L:List Tm}:∀ kv∈L.map kcD, ∃ i,kv.2 = .int i:=fun kv h=>by
 obtain ⟨t,_,rfl⟩:=HF.mp h;exact ⟨t.2,rfl⟩
end
section
open PySem PySem.Spec PyProof.Rows L2.Srt
noncomputable def F3 (A B C:List Int) (t:Tm):Option Tm:=if t.1.1∈C/\t.1.2.1∈A/\t.1.2.2∈B then some (((C.idxOf t.1.1:Nat),((A.idxOf t.1.2.1:Nat):Int),((B.idxOf t.1.2.2:Nat):Int)),t.2) else none
noncomputable def bb (A B C:List Int) (rs:List Tm):List Tm:=rs.filterMap (F3 A B C)
noncomputable def at0 (xs:List Int) (i:Nat):Int:=xs.getD i 0
theorem kE {xs:List Int} {i:Nat} (h:i < xs.length):xs[i]? = some (at0 xs i):=by
 unfold at0;rw [Ih,z4 h];rfl
theorem lB {xs:List Int} {i:Nat} (h:i < xs.length):at0 xs i∈xs:=HH (kE h)
theorem qi {xs:List Int} (j:xs.Nodup) {i:Nat} (h:i < xs.length):xs.idxOf (at0 xs i)=i:=by
 have e:=kE h;rw [z4 h] at e;rw [<- Jk.inj e];exact j.idxOf_getElem i h
theorem ce {xs:List Int} {x:Int} (h:x∈xs):xs.idxOf x < xs.length/\at0 xs (xs.idxOf x)=x:=by
 have j:=ND.mpr h;refine ⟨j, ?_⟩;have e:=kE j;rw [z4 j,Pq] at e;exact (Jk.inj e).symm
end
section
namespace K21
noncomputable def ai (i:Nat):Stmt:=PySem.Challenge.pw_fewtimes_k21_schemes_cut.main.body.getD i (.Pass ⟨0,0,0,0⟩)
noncomputable def b0:MSs :=
 (.cons (.ret (.not (.blt .all (.cons (.comp [none] ["part"] (.last (.seq (.var 0)) (.name 0) .nil (.blt .any (.cons (.var 0) .nil)))) .nil))))
 .nil)
noncomputable def d0:FD:=⟨"has_noughts",ai 1,["product"],1,b0⟩
noncomputable def b1:MSs :=
 (.cons (.ret (.comp [none,none,(some 2),(some 4),(some 3),(some 1)] ["a", "b", "top", "width", "first", "columns"] (.more (.rng1 (.var 0)) (.name 0) .nil (.last (.rng1 (.var 5)) (.name 1) .nil (.bin .add (.bin .add (.bin .mul (.bin .add (.var 2) (.var 0)) (.var 3)) (.var 4)) (.var 1))))))
 .nil)
noncomputable def d1:FD:=⟨"table_places",ai 4,["rows", "columns", "top", "first", "width"],5,b1⟩
noncomputable def b2:MSs :=
 (.cons (.ret (.comp [none,none,(some 0),(some 1),(some 2)] ["row", "column", "sizes", "corner", "whole"] (.last (.seq (.glob "TABLES" (.tup [(.tup [(.int 0),(.int 1)]),(.tup [(.int 1),(.int 2)]),(.tup [(.int 0),(.int 2)])]))) (.tup (.cons (.name 0) (.cons (.name 1) .nil))) .nil (.call 1 (.cons (.ix (.var 2) (.var 0)) (.cons (.ix (.var 2) (.var 1)) (.cons (.ix (.var 3) (.var 0)) (.cons (.ix (.var 3) (.var 1)) (.cons (.ix (.var 4) (.var 1)) .nil)))))))))
 .nil)
noncomputable def d2:FD:=⟨"places_in",ai 5,["sizes", "corner", "whole"],3,b2⟩
noncomputable def b3:MSs :=
 (.cons (.asg (.name 4) (.comp [none,none,none,(some 1),(some 2),(some 3)] ["l", "r", "o", "lefts", "rights", "outs"] (.last (.seq (.ix (.var 0) (.int 3))) (.tup (.cons (.name 0) (.cons (.name 1) (.cons (.name 2) .nil)))) .nil (.tup (.cons (.blt .tuple (.cons (.comp [none,(some 0)] ["i", "l"] (.last (.seq (.var 3)) (.name 0) .nil (.ix (.var 1) (.var 0)))) .nil)) (.cons (.blt .tuple (.cons (.comp [none,(some 1)] ["j", "r"] (.last (.seq (.var 4)) (.name 0) .nil (.ix (.var 1) (.var 0)))) .nil)) (.cons (.blt .tuple (.cons (.comp [none,(some 2)] ["k", "o"] (.last (.seq (.var 5)) (.name 0) .nil (.ix (.var 1) (.var 0)))) .nil)) .nil)))))))
 (.cons (.ret (.tup (.cons (.blt .len (.cons (.var 1) .nil)) (.cons (.blt .len (.cons (.var 2) .nil)) (.cons (.blt .len (.cons (.var 3) .nil)) (.cons (.comp [none] ["product"] (.last (.seq (.var 4)) (.name 0) (.cons (.not (.tru (.call 0 (.cons (.var 0) .nil)))) .nil) (.var 0))) .nil))))))
 .nil))
noncomputable def d3:FD:=⟨"cut",ai 6,["scheme", "lefts", "rights", "outs", "products"],4,b3⟩
noncomputable def b4:MSs :=
 (.cons (.asgL (.cons (.name 3) (.cons (.name 4) (.cons (.name 5) .nil))) (.call 2 (.cons (.var 2) (.cons (.tup (.cons (.int 0) (.cons (.int 0) (.cons (.int 0) .nil)))) (.cons (.var 1) .nil)))))
 (.cons (.ret (.call 3 (.cons (.var 0) (.cons (.var 3) (.cons (.var 4) (.cons (.var 5) .nil))))))
 .nil))
noncomputable def d4:FD:=⟨"tables_cut",ai 7,["scheme", "sizes", "less", "lefts", "rights", "outs"],3,b4⟩
noncomputable def d5:FD:=kA (ai 9)
noncomputable def d6:FD:=ln (ai 10)
noncomputable def d7:FD:=tP (ai 11) 5 6
noncomputable def d8:FD:=pQ (ai 12) 6
noncomputable def d9:FD:=jj (ai 13) 8
noncomputable def d10:FD:=pS (ai 14) 9
noncomputable def d11:FD:=jk (ai 15) 8 10
noncomputable def d12:FD:=fJ "_law_due_here" (ai 16) 12
noncomputable def d13:FD:=gT "_law_part_here" "_law_number_here" (ai 17)
noncomputable def d14:FD:=pZ "_law_scheme_here" (ai 18) 13
noncomputable def d15:FD:=lr "_law_sizes" (ai 19)
noncomputable def d16:FD:=eX "_law_sizes" (ai 20)
noncomputable def d17:FD:=jn (ai 21)
noncomputable def d18:FD:=gX .sortk "_law_number_here" (ai 22) 17
noncomputable def d19:FD:=lu "_law_part_here" "_law_number_here" (ai 23)
noncomputable def d20:FD:=gY "_law_number_here" (ai 24) 8 19
noncomputable def d21:FD:=iF (ai 25)
noncomputable def d22:FD:=jo "_law_sizes" (ai 26) 8 20 21 16 18 15
noncomputable def b23:MSs :=
 (.cons (.asg (.name 2) (.lrng (.var 1)))
 (.cons (.asg (.name 3) (.lst .nil))
 (.cons (.for (.name 4) (.rng1 (.ix (.lst (.cons (.bin .add (.int 1) (.call 8 (.cons (.var 0) (.cons (.var 1) .nil)))) (.cons (.var 1) .nil))) (.blt .int (.cons (.cmp .eq (.call 8 (.cons (.var 0) (.cons (.int 3) .nil))) (.int 0)) .nil)))) (.cons (.drop (.meth .append (.var 3) (.meth .pop (.var 2) (.call 8 (.cons (.var 0) (.cons (.blt .len (.cons (.var 2) .nil)) .nil))))))
 .nil))
 (.cons (.ret (.var 3))
 .nil))))
noncomputable def d23:FD:=⟨"_law_some",ai 27,["_law_box_here", "_law_many", "_law_left", "_law_found", "_law_turn"],2,b23⟩
noncomputable def b24:MSs :=
 (.cons (.asg (.name 2) (.lst .nil))
 (.cons (.for (.name 3) (.seq (.ix (.var 0) (.int 3))) (.cons (.asg (.name 4) (.comp [none,(some 1),(some 3)] ["_law_side", "_law_lists", "_law_product"] (.last (.rng1 (.int 3)) (.name 0) .nil (.blt .tuple (.cons (.comp [none,(some 2),(some 0)] ["_law_at", "_law_product", "_law_side"] (.last (.seq (.ix (.var 1) (.var 0))) (.name 0) .nil (.ix (.ix (.var 1) (.var 2)) (.var 0)))) .nil)))))
 (.cons (.ite (.tru (.blt .all (.cons (.comp [none] ["_law_part_here"] (.last (.seq (.var 4)) (.name 0) .nil (.cmp .ne (.call 13 (.cons (.var 0) .nil)) (.lst .nil)))) .nil))) (.cons (.drop (.meth .append (.var 2) (.blt .tuple (.cons (.var 4) .nil))))
 .nil) .nil)
 .nil)))
 (.cons (.ret (.bin .add (.blt .tuple (.cons (.comp [none] ["_law_some_here"] (.last (.seq (.var 1)) (.name 0) .nil (.blt .len (.cons (.var 0) .nil)))) .nil)) (.tup (.cons (.var 2) .nil))))
 .nil)))
noncomputable def d24:FD:=⟨"_law_due",ai 28,["_law_scheme_here", "_law_lists", "_law_found", "_law_product", "_law_parts"],2,b24⟩
noncomputable def b25:MSs :=
 (.cons (.asg (.name 2) (.dnew true))
 (.cons (.frz 0 (.for (.tup (.cons (.name 3) (.cons (.name 4) (.cons (.name 5) .nil)))) (.keys (.var 0)) (.cons (.ite (.and (.cons (.cmp .inS (.var 3) (.ix (.var 1) (.int 2))) (.cons (.cmp .inS (.var 4) (.ix (.var 1) (.int 0))) (.cons (.cmp .inS (.var 5) (.ix (.var 1) (.int 1))) .nil)))) (.cons (.put (.var 2) (.tup (.cons (.meth .index (.ix (.var 1) (.int 2)) (.var 3)) (.cons (.meth .index (.ix (.var 1) (.int 0)) (.var 4)) (.cons (.meth .index (.ix (.var 1) (.int 1)) (.var 5)) .nil)))) (.ix (.var 0) (.tup (.cons (.var 3) (.cons (.var 4) (.cons (.var 5) .nil))))))
 .nil) .nil)
 .nil)))
 (.cons (.ret (.var 2))
 .nil)))
noncomputable def d25:FD:=⟨"_law_sums_cut",ai 29,["_law_sums_here", "_law_lists", "_law_found", "_law_k", "_law_i", "_law_j"],2,b25⟩
noncomputable def b26:MSs :=
 (.cons (.asg (.name 2) (.lst .nil))
 (.cons (.for (.tup (.cons (.name 3) (.cons (.name 4) .nil))) (.seq (.tup (.cons (.tup (.cons (.int 0) (.cons (.int 1) .nil))) (.cons (.tup (.cons (.int 1) (.cons (.int 2) .nil))) (.cons (.tup (.cons (.int 0) (.cons (.int 2) .nil))) .nil))))) (.cons (.asg (.name 5) (.lst .nil))
 (.cons (.for (.name 6) (.rng1 (.ix (.var 1) (.var 3))) (.cons (.drop (.meth .extend (.var 5) (.comp [none,(some 6),(some 0),(some 4)] ["_law_column", "_law_row", "_law_sizes", "_law_columns"] (.last (.rng1 (.ix (.var 1) (.var 4))) (.name 0) .nil (.bin .add (.bin .mul (.var 1) (.ix (.var 2) (.var 3))) (.var 0))))))
 .nil))
 (.cons (.drop (.meth .append (.var 2) (.var 5)))
 .nil))))
 (.cons (.ret (.var 2))
 .nil)))
noncomputable def d26:FD:=⟨"_law_first",ai 30,["_law_sizes", "_law_less", "_law_found", "_law_rows", "_law_columns", "_law_some_here", "_law_row"],2,b26⟩
noncomputable def b27:MSs :=
 (.cons (.asg (.name 1) (.blt .int (.cons (.cmp .eq (.call 8 (.cons (.var 0) (.cons (.int 8) .nil))) (.int 0)) .nil)))
 (.cons (.asg (.name 2) (.call 11 (.cons (.var 0) (.cons (.comp [none,(some 1),(some 0)] ["_law_side", "_law_way", "_law_box_here"] (.last (.rng1 (.int 3)) (.name 0) .nil (.bin .add (.bin .add (.int 1) (.bin .mul (.int 6) (.var 1))) (.call 8 (.cons (.var 2) (.cons (.int 6) .nil)))))) (.cons (.ix (.lst (.cons (.call 8 (.cons (.var 0) (.cons (.int 10) .nil))) (.cons (.int 12) .nil))) (.var 1)) .nil)))))
 (.cons (.asg (.name 3) (.comp [none,(some 0)] ["_law_length", "_law_box_here"] (.last (.seq (.sl (.var 2) .none (.some (.int 3)))) (.name 0) .nil (.call 23 (.cons (.var 1) (.cons (.var 0) .nil))))))
 (.cons (.asg (.name 4) (.bin .add (.lst (.cons (.blt .list (.cons (.ix (.var 2) (.int 3)) .nil)) .nil)) (.comp [none] ["_law_some_here"] (.last (.seq (.var 3)) (.name 0) .nil (.blt .list (.cons (.var 0) .nil))))))
 (.cons (.asg (.name 5) (.call 24 (.cons (.var 2) (.cons (.var 3) .nil))))
 (.cons (.for (.name 6) (.rng1 (.int 2)) (.cons (.asg (.name 7) (.call 3 (.cons (.var 2) (.cons (.ix (.var 3) (.int 0)) (.cons (.ix (.var 3) (.int 1)) (.cons (.ix (.var 3) (.int 2)) .nil))))))
 (.cons (.ite (.not (.tru (.call 12 (.cons (.var 7) (.cons (.var 5) .nil))))) (.cons (.ret (.bl false))
 .nil) .nil)
 (.cons (.drop (.meth0 .clear (.ix (.var 7) (.int 3))))
 .nil))))
 (.cons (.ret (.and (.cons (.cmp .eq (.bin .add (.lst (.cons (.ix (.var 2) (.int 3)) .nil)) (.var 3)) (.var 4)) (.cons (.cmp .eqD (.call 14 (.cons (.var 5) .nil)) (.call 25 (.cons (.call 14 (.cons (.var 2) .nil)) (.cons (.var 3) .nil)))) .nil))))
 .nil)))))))
noncomputable def d27:FD:=⟨"_law_any_right",ai 31,["_law_box_here", "_law_way", "_law_scheme_here", "_law_lists", "_law_kept", "_law_due_here", "_law_turn", "_law_found"],1,b27⟩
noncomputable def b28:MSs :=
 (.cons (.asg (.name 1) (.ix (.lst (.cons (.tup (.cons (.bin .add (.int 1) (.call 8 (.cons (.var 0) (.cons (.int 4) .nil)))) (.cons (.bin .add (.int 1) (.call 8 (.cons (.var 0) (.cons (.int 4) .nil)))) (.cons (.bin .add (.int 1) (.call 8 (.cons (.var 0) (.cons (.int 4) .nil)))) .nil)))) (.cons (.tup (.cons (.int 2) (.cons (.int 2) (.cons (.int 2) .nil)))) .nil))) (.call 8 (.cons (.var 0) (.cons (.int 2) .nil)))))
 (.cons (.asg (.name 2) (.call 22 (.cons (.var 0) (.cons (.var 1) (.cons (.int 3) .nil)))))
 (.cons (.asg (.name 3) (.blt .tuple (.cons (.comp [none,(some 0)] ["_law_size", "_law_box_here"] (.last (.seq (.var 1)) (.name 0) .nil (.bin .add (.int 1) (.call 8 (.cons (.var 1) (.cons (.var 0) .nil)))))) .nil)))
 (.cons (.asg (.name 4) (.blt .list (.cons (.ix (.var 2) (.int 3)) .nil)))
 (.cons (.asg (.name 5) (.call 24 (.cons (.var 2) (.cons (.call 26 (.cons (.var 1) (.cons (.var 3) .nil))) .nil))))
 (.cons (.for (.name 6) (.rng1 (.int 2)) (.cons (.asg (.name 7) (.call 4 (.cons (.var 2) (.cons (.var 1) (.cons (.var 3) .nil)))))
 (.cons (.ite (.not (.tru (.call 12 (.cons (.var 7) (.cons (.var 5) .nil))))) (.cons (.ret (.bl false))
 .nil) .nil)
 (.cons (.drop (.meth0 .clear (.ix (.var 7) (.int 3))))
 .nil))))
 (.cons (.ret (.and (.cons (.cmp .eqD (.call 14 (.cons (.var 5) .nil)) (.call 15 (.cons (.var 3) .nil))) (.cons (.cmp .eq (.ix (.var 2) (.int 3)) (.var 4)) .nil))))
 .nil)))))))
noncomputable def d28:FD:=⟨"_law_tables_right",ai 32,["_law_box_here", "_law_sizes", "_law_scheme_here", "_law_less", "_law_kept", "_law_due_here", "_law_turn", "_law_found"],1,b28⟩
noncomputable def b29:MSs :=
 (.cons (.for (.name 1) (.rng1 (.bin .add (.int 1) (.blt .min2 (.cons (.int 9) (.cons (.blt .len (.cons (.var 0) .nil)) .nil))))) (.cons (.asg (.name 2) (.call 7 (.cons (.var 0) (.cons (.var 1) .nil))))
 (.cons (.ite (.or (.cons (.not (.tru (.call 27 (.cons (.var 2) .nil)))) (.cons (.not (.tru (.call 28 (.cons (.var 2) .nil)))) .nil))) (.cons (.ret (.bl false))
 .nil) .nil)
 .nil)))
 (.cons (.ret (.bl true))
 .nil))
noncomputable def d29:FD:=⟨"law",ai 33,["_law_script", "_law_k", "_law_box_here"],1,b29⟩
noncomputable def tab:List FD := [d0,d1,d2,d3,d4,d5,d6,d7,d8,d9,d10,d11,d12,d13,d14,d15,d16,d17,d18,d19,d20,d21,d22,d23,d24,d25,d26,d27,d28,d29]
noncomputable def qj:List (Str×D) := [("TABLES",(.tup [(.tup [(.int 0),(.int 1)]),(.tup [(.int 1),(.int 2)]),(.tup [(.int 0),(.int 2)])]))]
theorem Et (us:List h6) (h:us.length=5):∃ a b c d e,us=[a,b,c,d,e]:=by
 cases us with
 | nil=>cases h
 | cons a us=>obtain ⟨b,c,d,e,rfl⟩:=tN us (R8.inj h);exact ⟨a,b,c,d,e,rfl⟩
end K21
end
section
namespace K21
theorem Dy:∀ d∈tab,tM (tab.map (·.name)) qj d=true:=by decide +kernel
noncomputable abbrev PA (K:Frag) (x:Str) (f:Addr):Prop:=Q5 K Jl x=some (some (.ref f))
noncomputable abbrev PL (K:Frag) (f:Addr) (x:Str) (s:Stmt) (oc:h6) (od:Option Addr) (kV dc pm:h6) (an:Option Addr) (cd ct:h6) (sl:Array (Option h6)):Prop:=K.lookup f=some ⟨oc,od, .func (KA x x (dX s) (cy s) (aB s) .none kV dc pm an cd ct),sl⟩
noncomputable abbrev PC (K:Frag) (c:h6) (x:Str):Prop:=MZ K c x=true
noncomputable abbrev PK (K:Frag) (f:Addr):Prop:=L3 K (.ref f)=true
theorem all_mk {l:Oc} {w:Ie} {K:Frag} {h:Heap} {mg:Str->Option h6} {fa:Addr} (X:K.In h) (G:h.Ns Jl mg) (hfa:mg "law" = some (.ref fa)) (z:∀ x∈bltNames,Q5 K Jl x=some none)
 (a0:PA K "has_noughts" f0) (l0:PL K f0 "has_noughts" (ai 1) oc0 od0 kV0 dc0 pm0 an0 cd0 ct0 sl0) (c0:PC K cd0 "has_noughts") (k0:PK K f0)
 (a1:PA K "table_places" f1) (l1:PL K f1 "table_places" (ai 4) oc1 od1 kV1 dc1 pm1 an1 cd1 ct1 sl1) (c1:PC K cd1 "table_places") (k1:PK K f1)
 (a2:PA K "places_in" f2) (l2:PL K f2 "places_in" (ai 5) oc2 od2 kV2 dc2 pm2 an2 cd2 ct2 sl2) (c2:PC K cd2 "places_in") (k2:PK K f2)
 (a3:PA K "cut" f3) (l3:PL K f3 "cut" (ai 6) oc3 od3 kV3 dc3 pm3 an3 cd3 ct3 sl3) (c3:PC K cd3 "cut") (k3:PK K f3)
 (a4:PA K "tables_cut" f4) (l4:PL K f4 "tables_cut" (ai 7) oc4 od4 kV4 dc4 pm4 an4 cd4 ct4 sl4) (c4:PC K cd4 "tables_cut") (k4:PK K f4)
 (a5:PA K "_law_cell_at" f5) (l5:PL K f5 "_law_cell_at" (ai 9) oc5 od5 kV5 dc5 pm5 an5 cd5 ct5 sl5) (c5:PC K cd5 "_law_cell_at") (k5:PK K f5)
 (a6:PA K "_law_mixed" f6) (l6:PL K f6 "_law_mixed" (ai 10) oc6 od6 kV6 dc6 pm6 an6 cd6 ct6 sl6) (c6:PC K cd6 "_law_mixed") (k6:PK K f6)
 (a7:PA K "_law_box" f7) (l7:PL K f7 "_law_box" (ai 11) oc7 od7 kV7 dc7 pm7 an7 cd7 ct7 sl7) (c7:PC K cd7 "_law_box") (k7:PK K f7)
 (a8:PA K "_law_take" f8) (l8:PL K f8 "_law_take" (ai 12) oc8 od8 kV8 dc8 pm8 an8 cd8 ct8 sl8) (c8:PC K cd8 "_law_take") (k8:PK K f8)
 (a9:PA K "_law_number" f9) (l9:PL K f9 "_law_number" (ai 13) oc9 od9 kV9 dc9 pm9 an9 cd9 ct9 sl9) (c9:PC K cd9 "_law_number") (k9:PK K f9)
 (a10:PA K "_law_part" f10) (l10:PL K f10 "_law_part" (ai 14) oc10 od10 kV10 dc10 pm10 an10 cd10 ct10 sl10) (c10:PC K cd10 "_law_part") (k10:PK K f10)
 (a11:PA K "_law_scheme" f11) (l11:PL K f11 "_law_scheme" (ai 15) oc11 od11 kV11 dc11 pm11 an11 cd11 ct11 sl11) (c11:PC K cd11 "_law_scheme") (k11:PK K f11)
 (a12:PA K "_law_same" f12) (l12:PL K f12 "_law_same" (ai 16) oc12 od12 kV12 dc12 pm12 an12 cd12 ct12 sl12) (c12:PC K cd12 "_law_same") (k12:PK K f12)
 (a13:PA K "_law_nonzero" f13) (l13:PL K f13 "_law_nonzero" (ai 17) oc13 od13 kV13 dc13 pm13 an13 cd13 ct13 sl13) (c13:PC K cd13 "_law_nonzero") (k13:PK K f13)
 (a14:PA K "_law_sums" f14) (l14:PL K f14 "_law_sums" (ai 18) oc14 od14 kV14 dc14 pm14 an14 cd14 ct14 sl14) (c14:PC K cd14 "_law_sums") (k14:PK K f14)
 (a15:PA K "_law_table_sums" f15) (l15:PL K f15 "_law_table_sums" (ai 19) oc15 od15 kV15 dc15 pm15 an15 cd15 ct15 sl15) (c15:PC K cd15 "_law_table_sums") (k15:PK K f15)
 (a16:PA K "_law_lengths_of" f16) (l16:PL K f16 "_law_lengths_of" (ai 20) oc16 od16 kV16 dc16 pm16 an16 cd16 ct16 sl16) (c16:PC K cd16 "_law_lengths_of") (k16:PK K f16)
 (a17:PA K "_law_single" f17) (l17:PL K f17 "_law_single" (ai 21) oc17 od17 kV17 dc17 pm17 an17 cd17 ct17 sl17) (c17:PC K cd17 "_law_single") (k17:PK K f17)
 (a18:PA K "_law_plainly" f18) (l18:PL K f18 "_law_plainly" (ai 22) oc18 od18 kV18 dc18 pm18 an18 cd18 ct18 sl18) (c18:PC K cd18 "_law_plainly") (k18:PK K f18)
 (a19:PA K "_law_turned_about" f19) (l19:PL K f19 "_law_turned_about" (ai 23) oc19 od19 kV19 dc19 pm19 an19 cd19 ct19 sl19) (c19:PC K cd19 "_law_turned_about") (k19:PK K f19)
 (a20:PA K "_law_dressed" f20) (l20:PL K f20 "_law_dressed" (ai 24) oc20 od20 kV20 dc20 pm20 an20 cd20 ct20 sl20) (c20:PC K cd20 "_law_dressed") (k20:PK K f20)
 (a21:PA K "_law_seven" f21) (l21:PL K f21 "_law_seven" (ai 25) oc21 od21 kV21 dc21 pm21 an21 cd21 ct21 sl21) (c21:PC K cd21 "_law_seven") (k21:PK K f21)
 (a22:PA K "_law_tables" f22) (l22:PL K f22 "_law_tables" (ai 26) oc22 od22 kV22 dc22 pm22 an22 cd22 ct22 sl22) (c22:PC K cd22 "_law_tables") (k22:PK K f22)
 (a23:PA K "_law_some" f23) (l23:PL K f23 "_law_some" (ai 27) oc23 od23 kV23 dc23 pm23 an23 cd23 ct23 sl23) (c23:PC K cd23 "_law_some") (k23:PK K f23)
 (a24:PA K "_law_due" f24) (l24:PL K f24 "_law_due" (ai 28) oc24 od24 kV24 dc24 pm24 an24 cd24 ct24 sl24) (c24:PC K cd24 "_law_due") (k24:PK K f24)
 (a25:PA K "_law_sums_cut" f25) (l25:PL K f25 "_law_sums_cut" (ai 29) oc25 od25 kV25 dc25 pm25 an25 cd25 ct25 sl25) (c25:PC K cd25 "_law_sums_cut") (k25:PK K f25)
 (a26:PA K "_law_first" f26) (l26:PL K f26 "_law_first" (ai 30) oc26 od26 kV26 dc26 pm26 an26 cd26 ct26 sl26) (c26:PC K cd26 "_law_first") (k26:PK K f26)
 (a27:PA K "_law_any_right" f27) (l27:PL K f27 "_law_any_right" (ai 31) oc27 od27 kV27 dc27 pm27 an27 cd27 ct27 sl27) (c27:PC K cd27 "_law_any_right") (k27:PK K f27)
 (a28:PA K "_law_tables_right" f28) (l28:PL K f28 "_law_tables_right" (ai 32) oc28 od28 kV28 dc28 pm28 an28 cd28 ct28 sl28) (c28:PC K cd28 "_law_tables_right") (k28:PK K f28)
 (a29:PA K "law" f29) (l29:PL K f29 "law" (ai 33) oc29 od29 kV29 dc29 pm29 an29 cd29 ct29 sl29) (c29:PC K cd29 "law") (k29:PK K f29)
 (gcst0:Q5 K Jl "TABLES" = some (some (.ref ua0))) (gu0:K.lookup ua0=some ⟨.type "tuple",uo0, .seq #[(.ref ua1),(.ref ua4),(.ref ua7)] un0,us0⟩) (gu1:K.lookup ua1=some ⟨.type "tuple",uo1, .seq #[(.int 0 ut2),(.int 1 ut3)] un1,us1⟩) (gu4:K.lookup ua4=some ⟨.type "tuple",uo4, .seq #[(.int 1 ut5),(.int 2 ut6)] un4,us4⟩) (gu7:K.lookup ua7=some ⟨.type "tuple",uo7, .seq #[(.int 0 ut8),(.int 2 ut9)] un7,us7⟩)
 : ∃ fd:KZ,(∀ (s:hI) (v:h6),PD s fd ⟨[v],[]⟩ [("_law_script",v)]) /\ ∀ base:Heap,K.In base->base.Ns Jl mg->eE l.prog w K mg base CX0 40 fa fd ["_law_script"] (lSp K (phi tab 40 29)):=by
 have e:=hfa.symm.trans (HG X G a29)
 cases e
 have O:zX K mg tab qj:=by
  refine ⟨fun x hx=>PySem.W.mg_none_of X G (z x hx), ?_,Dy, ?_⟩
  ·intro i d hd
   match i,hd with
   | 0,hd=>cases hd;exact ⟨_,_,ah l0 c0 k0,HG X G a0,(ah l0 c0 k0).binds fun _ _ _ _ _ _ us hl=>by obtain ⟨u0,rfl⟩:=cY us hl;rfl⟩
   | 1,hd=>cases hd;exact ⟨_,_,ah l1 c1 k1,HG X G a1,(ah l1 c1 k1).binds fun _ _ _ _ _ _ us hl=>by obtain ⟨u0,u1,u2,u3,u4,rfl⟩:=Et us hl;rfl⟩
   | 2,hd=>cases hd;exact ⟨_,_,ah l2 c2 k2,HG X G a2,(ah l2 c2 k2).binds fun _ _ _ _ _ _ us hl=>by obtain ⟨u0,u1,u2,rfl⟩:=kz us hl;rfl⟩
   | 3,hd=>cases hd;exact ⟨_,_,ah l3 c3 k3,HG X G a3,(ah l3 c3 k3).binds fun _ _ _ _ _ _ us hl=>by obtain ⟨u0,u1,u2,u3,rfl⟩:=tN us hl;rfl⟩
   | 4,hd=>cases hd;exact ⟨_,_,ah l4 c4 k4,HG X G a4,(ah l4 c4 k4).binds fun _ _ _ _ _ _ us hl=>by obtain ⟨u0,u1,u2,rfl⟩:=kz us hl;rfl⟩
   | 5,hd=>cases hd;exact ⟨_,_,ah l5 c5 k5,HG X G a5,(ah l5 c5 k5).binds fun _ _ _ _ _ _ us hl=>by obtain ⟨u0,u1,rfl⟩:=cA us hl;rfl⟩
   | 6,hd=>cases hd;exact ⟨_,_,ah l6 c6 k6,HG X G a6,(ah l6 c6 k6).binds fun _ _ _ _ _ _ us hl=>by obtain ⟨u0,u1,rfl⟩:=cA us hl;rfl⟩
   | 7,hd=>cases hd;exact ⟨_,_,ah l7 c7 k7,HG X G a7,(ah l7 c7 k7).binds fun _ _ _ _ _ _ us hl=>by obtain ⟨u0,u1,rfl⟩:=cA us hl;rfl⟩
   | 8,hd=>cases hd;exact ⟨_,_,ah l8 c8 k8,HG X G a8,(ah l8 c8 k8).binds fun _ _ _ _ _ _ us hl=>by obtain ⟨u0,u1,rfl⟩:=cA us hl;rfl⟩
   | 9,hd=>cases hd;exact ⟨_,_,ah l9 c9 k9,HG X G a9,(ah l9 c9 k9).binds fun _ _ _ _ _ _ us hl=>by obtain ⟨u0,rfl⟩:=cY us hl;rfl⟩
   | 10,hd=>cases hd;exact ⟨_,_,ah l10 c10 k10,HG X G a10,(ah l10 c10 k10).binds fun _ _ _ _ _ _ us hl=>by obtain ⟨u0,u1,rfl⟩:=cA us hl;rfl⟩
   | 11,hd=>cases hd;exact ⟨_,_,ah l11 c11 k11,HG X G a11,(ah l11 c11 k11).binds fun _ _ _ _ _ _ us hl=>by obtain ⟨u0,u1,u2,rfl⟩:=kz us hl;rfl⟩
   | 12,hd=>cases hd;exact ⟨_,_,ah l12 c12 k12,HG X G a12,(ah l12 c12 k12).binds fun _ _ _ _ _ _ us hl=>by obtain ⟨u0,u1,rfl⟩:=cA us hl;rfl⟩
   | 13,hd=>cases hd;exact ⟨_,_,ah l13 c13 k13,HG X G a13,(ah l13 c13 k13).binds fun _ _ _ _ _ _ us hl=>by obtain ⟨u0,rfl⟩:=cY us hl;rfl⟩
   | 14,hd=>cases hd;exact ⟨_,_,ah l14 c14 k14,HG X G a14,(ah l14 c14 k14).binds fun _ _ _ _ _ _ us hl=>by obtain ⟨u0,rfl⟩:=cY us hl;rfl⟩
   | 15,hd=>cases hd;exact ⟨_,_,ah l15 c15 k15,HG X G a15,(ah l15 c15 k15).binds fun _ _ _ _ _ _ us hl=>by obtain ⟨u0,rfl⟩:=cY us hl;rfl⟩
   | 16,hd=>cases hd;exact ⟨_,_,ah l16 c16 k16,HG X G a16,(ah l16 c16 k16).binds fun _ _ _ _ _ _ us hl=>by obtain ⟨u0,rfl⟩:=cY us hl;rfl⟩
   | 17,hd=>cases hd;exact ⟨_,_,ah l17 c17 k17,HG X G a17,(ah l17 c17 k17).binds fun _ _ _ _ _ _ us hl=>by obtain ⟨u0,u1,rfl⟩:=cA us hl;rfl⟩
   | 18,hd=>cases hd;exact ⟨_,_,ah l18 c18 k18,HG X G a18,(ah l18 c18 k18).binds fun _ _ _ _ _ _ us hl=>by obtain ⟨u0,u1,rfl⟩:=cA us hl;rfl⟩
   | 19,hd=>cases hd;exact ⟨_,_,ah l19 c19 k19,HG X G a19,(ah l19 c19 k19).binds fun _ _ _ _ _ _ us hl=>by obtain ⟨u0,rfl⟩:=cY us hl;rfl⟩
   | 20,hd=>cases hd;exact ⟨_,_,ah l20 c20 k20,HG X G a20,(ah l20 c20 k20).binds fun _ _ _ _ _ _ us hl=>by obtain ⟨u0,u1,u2,u3,rfl⟩:=tN us hl;rfl⟩
   | 21,hd=>cases hd;exact ⟨_,_,ah l21 c21 k21,HG X G a21,(ah l21 c21 k21).binds fun _ _ _ _ _ _ us hl=>by obtain ⟨rfl⟩:=Eh us hl;rfl⟩
   | 22,hd=>cases hd;exact ⟨_,_,ah l22 c22 k22,HG X G a22,(ah l22 c22 k22).binds fun _ _ _ _ _ _ us hl=>by obtain ⟨u0,u1,u2,rfl⟩:=kz us hl;rfl⟩
   | 23,hd=>cases hd;exact ⟨_,_,ah l23 c23 k23,HG X G a23,(ah l23 c23 k23).binds fun _ _ _ _ _ _ us hl=>by obtain ⟨u0,u1,rfl⟩:=cA us hl;rfl⟩
   | 24,hd=>cases hd;exact ⟨_,_,ah l24 c24 k24,HG X G a24,(ah l24 c24 k24).binds fun _ _ _ _ _ _ us hl=>by obtain ⟨u0,u1,rfl⟩:=cA us hl;rfl⟩
   | 25,hd=>cases hd;exact ⟨_,_,ah l25 c25 k25,HG X G a25,(ah l25 c25 k25).binds fun _ _ _ _ _ _ us hl=>by obtain ⟨u0,u1,rfl⟩:=cA us hl;rfl⟩
   | 26,hd=>cases hd;exact ⟨_,_,ah l26 c26 k26,HG X G a26,(ah l26 c26 k26).binds fun _ _ _ _ _ _ us hl=>by obtain ⟨u0,u1,rfl⟩:=cA us hl;rfl⟩
   | 27,hd=>cases hd;exact ⟨_,_,ah l27 c27 k27,HG X G a27,(ah l27 c27 k27).binds fun _ _ _ _ _ _ us hl=>by obtain ⟨u0,rfl⟩:=cY us hl;rfl⟩
   | 28,hd=>cases hd;exact ⟨_,_,ah l28 c28 k28,HG X G a28,(ah l28 c28 k28).binds fun _ _ _ _ _ _ us hl=>by obtain ⟨u0,rfl⟩:=cY us hl;rfl⟩
   | 29,hd=>cases hd;exact ⟨_,_,ah l29 c29 k29,HG X G a29,(ah l29 c29 k29).binds fun _ _ _ _ _ _ us hl=>by obtain ⟨u0,rfl⟩:=cY us hl;rfl⟩
   | i+30,hd=>simp [tab] at hd
  ·intro x i hx;simp only [qj,Ho,HZ,or_false,NG] at hx
   rcases hx with ⟨rfl,rfl⟩
   ·exact ⟨_,HG X G gcst0,(GV.tups gu0 (by simp) rfl (GVs.cons (GV.tups gu1 (by simp) rfl (GVs.cons GV.ints (GVs.cons GV.ints GVs.nil))) (GVs.cons (GV.tups gu4 (by simp) rfl (GVs.cons GV.ints (GVs.cons GV.ints GVs.nil))) (GVs.cons (GV.tups gu7 (by simp) rfl (GVs.cons GV.ints (GVs.cons GV.ints GVs.nil))) GVs.nil))))⟩
 refine ⟨KA "law" "law" (dX (ai 33)) (cy (ai 33)) (aB (ai 33)) .none kV29 dc29 pm29 an29 cd29 ct29,fun s v => .of_eq rfl,fun base _ _ => ?_⟩;exact w4 O 40 29 d29 _ _ rfl (ah l29 c29 k29)
theorem walk {l:Oc} {q:HK} {loose:List Str} {XP:(Str->Option h6)->Heap->Prop} {YP:Ie->Heap->Prop} {d:DefRec} {K:Params->Frag} (hn:l.most=some 63) (hdf:d.params.defaults=[])
 (hlaw:∀ ns:List Int,ns.length<=63->phi tab 40 29 [.con (ns.map D.int)] (fun _=>none) fun d _=>d = .bl true)
 (hY:∀ (w:Ie) (h:Heap),YP w h->(K w.params).In h)
 (F:∀ (w:Ie) (mg:Str->Option h6) (fa:Addr) (h:Heap),(K w.params).In h->h.Ns Jl mg->mg d.name=some (.ref fa) ->
   ∃ fd:KZ,(∀ (s:hI) (u:h6),PD s fd ⟨[u],[]⟩ [("_law_script",u)]) /\ ∀ base:Heap,(K w.params).In base->base.Ns Jl mg->eE l.prog w (K w.params) mg base CX0 40 fa fd ["_law_script"] (lSp (K w.params) (phi tab 40 29))) :
 PySem.W.WalkO q loose XP YP l.row.toRowW d [] (fun f vs=>QX f vs) :=
 L2.walk_of (n := 63) (k := 40) (x := "_law_script") (CX:=fun _=>CX0) (sp:=fun w=>lSp (K w.params) (phi tab 40 29)) hn (by decide) hdf ⟨rfl,by decide,by decide⟩ hY F (fun w H a ns hl hO hS=>Di hO hS (hlaw ns hl)) fun _ _ _ _ _ z=>z
end K21
end
section
namespace K21
open PySem PySem.Spec PyProof.Rows L2.Srt
theorem rZ {n:Nat} (j : 1<=n):tQ tab n 6:=wn (x := "_law_number_here") (s:=ai 10) rfl j
theorem aQ {n:Nat} (j : 2<=n):fB tab n 8:=fun z h1 h2 q=>Bo (s:=ai 12) (fm := 6) rfl (rZ (by lia)) j z h1 h2 q
theorem u7 {n:Nat} (z : 3<=n):pR tab n 9:=fun j q=>wk (s:=ai 13) (ft := 8) rfl (aQ (by lia)) (by lia) j q
theorem zp {n:Nat} (B : 4<=n):wl tab n 10:=fun j z q=>Bp (s:=ai 14) (fn := 9) rfl (u7 (by lia)) (by lia) j z q
theorem qk {n m:Nat} (j:n+1<=m) {u v:D} {M:Mem} {Q:QD} (h:Sm M n u v) (q:∀ M',Ge M M'->Q (.bl true) M'):phi tab m 12 [u,v] M Q:=BD (s:=ai 16) (y := "_law_due_here") rfl j h q
theorem wN {n:Nat} (j : 1<=n):Dt tab n 13:=fun z q=>tT (s:=ai 17) (xp := "_law_part_here") (xn := "_law_number_here") rfl j z q
theorem jr {n:Nat} (J : 2<=n) {x0 j z:D} {p:Addr} {ps:List Pr} {M:Mem} {Q:QD} (B:M p=some (.lst (ps.map prD))) (F:(bj ps).length<=10000000) (G:∀ p∈ps,zg p)
 (q:∀ (L:List Tm) d M',ny ps L->L.length<=10000000->Ge M M'->M d=none->M' d=some (.dct true (L.map kcD))->Q (.ref d) M'):phi tab n 14 [.tup [x0,j,z, .ref p]] M Q:=Bv (s:=ai 18) (xs := "_law_scheme_here") (fz := 13) rfl (wN (by lia)) (by lia) B F G q
theorem mZ {n:Nat} (j : 1<=n):rW tab n 15:=fun a b c q=>zh (s:=ai 19) (xs := "_law_sizes") rfl j a b c q
theorem u8 {n:Nat} (j : 1<=n):qd tab n 17:=fun z q=>wz (s:=ai 21) rfl j z q
theorem qJ {n:Nat} (B : 2<=n):mX tab 1000000 n 18:=fun a b c _ h1 h2 j _ _ _ z q=>tW F1 (s:=ai 22) (y := "_law_number_here") (fs := 17) rfl (u8 (by lia)) (by lia) a b c h1 h2 j z q
theorem wP {n:Nat} (j : 1<=n):rR tab n 19:=fun z q=>zi (s:=ai 23) (x := "_law_part_here") (y := "_law_number_here") rfl j z q
theorem qK {n:Nat} (z : 3<=n):mW tab n 20:=fun a b c d e _ f g h _ _ _ _ _ _ i j k q=>tX (s:=ai 24) (ft := 8) (fa := 19) rfl (aQ (by lia)) (wP (by lia)) (by lia) a b c d e f g h i j k q
theorem iH {M M':Mem} {p:Addr} (g:Ge M M') (h:M' p=none):M p=none:=by
 cases hz:M p with
 | none=>rfl
 | some o=>rw [g _ _ hz] at h;cases h
theorem iI {a:List Nat}:(nsD a).length=a.length:=by simp [nsD]
noncomputable def tq (C t f W a:Nat) (l:List Nat):List Nat:=l.map fun b=>(t+a)*W+(f+b)
noncomputable def tqs (C t f W:Nat) (l:List Nat):List Nat:=l.flatMap fun a=>tq C t f W a (Hz C)
theorem lD {C t f W:Nat}:∀ {l:List Nat},(tqs C t f W l).length=l.length*C
 | [] => by simp [tqs]
 | x::l=>by
   have ih:=lD (C:=C) (t:=t) (f:=f) (W:=W) (l:=l);unfold tqs at ih ⊢;rw [Kd,D0,ih,Ic,JC];simp [tq];lia
theorem u9 {n:Nat} (O : 1<=n) {R C t f W:Nat} (U:R<=20) (F:C<=20) (Y:t<=20) {M:Mem} {Q:QD} (q:∀ p,M p=none->Q (.ref p) (ag M p (.lst (nsD (tp R C t f W))))):phi tab n 1 [.int R, .int C, .int t, .int f, .int W] M Q:=by
 refine aq (by lia) rfl rfl (ρ := [some _,some _,some _,some _,some _]) rfl ?_
 unfold d1 L2.Mi.K21.b1;walk_at "st";refine ⟨by lia,by lia, ?_⟩
 rw [HX];refine ay (f:=fun i=>D.int (i:Nat)) (ys:=Hz R) (I:=fun l ρ M' acc=>(∃ o0 j, ρ = [o0,j,some (.int t),some (.int W),some (.int f),some (.int C)])/\M'=M/\acc=nsD (tqs C t f W l)) aG ⟨⟨_,_,rfl⟩,rfl,rfl⟩ (fun _ _ _ _ _=>trivial) ?_ ?_
 ·rintro l a r ρ M1 acc e ⟨⟨o0,j,rfl⟩,rfl,rfl⟩;refine ⟨_,rfl,fun N' z => ?_⟩;have G:=al e;rw [HQ] at G;have J:a < R:=Ia.mp (by rw [e];simp)
  walk_at "wp";refine ⟨by lia,by lia, ?_⟩
  rw [HX];refine ay (f:=fun i=>D.int (i:Nat)) (ys:=Hz C) (I:=fun l' ρ M' acc=>(∃ j, ρ = [some (.int (a:Nat)),j,some (.int t),some (.int W),some (.int f),some (.int C)])/\M'=M1/\acc=nsD (tqs C t f W l++tq C t f W a l')) aG ⟨⟨_,rfl⟩,rfl,by simp [tq]⟩ (fun _ _ _ _ _=>trivial) ?_ ?_
  ·rintro l' b r' ρ M2 acc e' ⟨⟨j,rfl⟩,rfl,rfl⟩;refine ⟨_,rfl,fun Z B => ?_⟩;have L:=al e';rw [HQ] at L;walk_at "wp";rw [<- Lm, <- K7, <- Lm, <- Lm];refine ⟨dk (by lia), ?_,B _ _ _ ⟨⟨_,rfl⟩,rfl, ?_⟩⟩
   ·rw [iI,D0,lD,tv];have:l.length*C<=20*20:=Jt (by lia) F
    simp [tq];lia
   ·rw [NA];simp [nsD,tq]
  ·rintro ρ M2 acc ⟨⟨j,rfl⟩,rfl,rfl⟩;exact z _ _ _ ⟨⟨_,_,rfl⟩,rfl,by simp [tqs,Kq]⟩
 ·rintro ρ M1 acc ⟨⟨o0,j,rfl⟩,rfl,rfl⟩ p hp;exact q p hp
noncomputable abbrev t3 (x y z:Nat):List D := [.int x, .int y, .int z]
theorem S3 {x y z:Nat} {i:Nat} (h:i < 3):atI (t3 x y z) (i:Nat)=some (.int ([x,y,z].getD i 0:Nat)):=by
 match i,h with
 | 0,_=>rfl
 | 1,_=>rfl
 | 2,_=>rfl
theorem bd3 {x y z i:Nat} {B:Nat} (h1:x<=B) (h2:y<=B) (j:z<=B) (h:i < 3) : [x,y,z].getD i 0<=B:=by
 match i,h with
 | 0,_=>exact h1
 | 1,_=>exact h2
 | 2,_=>exact j
theorem s9 {x:Nat×Nat} {l r:List (Nat×Nat)} (e : [((0:Nat),(1:Nat)),(1,2),(0,2)]=l++x::r):x.1 < 3/\x.2 < 3:=by
 have hm:x∈[((0:Nat),(1:Nat)),(1,2),(0,2)]:=by rw [e];simp
 simp only [Ho,HZ,or_false] at hm
 rcases hm with rfl | rfl | rfl <;> exact ⟨by decide,by decide⟩
theorem Dz {k:Nat} (hk : 2<=k) {n m p a b c x y z:Nat} (hs:n<=20/\m<=20/\p<=20) (O:a<=20/\b<=20/\c<=20) {ds dc dw:D} {M:Mem} {Q:QD} (es:aw M ds=some (t3 n m p)) (ec:aw M dc=some (t3 a b c)) (ew:aw M dw=some (t3 x y z))
 (q:∀ pl j B p2 M',Ge M M'->M pl=none->M' pl=some (.lst [.ref j, .ref B, .ref p2])->M' j=some (.lst (nsD (tp n m a b y)))->M' B=some (.lst (nsD (tp m p b c z)))->M' p2=some (.lst (nsD (tp n p a c z)))->Q (.ref pl) M'):phi tab k 2 [ds,dc,dw] M Q:=by
 refine aq (by lia) rfl rfl (ρ := [some _,some _,some _]) rfl ?_
 unfold d2 L2.Mi.K21.b2;walk_at "st";refine ay (f:=fun q:Nat×Nat=>D.tup [.int (q.1:Nat), .int (q.2:Nat)]) (ys := [(0,1),(1,2),(0,2)]) (I:=fun l ρ M' acc=>(∃ o0 U, ρ = [o0,U,some ds,some dc,some dw])/\Ge M M' /\ ∃ qs:List (Addr×Nat×Nat),qs.map (·.2)=l/\acc=qs.map (fun q => .ref q.1) /\ ∀ q∈qs,M' q.1=some (.lst (nsD (tp ([n,m,p].getD q.2.1 0) ([n,m,p].getD q.2.2 0) ([a,b,c].getD q.2.1 0) ([a,b,c].getD q.2.2 0) ([x,y,z].getD q.2.2 0))))) rfl ⟨⟨_,_,rfl⟩,Ge.refl,[],rfl,rfl,fun _ h=>by cases h⟩ (fun _ _ _ _ _=>by first | rfl | trivial) ?_ ?_
 ·rintro l w r ρ M2 acc e ⟨⟨o0,U,rfl⟩,g2,qs,rfl,rfl,F⟩;refine ⟨_,rfl,fun N' Y => ?_⟩;have G:=al e;rw [q7] at G;have hx:=s9 e;walk_at "wp";refine gS (dr es g2) (S3 hx.1) (gS (dr es g2) (S3 hx.2) (gS (dr ec g2) (S3 hx.1) (gS (dr ec g2) (S3 hx.2) (gS (dr ew g2) (S3 hx.2) ?_))));refine u9 (by lia) (bd3 hs.1 hs.2.1 hs.2.2 hx.1) (bd3 hs.1 hs.2.1 hs.2.2 hx.2) (bd3 O.1 O.2.1 O.2.2 hx.1) fun pb Z => ?_
  have g3:=Ge.new (o := .lst (nsD (tp ([n,m,p].getD w.1 0) ([n,m,p].getD w.2 0) ([a,b,c].getD w.1 0) ([a,b,c].getD w.2 0) ([x,y,z].getD w.2 0)))) Z;walk_at "wp";refine ⟨by rw [q7,tv];simp at G;lia,Y _ _ _ ⟨⟨_,_,rfl⟩,g2.trans g3,qs++[(pb,w)],by simp,by simp,fun y hy => ?_⟩⟩
  rcases Hv.mp hy with h | h
  ·exact g3 _ _ (F y h)
  ·simp at h;subst h;exact aa
 ·rintro ρ M2 acc ⟨⟨o0,U,rfl⟩,g2,qs,J,rfl,F⟩ pl L;obtain ⟨j,B,p2,rfl⟩:∃ j B p2,qs=[(j,0,1),(B,1,2),(p2,0,2)]:=by
   have F5:qs.length=3:=by simpa using congrArg Ku J
   clear F
   match qs,F5,J with
   | [x,y,z],_,h =>
    obtain ⟨j,x⟩:=x;obtain ⟨B,y⟩:=y;obtain ⟨p2,z⟩:=z;simp at h;obtain ⟨rfl,rfl,rfl⟩:=h;exact ⟨j,B,p2,rfl⟩
  have g3:=Ge.new (o := .lst ([(j,0,1),(B,1,2),(p2,0,2)].map fun q:Addr×Nat×Nat=>D.ref q.1)) L;exact q pl j B p2 _ (g2.trans g3) (iH g2 L) aa (g3 _ _ (F _ (by simp:(j,0,1)∈_))) (g3 _ _ (F _ (by simp:(B,1,2)∈_))) (g3 _ _ (F _ (by simp:(p2,0,2)∈_)))
theorem nB {l:List Int} {i:Nat} (h:i < l.length):l[i]? = some (gz l (i:Nat)):=by
 unfold gz;rw [if_neg (by lia),HX,Ih,z4 h];rfl
theorem A6 {l:List Int} {i:Nat} (h:i < l.length):atI (l.map D.int) (i:Nat)=some (.int (gz l (i:Nat))):=by
 refine iA ?_;rw [HM,nB h];rfl
noncomputable def ao (A:List Int) (l:List Int):List Int:=A.map (gz l)
noncomputable def cb (A B C:List Int) (u:Pr):Pr:=(ao A u.1,ao B u.2.1,ao C u.2.2)
noncomputable def nzB (l:List Int):Bool:=l.any fun x=>x != 0
noncomputable def okP (u:Pr):Bool:=nzB u.1&&(nzB u.2.1&&nzB u.2.2)
noncomputable def aU (A B C:List Int) (ps:List Pr):List Pr:=(ps.map (cb A B C)).filter okP
theorem bA {A:List Int} {l:List Int}:(ao A l).length=A.length:=by simp [ao]
theorem lF {l:List Int} (h:nzB l=false) {i:Int}:gz l i=0:=by
 apply Nk;intro j;obtain ⟨h0,h1⟩:=fH j;obtain ⟨i,rfl⟩:=Ik h0;have hm:=HH (nB (J8.mp h1));unfold nzB at h;rw [Px] at h;exact h _ hm (by simpa using j)
theorem lH {A:List Int} {l:List Int} {i:Nat} (h:i < A.length):gz (ao A l) (i:Nat)=gz l (at0 A i):=by
 have e:=nB (l:=ao A l) (i:=i) (by rw [bA];exact h)
 unfold ao at e ⊢;rw [HM,kE h] at e;exact (Jk.inj e).symm
theorem ql {k i j:Int}:∀ {ps:List Pr},Tn (ps.filter okP) k i j=Tn ps k i j
 | [] => rfl
 | u::ps=>by
   rw [fI]
   by_cases h:okP u=true
   ·rw [IA h,fI,ql]
   ·rw [IB h,ql];have z:gz u.1 i*gz u.2.1 j*gz u.2.2 k=0:=by
     unfold okP at h
     cases h1:nzB u.1 with
     | false=>rw [lF h1];simp
     | true =>
       cases h2:nzB u.2.1 with
       | false=>rw [lF h2];simp
       | true =>
         cases q:nzB u.2.2 with
         | false=>rw [lF q];simp
         | true=>rw [h1,h2,q] at h;exact absurd rfl h
    rw [z];simp
theorem wQ {A B C:List Int} {k i j:Nat} (q:k < C.length) (hi:i < A.length) (z:j < B.length):∀ {ps:List Pr},Tn (aU A B C ps) (k:Nat) (i:Nat) (j:Nat)=Tn ps (at0 C k) (at0 A i) (at0 B j):=by
 intro ps;unfold aU;rw [ql];refine wK (fun u => ?_);unfold tm cb;dsimp only;rw [lH hi,lH z,lH q]
theorem gm {A B C:List Int} {ps:List Pr}:∀ u∈aU A B C ps,u.1.length=A.length/\u.2.1.length=B.length/\u.2.2.length=C.length:=fun u j=>by
 obtain ⟨v,q,rfl⟩:=HF.mp (K5.mp j).1;exact ⟨bA,bA,bA⟩
theorem sd {A B C:List Int} {ps:List Pr} {k i j:Int} (h : ¬ ((0<=k/\k < C.length)/\(0<=i/\i < A.length)/\(0<=j/\j < B.length))):Tn (aU A B C ps) k i j=0:=by
 apply Nk;intro q;exact h (q9 gm q)
noncomputable def iL (A:List Nat):List Int:=A.map fun i=>((i:Nat):Int)
theorem DA {A:List Nat}:(iL A).length=A.length:=by simp [iL]
theorem DB {A:List Nat} {i:Nat} (h:i < A.length):at0 (iL A) i=((A.getD i 0:Nat):Int):=by
 unfold at0 iL;rw [Ih,HM,z4 h,Ih,z4 h];rfl
theorem wR {A:List Nat}:nsD A=(iL A).map .int:=by unfold nsD iL;rw [Ip];rfl
theorem wU {A B C:List Int} (U:A.Nodup) (Y:B.Nodup) (Z:C.Nodup) {k i j:Nat} (q:k < C.length) (hi:i < A.length) (F:j < B.length):∀ {L:List Tm},cf (bb A B C L) ((k:Nat),((i:Nat):Int),((j:Nat):Int))=cf L (at0 C k,at0 A i,at0 B j)
 | [] => rfl
 | t::L=>by
   have ih:=wU U Y Z q hi F (L:=L);unfold bb at ih ⊢;rw [aX, <- ih,J9]
   by_cases c:t.1.1∈C/\t.1.2.1∈A/\t.1.2.2∈B
   ·have e:F3 A B C t=some ((((C.idxOf t.1.1:Nat):Int),((A.idxOf t.1.2.1:Nat):Int),((B.idxOf t.1.2.2:Nat):Int)),t.2):=by unfold F3;rw [if_pos c]
    rw [e];dsimp only;rw [aX];congr 1;dsimp only
    by_cases d:t.1=(at0 C k,at0 A i,at0 B j)
    ·rw [if_pos d,if_pos];rw [d];dsimp only;rw [qi Z q,qi U hi,qi Y F]
    ·rw [if_neg d,if_neg];intro z;simp only [NG] at z;obtain ⟨G,J,O⟩:=z;have G:=Lw.inj G;have J:=Lw.inj J;have O:=Lw.inj O;refine d ?_;refine Ot ?_ (Ot ?_ ?_)
     ·rw [<- G,(ce c.1).2]
     ·rw [<- J,(ce c.2.1).2]
     ·rw [<- O,(ce c.2.2).2]
   ·have e:F3 A B C t=none:=by unfold F3;rw [if_neg c]
    rw [e];dsimp only;rw [if_neg,Int.zero_add];intro d;apply c;rw [d];exact ⟨lB q,lB hi,lB F⟩
theorem jt {A B C:List Int} {L:List Tm} {x:Tm} (h:x∈bb A B C L):∃ t∈L,(t.1.1∈C/\t.1.2.1∈A/\t.1.2.2∈B)/\x=((((C.idxOf t.1.1:Nat):Int),((A.idxOf t.1.2.1:Nat):Int),((B.idxOf t.1.2.2:Nat):Int)),t.2):=by
 obtain ⟨t,j,e⟩:=MY.mp h;unfold F3 at e
 by_cases c:t.1.1∈C/\t.1.2.1∈A/\t.1.2.2∈B
 ·rw [if_pos c] at e;exact ⟨t,j,c,(Jk.inj e).symm⟩
 ·rw [if_neg c] at e;cases e
theorem ua {A B C:List Int} {k i j:Int} (h : ¬ ((0<=k/\k < C.length)/\(0<=i/\i < A.length)/\(0<=j/\j < B.length))) {L:List Tm}:cf (bb A B C L) (k,i,j)=0:=by
 refine eB fun x hx e=>h ?_;obtain ⟨t,_,⟨q,z,F⟩,rfl⟩:=jt hx;simp only [NG] at e;obtain ⟨rfl,rfl,rfl⟩:=e;have:=(ce q).1;have:=(ce z).1;have:=(ce F).1;lia
theorem qm {A B C:List Int} {L:List Tm} {t:Tm} (j:∀ u∈L,u.1≠t.1) (c:t.1.1∈C/\t.1.2.1∈A/\t.1.2.2∈B):∀ x∈bb A B C L,x.1≠((((C.idxOf t.1.1:Nat):Int),((A.idxOf t.1.2.1:Nat):Int),((B.idxOf t.1.2.2:Nat):Int)):K3):=fun x hx e=>by
 obtain ⟨u,q,d,rfl⟩:=jt hx;simp only [NG] at e;obtain ⟨e1,e2,z⟩:=e;refine j u q (Ot ?_ (Ot ?_ ?_))
 ·rw [<- (ce d.1).2,Lw.inj e1,(ce c.1).2]
 ·rw [<- (ce d.2.1).2,Lw.inj e2,(ce c.2.1).2]
 ·rw [<- (ce d.2.2).2,Lw.inj z,(ce c.2.2).2]
theorem zq {l:List Int}:aD j5 (l.map D.int)=some (l.map fun x=>x != 0):=by
 induction l with
 | nil=>rfl
 | cons x l ih=>rw [HE,aD,ih];rfl
theorem DC {l:List Int}:(l.map fun x=>x != 0).any id=nzB l:=by
 unfold nzB;rw [List.any_map];rfl
theorem ub {k:Nat} (F : 1<=k) {u:Pr} {M:Mem} {Q:QD} (q:∀ M',Ge M M'->Q (.bl (!okP u)) M'):phi tab k 0 [prD u] M Q:=by
 refine aq (by lia) rfl rfl (ρ := [some _]) rfl ?_
 unfold d0 L2.Mi.K21.b0 prD;walk_at "st";refine ay (f:=fun w:List Int=>D.tup (w.map .int)) (ys := [u.1,u.2.1,u.2.2]) (I:=fun l ρ M' acc=>(∃ o0, ρ = [o0])/\M'=M/\acc=l.map fun w=>D.bl (nzB w)) rfl ⟨⟨_,rfl⟩,rfl,rfl⟩ (fun _ _ _ _ _=>by first | rfl | trivial) ?_ ?_
 ·rintro l w r ρ M1 acc e ⟨⟨o0,rfl⟩,rfl,rfl⟩;refine ⟨_,rfl,fun N j => ?_⟩;have z:l.length < 3:=al e;walk_at "wp";refine ⟨_,_,_,rfl,rfl,zq, ?_⟩;rw [DC];exact ⟨by rw [q7,tv];lia,j _ _ _ ⟨⟨_,rfl⟩,rfl,by simp⟩⟩
 ·rintro ρ M1 acc ⟨⟨o0,rfl⟩,rfl,rfl⟩ p B;refine ⟨_,_,[nzB u.1,nzB u.2.1,nzB u.2.2],rfl,ad aa,rfl, ?_⟩;have e : [nzB u.1,nzB u.2.1,nzB u.2.2].all id=okP u:=by simp [okP]
  rw [e];exact ⟨_,rfl,q _ (Ge.new B)⟩
theorem lJ {A:List Int} {l:List Int} (z:∀ i∈A,0<=i/\i < l.length) (la:A.length<=100000) {M:Mem} {N:NC} {chk:Mem->Prop} (B:chk M) (q:∀ ρ,N ρ M ((ao A l).map .int)) {o0:Option D} :
 bo (bn 0) (bQ (wOp wIx (bD 1) (bD 0))) chk N (A.map .int) [o0,some (.tup (l.map .int))] M []:=by
 refine ay (f:=D.int) (ys:=A) (I:=fun s ρ M' acc=>(∃ o0, ρ = [o0,some (.tup (l.map .int))])/\M'=M/\acc=(ao s l).map .int) rfl ⟨⟨_,rfl⟩,rfl,rfl⟩ (fun _ _ _ _ h=>by rw [h.2.1];exact B) ?_ ?_
 ·rintro s t r ρ M1 acc e ⟨⟨o0,rfl⟩,rfl,rfl⟩;refine ⟨_,rfl,fun N' j => ?_⟩;have hs:=al e;walk_at "wp";obtain ⟨h0,h1⟩:=z t (by rw [e];simp)
  obtain ⟨t,rfl⟩:=Ik h0;refine ⟨_,A6 (J8.mp h1),by rw [q7,bA,tv];lia,j _ _ _ ⟨⟨_,rfl⟩,rfl,by simp [ao]⟩⟩
 ·rintro ρ M1 acc ⟨⟨o0,rfl⟩,rfl,rfl⟩;exact q _
structure Plc (N0 N1 N2:Nat) (A B C:List Int):Prop where
 a:∀ i∈A,0<=i/\i < N0
 b:∀ i∈B,0<=i/\i < N1
 c:∀ i∈C,0<=i/\i < N2
 la:A.length<=1000
 lb:B.length<=1000
 lc:C.length<=1000
noncomputable abbrev lK (N0 N1 N2:Nat) (ps:List Pr):Prop := ∀ u∈ps,u.1.length=N0/\u.2.1.length=N1/\u.2.2.length=N2
theorem wV {k:Nat} (hk : 2<=k) {Y Z N2:Nat} {A B C:List Int} (j:Plc Y Z N2 A B C) {ps:List Pr} (hp:lK Y Z N2 ps) (hl:ps.length<=1000) {x0 x1 x2:D} {pp pa pb pc:Addr} {M:Mem} {Q:QD} (ep:M pp=some (.lst (ps.map prD))) (ea:M pa=some (.lst (A.map .int))) (eb:M pb=some (.lst (B.map .int))) (ec:M pc=some (.lst (C.map .int)))
 (q:∀ p M',Ge M M'->M p=none->M' p=some (.lst ((aU A B C ps).map prD))->Q (.tup [.int A.length, .int B.length, .int C.length, .ref p]) M'):phi tab k 3 [.tup [x0,x1,x2, .ref pp], .ref pa, .ref pb, .ref pc] M Q:=by
 refine aq (by lia) rfl rfl (ρ := [some _,some _,some _,some _,none]) rfl ?_
 unfold d3 L2.Mi.K21.b3;walk_at "st";refine ⟨_,rfl,_,ad ep, ?_⟩;refine ay (f:=prD) (ys:=ps) (I:=fun l ρ M' acc=>(∃ o0 O U, ρ = [o0,O,U,some (.ref pa),some (.ref pb),some (.ref pc)])/\Ge M M'/\acc=(l.map (cb A B C)).map prD) rfl ⟨⟨_,_,_,rfl⟩,Ge.refl,rfl⟩ (fun _ _ _ _ h=>ad (h.2.1 _ _ ep)) ?_ ?_
 ·rintro l u r ρ G acc e ⟨⟨o0,O,U,rfl⟩,g1,rfl⟩;refine ⟨_,rfl,fun N J => ?_⟩;have z:=al e;obtain ⟨h0,h1,h2⟩:=hp u (by rw [e];simp)
  walk_at "wp";refine ⟨_,ad (g1 _ _ ea),lJ (fun i hi=>by rw [h0];exact j.a i hi) (by have:=j.la;lia) (ad (g1 _ _ ea)) fun ρ p1 hp1=>⟨_,_,rfl,ad aa, ?_⟩⟩
  have g2:=g1.trans (Ge.new (o := .lst ((ao A u.1).map .int)) hp1);generalize ag G p1 (.lst ((ao A u.1).map .int))=M2 at g2 ⊢;refine ⟨_,ad (g2 _ _ eb),lJ (fun i hi=>by rw [h1];exact j.b i hi) (by have:=j.lb;lia) (ad (g2 _ _ eb)) fun ρ p2 hp2=>⟨_,_,rfl,ad aa, ?_⟩⟩
  have g3:=g2.trans (Ge.new (o := .lst ((ao B u.2.1).map .int)) hp2);generalize ag M2 p2 (.lst ((ao B u.2.1).map .int))=M3 at g3 ⊢;refine ⟨_,ad (g3 _ _ ec),lJ (fun i hi=>by rw [h2];exact j.c i hi) (by have:=j.lc;lia) (ad (g3 _ _ ec)) fun ρ p3 hp3=>⟨_,_,rfl,ad aa, ?_⟩⟩
  have L:=g3.trans (Ge.new (o := .lst ((ao C u.2.2).map .int)) hp3);refine ⟨by rw [tv];lia,by rw [q7,q7,tv];lia,J _ _ _ ⟨⟨_,_,_,rfl⟩,L,by simp [prD,cb]⟩⟩
 ·rintro ρ G acc ⟨⟨o0,O,U,rfl⟩,g1,rfl⟩ pq hpq;have g2:=g1.trans (Ge.new (o := .lst ((ps.map (cb A B C)).map prD)) hpq);have e2:=aa (M:=G) (a:=pq) (o := .lst ((ps.map (cb A B C)).map prD));generalize ag G pq (.lst ((ps.map (cb A B C)).map prD))=M2 at g2 e2 ⊢;walk_at "st";refine ⟨_,_,rfl,cM (ad (g2 _ _ ea)),_,_,rfl,cM (ad (g2 _ _ eb)),_,_,rfl,cM (ad (g2 _ _ ec)), ?_⟩;rw [q7,q7,q7];refine ⟨_,ad e2, ?_⟩;refine ay (f:=prD) (ys:=ps.map (cb A B C)) (I:=fun l ρ M' acc=>(∃ o0, ρ = [o0])/\Ge M2 M'/\acc=(l.filter okP).map prD) rfl ⟨⟨_,rfl⟩,Ge.refl,rfl⟩ (fun _ _ _ _ h=>ad (h.2.1 _ _ e2)) ?_ ?_
  ·rintro l u r ρ M3 acc e ⟨⟨o0,rfl⟩,g3,rfl⟩;refine ⟨_,rfl,fun N J => ?_⟩;have z:=al e;rw [q7] at z;walk_at "wp";refine ub (by lia) fun M4 L=>⟨_,rfl, ?_⟩
   have F5:=IM okP l
   cases ho:okP u with
   | true =>
     rw [if_pos (by rfl)]
     refine ⟨by rw [q7,tv];lia,J _ _ _ ⟨⟨_,rfl⟩,g3.trans L, ?_⟩⟩
     rw [JY,IA ho];simp
   | false =>
     rw [if_neg (by simp)]
     refine J _ _ _ ⟨⟨_,rfl⟩,g3.trans L, ?_⟩;rw [JY,IB (by rw [ho];simp)];simp
  ·rintro ρ M3 acc ⟨⟨o0,rfl⟩,g3,rfl⟩ pr F;exact ⟨by rw [tv];lia,q pr _ (g2.trans (g3.trans (Ge.new F))) (iH (g2.trans g3) F) aa⟩
theorem uc {R C H W:Nat} (h1:R<=H) (h2:C<=W):∀ x∈iL (tp R C 0 0 W),0<=x/\x < (H*W:Nat):=fun x hx=>by
 obtain ⟨i,hi,rfl⟩:=HF.mp hx;have:=Es (t := 0) (f := 0) (show 0+R<=H by lia) (show 0+C<=W by lia) i hi
 exact ⟨by lia,J8.mpr this⟩
noncomputable abbrev tA (a b m:Nat):List Int:=iL (tp a b 0 0 m)
theorem aM {a b m:Nat}:(tA a b m).length=a*b:=by rw [DA,wM]
theorem A7 {n m p a b c:Nat} (hs:n<=9/\m<=9/\p<=9) (j:a<=n/\b<=m/\c<=p):Plc (n*m) (m*p) (n*p) (tA a b m) (tA b c p) (tA a c p) where
 a:=uc j.1 j.2.1
 b:=uc j.2.1 j.2.2
 c:=uc j.1 j.2.2
 la:=by rw [aM];exact Iv (Jt (show a<=9 by lia) (show b<=9 by lia)) (by decide)
 lb:=by rw [aM];exact Iv (Jt (show b<=9 by lia) (show c<=9 by lia)) (by decide)
 lc:=by rw [aM];exact Iv (Jt (show a<=9 by lia) (show c<=9 by lia)) (by decide)
theorem BG {k:Nat} (L : 3<=k) {n m p a b c:Nat} (hs:n<=9/\m<=9/\p<=9) (j:a<=n/\b<=m/\c<=p) {ps:List Pr} (z:lK (n*m) (m*p) (n*p) ps) (B:ps.length<=1000) {x0 F G:D} {pp:Addr} {M:Mem} {Q:QD} (ep:M pp=some (.lst (ps.map prD)))
 (q:∀ pf M',Ge M M'->M pf=none->M' pf=some (.lst ((aU (tA a b m) (tA b c p) (tA a c p) ps).map prD))->Q (.tup [.int (a*b:Nat), .int (b*c:Nat), .int (a*c:Nat), .ref pf]) M'):phi tab k 4 [.tup [x0,F,G, .ref pp], .tup (t3 n m p), .tup (t3 a b c)] M Q:=by
 refine aq (by lia) rfl rfl (ρ := [some _,some _,some _,none,none,none]) rfl ?_
 unfold d4 L2.Mi.K21.b4;walk_at "st";refine ⟨by rw [tv];lia, ?_⟩
 refine Dz (a := 0) (b := 0) (c := 0) (by lia) (by lia) (by lia) rfl rfl rfl fun pl O U p2 Y g1 _ el e0 e1 e2 => ?_
 refine ⟨pl,rfl,_,el,_,rfl, ?_⟩;rw [wR] at e0 e1 e2;walk_at "st";refine wV (by lia) (A7 hs j) z B (g1 _ _ ep) e0 e1 e2 fun pf M2 g2 np J => ?_
 rw [aM,aM,aM];exact q pf M2 (g1.trans g2) (iH g1 np) J
structure Sel (m:Nat) (xs:List Int):Prop where
 nd:xs.Nodup
 rg:∀ x∈xs,0<=x/\x < m
 l0 : 1<=xs.length
 l1:xs.length<=m
theorem lL {n:Nat} (hn : 3<=n) {b:Addr} {m:Nat} (hm : 1<=m/\m<=1000) {M:Mem} {Q:QD} (hb:Box b M)
 (q:∀ (xs:List Int) p M',Sel m xs->Bx b M M'->M p=none->p≠b->M' p=some (.lst (xs.map .int))->Q (.ref p) M'):phi tab n 23 [.ref b, .int m] M Q:=by
 refine aq (by lia) rfl rfl (ρ := [some _,some _,none,none,none]) rfl ?_
 unfold d23 L2.Mi.K21.b23;walk_at "st";refine ⟨m,rfl,by lia,fun pl L => ?_⟩
 have B:=fF hb L;have x1:=Bx.of hb (Ge.new (o := .lst ((Hz m).map fun i=>D.int (i:Nat))) L);have e1:=aa (M:=M) (a:=pl) (o := .lst ((Hz m).map fun i=>D.int (i:Nat)));generalize ag M pl (.lst ((Hz m).map fun i=>D.int (i:Nat)))=M1 at x1 e1 ⊢;walk_at "st";refine ⟨by rw [tv];lia,fun pf G => ?_⟩
 have j:=fF x1.box G;have O:pl≠pf:=fun z=>by rw [z,G] at e1;cases e1
 have F6:=x1.none G j;have x2:=x1.ge (Ge.new (o := .lst []) G);have e2:=(aj (M:=M1) (o := .lst []) O).trans e1;have f2:=aa (M:=M1) (a:=pf) (o := .lst []);generalize ag M1 pf (.lst [])=M2 at x2 e2 f2 ⊢;clear x1 e1 G;have e2:M2 pl=some (.lst (((Hz m).map fun i=>((i:Nat):Int)).map D.int)):=by rw [e2,Ip];rfl
 walk_at "st";refine aQ (by lia) x2.box (by lia) (by lia) fun v M3 v0 v1 U => ?_
 have e3:=U.keep pl _ B e2;have f3:=U.keep pf _ j f2;have U:=x2.trans U;clear e2 f2 x2;walk_at "wp";refine ⟨by rw [tv];lia,fun pv Y => ?_⟩
 have F7:=fF U.box Y;have gv:=Ge.new (o := .lst [.int (1+v), .int m]) Y;have e4:=gv _ _ e3;have f4:=gv _ _ f3;have x4:=U.ge gv;have v4:=aa (M:=M3) (a:=pv) (o := .lst [.int (1+v), .int m]);generalize ag M3 pv (.lst [.int (1+v), .int m])=M4 at e4 f4 x4 v4 ⊢;clear e3 f3 U gv Y;refine aQ (by lia) x4.box (by decide) (by decide) fun w M5 w0 w1 x5 => ?_
 have e5:=x5.keep pl _ B e4;have f5:=x5.keep pf _ j f4;have v5:=x5.keep pv _ F7 v4;have x5:=x4.trans x5;clear e4 f4 x4 v4;walk_at "wp";have hc:∃ c:Nat,(1<=c/\c<=m)/\atI [D.int (1+v), .int m] (if (w==0)=true then 1 else 0)=some (.int (c:Nat)):=by
  by_cases h:w=0
  ·exact ⟨m,by lia,by subst h;rfl⟩
  ·refine ⟨(1+v).toNat,by lia, ?_⟩
   rw [if_neg (by simpa using h),IY (by lia)];rfl
 obtain ⟨c,hc,ec⟩:=hc;refine av v5 ec ⟨_,rfl,by lia,by lia, ?_⟩
 clear v5 ec w0 w1 v0 v1;rw [HX];refine aP (f:=fun i=>D.int (i:Nat)) (ys:=Hz c) (I:=fun l ρ M' => ∃ (ls fs:List Int) (o4:Option D), ρ = [some (.ref b),some (.int m),some (.ref pl),some (.ref pf),o4]/\Bx b M M'/\M' pl=some (.lst (ls.map .int))/\M' pf=some (.lst (fs.map .int))/\ls.length=m - l.length/\fs.length=l.length/\(ls++fs).Nodup /\ ∀ x∈ls++fs,0<=x/\x < m) aG ⟨_,[],_,rfl,x5,e5,f5,by simp,rfl, ?_, ?_⟩ (fun _ _ _ _=>trivial) ?_ ?_
 ·rw [IH,Iu,Jd];exact (Iu.mp Mk).imp fun {a b} h e=>h (by lia)
 ·intro x hx;rw [IH] at hx;obtain ⟨i,hi,rfl⟩:=HF.mp hx;have:=Ia.mp hi;lia
 ·rintro l i r ρ M6 e ⟨ls,fs,o4,rfl,x6,e6,f6,h1,h2,Z,F5⟩;refine ⟨_,rfl,fun F hF => ?_⟩;have F8:=al e;rw [HQ] at F8;walk_at "st";refine ⟨⟨_,f6⟩,⟨_,e6⟩,fA e6 ?_⟩;rw [q7];refine aQ (by lia) x6.box (by lia) (by lia) fun u M7 u0 u1 x7 => ?_
  have e7:=x7.keep pl _ B e6;have f7:=x7.keep pf _ j f6;have x7:=x6.trans x7;clear e6 f6 x6;obtain ⟨u,rfl⟩:∃ k:Nat,u=k:=⟨u.toNat,by lia⟩
  have hu:u < ls.length:=by lia
  have hy:ls[u]? = some ls[u]:=z4 hu;have F9:ls=ls.take u++ls[u]::ls.drop (u+1):=by rw [List.getElem_cons_drop,J0]
  refine ⟨pl,_,u, .int ls[u],rfl,rfl,e7,by rw [HM,hy];rfl,by lia, ?_⟩
  have er:(ls.map D.int).eraseIdx u=(ls.take u++ls.drop (u+1)).map D.int:=by
   rw [Ko,IV,P7,P9]
  rw [er];have x8:Bx b M (ag M7 pl (.lst ((ls.take u++ls.drop (u+1)).map D.int))):=x7.upd L B;have e8:=aa (M:=M7) (a:=pl) (o := .lst ((ls.take u++ls.drop (u+1)).map D.int));have f8:=(aj (M:=M7) (o := .lst ((ls.take u++ls.drop (u+1)).map D.int)) O.symm).trans f7;generalize ag M7 pl (.lst ((ls.take u++ls.drop (u+1)).map D.int))=M8 at x8 e8 f8 ⊢;have J:(ls.take u++ls.drop (u+1)++(fs++[ls[u]])).Perm (ls++fs):=by
   have p1:(ls++fs).Perm (ls[u]::(ls.take u++ls.drop (u+1)++fs)):=by
    conv=>lhs;rw [F9]
    rw [Hn,Hn];exact Qi
   refine JJ.trans ?_ p1.symm;rw [<- Hn];exact K0
  refine ⟨pf,_,_,rfl,rfl,f8,by rw [q7,tv];lia, ?_⟩
  refine hF _ _ ⟨ls.take u++ls.drop (u+1),fs++[ls[u]],_,rfl,x8.upd F6 j,(aj O).trans e8,by rw [aa,IV];rfl, ?_, ?_,J.nodup_iff.mpr Z,fun x hx=>F5 x (J.mem_iff.mp hx)⟩
  ·rw [D0,HD,J7,D0,HI];lia
  ·rw [D0,D0,HI,HI];lia
 ·rintro ρ M6 ⟨ls,fs,o4,rfl,x6,e6,f6,h1,h2,Z,F5⟩;rw [HQ] at h2;dsimp only;walk_at "st";exact q fs pf M6 ⟨(KY.mp Z).2.1,fun x hx=>F5 x (HA _ hx),by lia,by lia⟩ x6 F6 j f6
theorem A8 {k:Nat} {M:Mem}:∀ l:List (Int×Int),aD (rb (k+1) M) (l.map pD)=some (l.map fun q=>PX [.int q.1, .int q.2])
 | [] => rfl
 | q::l=>by
   have e:rb (k+1) M (pD q)=some (.tuple [.int q.1, .int q.2]):=by
    have z:∀ x:Int,rb k M (.int x)=some (.int x):=fun x=>by cases k <;> rfl
    simp [pD,rb,aD,z]
   simp [aD,e,A8 l]
theorem zr {l:List Int}:(nz l).isEmpty = !nzB l:=by
 have h:∀ (l:List Int) (k:Nat),((l.mapIdx fun i x=>(((i+k:Nat):Int),x)).filter fun q => !(q.2==0)).isEmpty = !nzB l:=by
  intro l
  induction l with
  | nil=>intro k;rfl
  | cons x l ih =>
    intro k;rw [List.mapIdx_cons];have ih:=ih (k+1);unfold nzB at ih ⊢;rw [Jp]
    by_cases c:x=0
    ·subst c;rw [IB (by simp)]
     simp only [bne_self_eq_false,Lg];rw [<- ih];congr 3
     funext i x
     congr 2;lia
    ·rw [IA (by simpa using c)]
     simp [c]
 unfold nz idx;exact h l 0
theorem DD {l:List Int} {a b:Addr} {M:Mem} {Q:QD} (j:M a=some (.lst ((nz l).map pD))) (z:M b=some (.lst [])) (q:Q (.bl (nzB l)) M):wNe (.ref a) (.ref b) M Q:=by
 refine ⟨.list ((nz l).map fun q=>PX [.int q.1, .int q.2]), .list [],by rw [cG j,A8];rfl,by rw [cG z];rfl, ?_⟩
 have e:=zr (l:=l)
 cases hz:nz l with
 | nil=>rw [hz] at e;simp at e;simp [Im,IW];rw [e] at q;exact q
 | cons x r=>rw [hz] at e;simp at e;simp [Im,IW];rw [e] at q;exact q
theorem ju {A:List Int} {l:List Int} {u:Pr} {s:Nat} (es:atI [D.tup (u.1.map .int),D.tup (u.2.1.map .int),D.tup (u.2.2.map .int)] (s:Nat)=some (D.tup (l.map .int))) (z:∀ i∈A,0<=i/\i < l.length) (la:A.length<=100000) {M:Mem} {N:NC} {chk:Mem->Prop} (B:chk M) (q:∀ ρ,N ρ M ((ao A l).map .int)) {o0:Option D} :
 bo (bn 0) (bQ (wOp wIx (wOp wIx (bD 1) (bD 2)) (bD 0))) chk N (A.map .int) [o0,some (prD u),some (.int (s:Nat))] M []:=by
 refine ay (f:=D.int) (ys:=A) (I:=fun s' ρ M' acc=>(∃ o0, ρ = [o0,some (prD u),some (.int (s:Nat))])/\M'=M/\acc=(ao s' l).map .int) rfl ⟨⟨_,rfl⟩,rfl,rfl⟩ (fun _ _ _ _ h=>by rw [h.2.1];exact B) ?_ ?_
 ·rintro s' t r ρ M1 acc e ⟨⟨o0,rfl⟩,rfl,rfl⟩;refine ⟨_,rfl,fun N' j => ?_⟩;have hs:=al e;obtain ⟨h0,h1⟩:=z t (by rw [e];simp)
  obtain ⟨t,rfl⟩:=Ik h0;unfold prD;walk_at "wp";refine ⟨_,es, ?_⟩;walk_at "wp";refine ⟨_,A6 (J8.mp h1),by rw [q7,bA,tv];lia,j _ _ _ ⟨⟨_,rfl⟩,rfl,by simp [ao]⟩⟩
 ·rintro ρ M1 acc ⟨⟨o0,rfl⟩,rfl,rfl⟩;exact q _
theorem wW {k:Nat} (hk : 2<=k) {N0 N1 N2:Nat} {A B C:List Int} (G:Plc N0 N1 N2 A B C) {ps:List Pr} (hp:lK N0 N1 N2 ps) (hl:ps.length<=1000) {x0 x1 x2:D} {pp pl pa pb pc:Addr} {M:Mem} {Q:QD} (ep:M pp=some (.lst (ps.map prD))) (el:M pl=some (.lst [.ref pa, .ref pb, .ref pc])) (ea:M pa=some (.lst (A.map .int))) (eb:M pb=some (.lst (B.map .int))) (ec:M pc=some (.lst (C.map .int)))
 (q:∀ p M',Ge M M'->M p=none->M' p=some (.lst ((aU A B C ps).map prD))->Q (.tup [.int A.length, .int B.length, .int C.length, .ref p]) M'):phi tab k 24 [.tup [x0,x1,x2, .ref pp], .ref pl] M Q:=by
 refine aq (by lia) rfl rfl (ρ := [some _,some _,none,none,none]) rfl ?_
 unfold d24 L2.Mi.K21.b24;walk_at "st";refine ⟨by rw [tv];lia,fun pf z => ?_⟩
 have g1:=Ge.new (o := .lst []) z;have e1:=aa (M:=M) (a:=pf) (o := .lst []);generalize ag M pf (.lst [])=M1 at g1 e1 ⊢;walk_at "st";refine ⟨_,rfl,_,ad (g1 _ _ ep), ?_⟩;refine aP (f:=prD) (ys:=ps) (I:=fun l ρ M'=>(∃ Z o4, ρ = [some (.tup [x0,x1,x2, .ref pp]),some (.ref pl),some (.ref pf),Z,o4])/\Ge M M'/\M' pf=some (.lst ((aU A B C l).map prD))) rfl ⟨⟨_,_,rfl⟩,g1,e1⟩ (fun _ _ _ h=>ad (h.2.1 _ _ ep)) ?_ ?_
 ·rintro l u r ρ M2 e ⟨⟨Z,o4,rfl⟩,g2,e2⟩;refine ⟨_,rfl,fun F hF => ?_⟩;have Fb:=al e;obtain ⟨h0,h1,h2⟩:=hp u (by rw [e];simp)
  have F5:=IM okP (l.map (cb A B C));rw [q7] at F5;have F6:=G.la;have F7:=G.lb;have F8:=G.lc;walk_at "st";refine ⟨by lia,by lia,trivial,_,rfl, ?_⟩
  walk_at "wp";refine av (g2 _ _ el) (d := .ref pa) rfl ⟨_,ad (g2 _ _ ea), ?_⟩;refine ju (s := 0) rfl (fun i hi=>by rw [h0];exact G.a i hi) (by lia) (ad (g2 _ _ ea)) fun ρ q1 hq1=>⟨_,_,rfl,ad aa, ?_⟩
  have g3:=g2.trans (Ge.new (o := .lst ((ao A u.1).map .int)) hq1);have e3:=Ge.new (o := .lst ((ao A u.1).map .int)) hq1 _ _ e2;generalize ag M2 q1 (.lst ((ao A u.1).map .int))=M3 at g3 e3 ⊢;refine ⟨by rw [tv];lia,trivial,_,rfl, ?_⟩
  walk_at "wp";refine av (g3 _ _ el) (d := .ref pb) rfl ⟨_,ad (g3 _ _ eb), ?_⟩;refine ju (s := 1) rfl (fun i hi=>by rw [h1];exact G.b i hi) (by lia) (ad (g3 _ _ eb)) fun ρ q2 hq2=>⟨_,_,rfl,ad aa, ?_⟩
  have J:=g3.trans (Ge.new (o := .lst ((ao B u.2.1).map .int)) hq2);have e4:=Ge.new (o := .lst ((ao B u.2.1).map .int)) hq2 _ _ e3;generalize ag M3 q2 (.lst ((ao B u.2.1).map .int))=M4 at J e4 ⊢;refine ⟨by rw [tv];simp,trivial,_,rfl, ?_⟩
  walk_at "wp";refine av (J _ _ el) (d := .ref pc) rfl ⟨_,ad (J _ _ ec), ?_⟩;refine ju (s := 2) rfl (fun i hi=>by rw [h2];exact G.c i hi) (by lia) (ad (J _ _ ec)) fun ρ q3 hq3=>⟨_,_,rfl,ad aa, ?_⟩
  have g5:=J.trans (Ge.new (o := .lst ((ao C u.2.2).map .int)) hq3);have e5:=Ge.new (o := .lst ((ao C u.2.2).map .int)) hq3 _ _ e4;generalize ag M4 q3 (.lst ((ao C u.2.2).map .int))=M5 at g5 e5 ⊢;refine ⟨by rw [tv];simp,trivial,fun p4 h4 => ?_⟩
  have U:=aa (M:=M5) (a:=p4) (o := .lst ([ao A u.1,ao B u.2.1,ao C u.2.2].map fun w=>D.tup (w.map .int)));have g6:=g5.trans (Ge.new (o := .lst ([ao A u.1,ao B u.2.1,ao C u.2.2].map fun w=>D.tup (w.map .int))) h4);have e7:=Ge.new (o := .lst ([ao A u.1,ao B u.2.1,ao C u.2.2].map fun w=>D.tup (w.map .int))) h4 _ _ e5;change wSs _ _ _ _ (ag M5 p4 (.lst ([ao A u.1,ao B u.2.1,ao C u.2.2].map fun w=>D.tup (w.map .int))));generalize ag M5 p4 (.lst ([ao A u.1,ao B u.2.1,ao C u.2.2].map fun w=>D.tup (w.map .int)))=M6 at g6 U e7 ⊢;clear g3 J g5 e3 e4 e5 e2 h4 hq1 hq2 hq3;walk_at "st";refine ⟨_,ad U, ?_⟩;refine ay (f:=fun w:List Int=>D.tup (w.map .int)) (ys := [ao A u.1,ao B u.2.1,ao C u.2.2]) (I:=fun l' ρ M' acc=>(∃ o0, ρ = [o0])/\Ge M6 M'/\acc=l'.map fun w=>D.bl (nzB w)) rfl ⟨⟨_,rfl⟩,Ge.refl,rfl⟩ (fun _ _ _ _ h=>ad (h.2.1 _ _ U)) ?_ ?_
  ·rintro l' w r' ρ Y acc e' ⟨⟨o0,rfl⟩,g7,rfl⟩;refine ⟨_,rfl,fun N hN => ?_⟩;have Fa:l'.length < 3:=al e';have hw:w∈[ao A u.1,ao B u.2.1,ao C u.2.2]:=by rw [e'];simp
   have Fc:w.length<=1000:=by
    simp only [Ho,HZ,or_false] at hw
    rcases hw with rfl | rfl | rfl
    ·rw [bA];exact F6
    ·rw [bA];exact F7
    ·rw [bA];exact F8
   walk_at "wp";refine wN (by lia) (by lia) fun pn F9 => ?_
   have en:=aa (M:=Y) (a:=pn) (o := .lst ((nz w).map pD));have j:=Ge.new (o := .lst ((nz w).map pD)) F9;generalize ag Y pn (.lst ((nz w).map pD))=M8 at en j ⊢;refine ⟨by rw [tv];lia,fun pz L => ?_⟩
   refine DD (Ge.new L _ _ en) aa ?_;exact ⟨by rw [q7,tv];lia,hN _ _ _ ⟨⟨_,rfl⟩,g7.trans (j.trans (Ge.new L)),by simp⟩⟩
  ·rintro ρ Y acc ⟨⟨o0,rfl⟩,g7,rfl⟩ pq hpq;refine ⟨_,_,[nzB (ao A u.1),nzB (ao B u.2.1),nzB (ao C u.2.2)],rfl,ad aa,rfl, ?_⟩;have e : [nzB (ao A u.1),nzB (ao B u.2.1),nzB (ao C u.2.2)].all id=okP (cb A B C u):=by simp [okP,cb]
   rw [e];have j:=g7.trans (Ge.new (o := .lst ([ao A u.1,ao B u.2.1,ao C u.2.2].map fun w=>D.bl (nzB w))) hpq);generalize ag Y pq _=M8 at j ⊢;have e8:=j _ _ e7;have e9:=j _ _ U;refine ⟨_,rfl, ?_⟩;have ecut:aU A B C (l++[u])=aU A B C l++[cb A B C u].filter okP:=by simp [aU]
   cases ho:okP (cb A B C u) with
   | true =>
     rw [if_pos rfl];walk_at "st";refine ⟨⟨_,e8⟩,_,_,rfl,ad e9,pf,_,_,rfl,rfl,e8,by rw [q7,tv];unfold aU;lia, ?_⟩
     refine hF _ _ ⟨⟨_,_,rfl⟩,(g6.trans j).upd z, ?_⟩;rw [aa,ecut,IA ho,IV];rfl
   | false =>
     rw [if_neg (by simp)]
     walk_at "wp";refine hF _ _ ⟨⟨_,_,rfl⟩,g6.trans j, ?_⟩;rw [ecut,IB (by rw [ho];simp)];simpa using e8
 ·rintro ρ M2 ⟨⟨Z,o4,rfl⟩,g2,e2⟩;dsimp only;walk_at "st";refine ⟨_,ad (g2 _ _ el), ?_⟩;have es:=ad (g2 _ _ el);refine ⟨es,_,rfl, ?_⟩;walk_at "wp";refine ⟨_,_,rfl,cM (ad (g2 _ _ ea)),by rw [tv];lia,es,_,rfl, ?_⟩
  walk_at "wp";refine ⟨_,_,rfl,cM (ad (g2 _ _ eb)),by rw [tv];simp,es,_,rfl, ?_⟩
  walk_at "wp";refine ⟨_,_,rfl,cM (ad (g2 _ _ ec)),by rw [tv];simp,es,fun pt O => ?_⟩
  rw [q7,q7,q7];refine ⟨_,_,rfl,ad aa,by rw [tv];lia, .inr trivial,by rw [tv];simp, ?_⟩
  exact q pf _ (g2.trans (Ge.new O)) z (Ge.new O _ _ e2)
theorem qo {i:Int} {A:List Int} {p:Addr} {M:Mem} {Q:QD} (e:M p=some (.lst (A.map .int))) (q:Q (.bl (decide (i∈A))) M):tz (.int i) (.ref p) M Q:=⟨A,ad e,q⟩
theorem BH {k:Nat} (hk : 1<=k) {A B C:List Int} {L:List Tm} (hn:(L.map (·.1)).Nodup) (hl:L.length<=10000000) {d pl pa pb pc:Addr} {M:Mem} {Q:QD} (ed:M d=some (.dct true (L.map kcD))) (el:M pl=some (.lst [.ref pa, .ref pb, .ref pc])) (ea:M pa=some (.lst (A.map .int))) (eb:M pb=some (.lst (B.map .int))) (ec:M pc=some (.lst (C.map .int)))
 (q:∀ f M',(∀ a o,a≠d->M a=some o->M' a=some o)->f≠d->M f=none->M' f=some (.dct true ((bb A B C L).map kcD))->Q (.ref f) M'):phi tab k 25 [.ref d, .ref pl] M Q:=by
 refine aq (by lia) rfl rfl (ρ := [some _,some _,none,none,none,none]) rfl ?_
 unfold d25 L2.Mi.K21.b25;walk_at "st";intro f hf;have g0:=Ge.new (o := .dct true []) hf;have e0:=aa (M:=M) (a:=f) (o := .dct true []);have U:f≠d:=fun z=>by rw [z,ed] at hf;cases hf
 have Y:=g0 _ _ ed;have nl:∀ {a:Addr} {xs:List D},M a=some (.lst xs)->a≠d:=fun h z=>by rw [z,ed] at h;cases h
 have nf:∀ {a:Addr} {o:O},M a=some o->a≠f:=fun h z=>by rw [z,hf] at h;cases h
 generalize ag M f (.dct true [])=M0 at g0 e0 Y ⊢;walk_at "st";refine rF rfl Y ?_;have fd:=aa (M:=M0) (a:=d) (o := .fdc (L.map kcD));have k1:∀ a o,a≠d->M a=some o->ag M0 d (.fdc (L.map kcD)) a=some o:=fun a o n e=>by rw [aj n];exact g0 _ _ e
 have e1:=(aj (M:=M0) (o := .fdc (L.map kcD)) U).trans e0;generalize ag M0 d (.fdc (L.map kcD))=M1 at fd k1 e1 ⊢;clear g0 e0 Y;walk_at "wp";refine ⟨_,fd, ?_⟩;refine aP (f:=fun t:Tm=>k3D t.1) (ys:=L) (I:=fun l ρ M'=>(∃ o3 o4 o5, ρ = [some (.ref d),some (.ref pl),some (.ref f),o3,o4,o5])/\(∀ a o,a≠d->M a=some o->M' a=some o)/\M' d=some (.fdc (L.map kcD))/\M' f=some (.dct true ((bb A B C l).map kcD))) (by rw [Ip];rfl) ⟨⟨_,_,_,rfl⟩,k1,fd,e1⟩ (fun _ _ _ _=>by first | rfl | trivial) ?_ ?_
 ·rintro l t r ρ M2 e ⟨⟨o3,o4,o5,rfl⟩,J,G,e2⟩;refine ⟨_,rfl,fun F hF => ?_⟩;have ht:t∈L:=by rw [e];simp
  have F8:=al e;have j:=J _ _ (nl el) el;have Z:=J _ _ (nl ea) ea;have F5:=J _ _ (nl eb) eb;have F6:=J _ _ (nl ec) ec;have ecut:bb A B C (l++[t])=bb A B C l++bb A B C [t]:=by simp [bb]
  have skip : ¬ (t.1.1∈C/\t.1.2.1∈A/\t.1.2.2∈B)->F [some (.ref d),some (.ref pl),some (.ref f),some (.int t.1.1),some (.int t.1.2.1),some (.int t.1.2.2)] M2:=fun h=>by
   refine hF _ _ ⟨⟨_,_,_,rfl⟩,J,G, ?_⟩;rw [ecut,show bb A B C [t]=[] by unfold bb;rw [J9,show F3 A B C t=none by unfold F3;rw [if_neg h]];rfl,IH];exact e2
  walk_at "st";refine av j (d := .ref pc) rfl (qo F6 ?_);refine ⟨_,rfl, ?_⟩
  by_cases c1:t.1.1∈C
  case neg=>rw [if_neg (by simpa using c1)];exact skip fun h=>c1 h.1
  rw [if_pos (by simpa using c1)]
  refine av j (d := .ref pa) rfl (qo Z ⟨_,rfl, ?_⟩)
  by_cases c2:t.1.2.1∈A
  case neg=>rw [if_neg (by simpa using c2)];exact skip fun h=>c2 h.2.1
  rw [if_pos (by simpa using c2)]
  refine av j (d := .ref pb) rfl (qo F5 ⟨_,rfl, ?_⟩)
  by_cases c3:t.1.2.2∈B
  case neg=>rw [if_neg (by simpa using c3)];exact skip fun h=>c3 h.2.2
  rw [if_pos (by simpa using c3)]
  walk_at "st";have s3 : 0+1+1+1<=Hj:=by rw [tv];lia
  refine ⟨s3,pO G (gi t.1) (eP hn ht) ?_⟩;refine av j (d := .ref pc) rfl ⟨⟨_,rfl,_,F6⟩,pc,C,_,rfl,rfl,F6,c1, ?_⟩;refine av j (d := .ref pa) rfl ⟨⟨_,rfl,_,Z⟩,pa,A,_,rfl,rfl,Z,c2, ?_⟩;refine av j (d := .ref pb) rfl ⟨⟨_,rfl,_,F5⟩,pb,B,_,rfl,rfl,F5,c3,s3, ?_⟩;have F9:(bb A B C l).length<=l.length:=List.length_filterMap_le _ _;refine ji e2 (gi (((C.idxOf t.1.1:Nat):Int),((A.idxOf t.1.2.1:Nat):Int),((B.idxOf t.1.2.2:Nat):Int))) (by rw [q7,tv];lia) ?_
  rw [show D.tup [.int ((C.idxOf t.1.1:Nat):Int), .int ((A.idxOf t.1.2.1:Nat):Int), .int ((B.idxOf t.1.2.2:Nat):Int)]=k3D (((C.idxOf t.1.1:Nat):Int),((A.idxOf t.1.2.1:Nat):Int),((B.idxOf t.1.2.2:Nat):Int)) from rfl,jl];have F7:∀ u∈l,u.1≠t.1:=fun u hu=>by
   rw [e,IV,HE] at hn;exact (KY.mp hn).2.2 _ (HS hu) _ Ir
  have hk:cZ (bb A B C l) (((C.idxOf t.1.1:Nat):Int),((A.idxOf t.1.2.1:Nat):Int),((B.idxOf t.1.2.2:Nat):Int)) t.2=bb A B C (l++[t]):=by
   rw [ecut,show bb A B C [t]=[((((C.idxOf t.1.1:Nat):Int),((A.idxOf t.1.2.1:Nat):Int),((B.idxOf t.1.2.2:Nat):Int)),t.2)] by unfold bb;rw [J9,show F3 A B C t=some ((((C.idxOf t.1.1:Nat):Int),((A.idxOf t.1.2.1:Nat):Int),((B.idxOf t.1.2.2:Nat):Int)),t.2) by unfold F3;rw [if_pos ⟨c1,c2,c3⟩]];rfl]
   unfold cZ;rw [if_neg];intro h;obtain ⟨x,hx,hd⟩:=JA.mp h;exact qm F7 ⟨c1,c2,c3⟩ x hx (of_decide_eq_true hd)
  rw [hk];exact hF _ _ ⟨⟨_,_,_,rfl⟩,fun a o n h=>by rw [aj (nf h)];exact J a o n h,by rw [aj U.symm];exact G,aa⟩
 ·rintro ρ M2 ⟨⟨o3,o4,o5,rfl⟩,J,G,e2⟩;dsimp only;walk_at "st";exact q f M2 J U hf e2
theorem zt {k:Nat} (hk : 1<=k) {n m p a b c:Nat} (hs:n<=9/\m<=9/\p<=9) (Y:a<=9/\b<=9/\c<=9) {M:Mem} {Q:QD}
 (q:∀ pl j B p2 M',Ge M M'->M' pl=some (.lst [.ref j, .ref B, .ref p2])->M' j=some (.lst ((tA a b m).map .int))->M' B=some (.lst ((tA b c p).map .int))->M' p2=some (.lst ((tA a c p).map .int))->Q (.ref pl) M'):phi tab k 26 [.tup (t3 n m p), .tup (t3 a b c)] M Q:=by
 refine aq (by lia) rfl rfl (ρ := [some _,some _,none,none,none,none,none]) rfl ?_
 unfold d26 L2.Mi.K21.b26;walk_at "st";refine ⟨by rw [tv];lia,fun pf F5 => ?_⟩
 have g1:=Ge.new (o := .lst []) F5;have e1:=aa (M:=M) (a:=pf) (o := .lst []);generalize ag M pf (.lst [])=M1 at g1 e1 ⊢;walk_at "st";have s2 : 0+1+1<=Hj:=by rw [tv];lia
 refine ⟨s2,s2,s2,by rw [tv];lia, ?_⟩
 refine aP (f:=fun q:Nat×Nat=>D.tup [.int (q.1:Nat), .int (q.2:Nat)]) (ys := [(0,1),(1,2),(0,2)]) (I:=fun l ρ M'=>(∃ o3 o4 o5 L, ρ = [some (.tup (t3 n m p)),some (.tup (t3 a b c)),some (.ref pf),o3,o4,o5,L])/\Ge M M' /\ ∃ qs:List (Addr×Nat×Nat),qs.map (·.2)=l/\M' pf=some (.lst (qs.map fun q => .ref q.1)) /\ ∀ q∈qs,q.1≠pf/\M' q.1=some (.lst (nsD (tp ([a,b,c].getD q.2.1 0) ([a,b,c].getD q.2.2 0) 0 0 ([n,m,p].getD q.2.2 0))))) rfl ⟨⟨_,_,_,_,rfl⟩,g1,[],rfl,e1,fun _ h=>by cases h⟩ (fun _ _ _ _=>by first | rfl | trivial) ?_ ?_
 ·rintro l w r ρ M2 e ⟨⟨o3,o4,o5,L,rfl⟩,g2,qs,rfl,e2,J⟩;refine ⟨_,rfl,fun F hF => ?_⟩;have hx:=s9 e;have O:=al e;rw [q7] at O;have O:qs.length < 3:=O;walk_at "st";refine ⟨by rw [tv];lia,fun ps G => ?_⟩
  have nps:ps≠pf:=fun z=>by rw [<- z,G] at e2;cases e2
  have g3:=Ge.new (o := .lst []) G;have F9:M ps=none:=iH g2 G;have e3:=aa (M:=M2) (a:=ps) (o := .lst []);generalize ag M2 ps (.lst [])=M3 at g3 e3 ⊢;walk_at "st";have bR:=bd3 Y.1 Y.2.1 Y.2.2 hx.1;have bC:=bd3 Y.1 Y.2.1 Y.2.2 hx.2;have bW:=bd3 hs.1 hs.2.1 hs.2.2 hx.2;have aR:=S3 (x:=a) (y:=b) (z:=c) hx.1;have aC:=S3 (x:=a) (y:=b) (z:=c) hx.2;have aW:=S3 (x:=n) (y:=m) (z:=p) hx.2;generalize hR : [a,b,c].getD w.1 0=R at bR aR;generalize hC : [a,b,c].getD w.2 0=C at bC aC;generalize hW : [n,m,p].getD w.2 0=W at bW aW;refine ⟨_,aR,_,rfl,by lia,by lia, ?_⟩
  rw [HX];refine aP (f:=fun i=>D.int (i:Nat)) (ys:=Hz R) (I:=fun l2 ρ M'=>(∃ L, ρ = [some (.tup (t3 n m p)),some (.tup (t3 a b c)),some (.ref pf),some (.int (w.1:Nat)),some (.int (w.2:Nat)),some (.ref ps),L])/\Ge M2 M'/\M' ps=some (.lst (nsD (tqs C 0 0 W l2)))) aG ⟨⟨_,rfl⟩,g3,e3⟩ (fun _ _ _ _=>trivial) ?_ ?_
  ·rintro l2 x r2 ρ M4 e' ⟨⟨L,rfl⟩,Z,e4⟩;refine ⟨_,rfl,fun F2 F7 => ?_⟩;have F8:=al e';rw [HQ] at F8;have Fa:x < R:=Ia.mp (by rw [e'];simp)
   walk_at "st";refine ⟨⟨_,e4⟩,_,aC,_,rfl,by lia,by lia, ?_⟩
   rw [HX];refine ay (f:=fun i=>D.int (i:Nat)) (ys:=Hz C) (I:=fun l3 ρ M' acc=>(∃ o0, ρ = [o0,some (.int (x:Nat)),some (.tup (t3 n m p)),some (.int (w.2:Nat))])/\M'=M4/\acc=nsD (tq C 0 0 W x l3)) aG ⟨⟨_,rfl⟩,rfl,rfl⟩ (fun _ _ _ _ _=>trivial) ?_ ?_
   ·rintro l3 y r3 ρ M5 acc e3 ⟨⟨o0,rfl⟩,rfl,rfl⟩;refine ⟨_,rfl,fun N hN => ?_⟩;have U:=al e3;rw [HQ] at U;walk_at "wp";refine ⟨_,aW, ?_⟩;walk_at "wp";rw [<- K7, <- Lm];refine ⟨dk (by lia),by rw [iI];simp [tq];rw [tv];lia,hN _ _ _ ⟨⟨_,rfl⟩,rfl,by simp [nsD,tq]⟩⟩
   ·rintro ρ M5 acc ⟨⟨o0,rfl⟩,rfl,rfl⟩ pe hpe;have gp:=Ge.new (o := .lst (nsD (tq C 0 0 W x (Hz C)))) hpe;have lm:l2.length*C<=9*9:=Jt (by lia) bC
    refine ⟨ps,pe,_,_,rfl,rfl,gp _ _ e4,aa,by rw [iI,iI,lD,tv];simp [tq];lia, ?_⟩
    refine F7 _ _ ⟨⟨_,rfl⟩,(Z.trans gp).upd G, ?_⟩;rw [aa];simp [nsD,tqs,Kq]
  ·rintro ρ M4 ⟨⟨L,rfl⟩,Z,e4⟩;dsimp only;walk_at "st";refine ⟨⟨_,Z _ _ e2⟩,pf,_,_,rfl,rfl,Z _ _ e2,by rw [q7,tv];lia, ?_⟩
   refine hF _ _ ⟨⟨_,_,_,_,rfl⟩,(g2.trans Z).upd F5,qs++[(ps,w)],by simp,by rw [aa];simp,fun y hy => ?_⟩
   rcases Hv.mp hy with h | h
   ·exact ⟨(J y h).1,by rw [aj (J y h).1];exact Z _ _ (J y h).2⟩
   ·simp at h;subst h;refine ⟨nps, ?_⟩;rw [aj nps,e4,hR,hC,hW];rfl
 ·rintro ρ M2 ⟨⟨o3,o4,o5,L,rfl⟩,g2,qs,F6,e2,J⟩;dsimp only;walk_at "st";obtain ⟨j,B,p2,rfl⟩:∃ j B p2,qs=[(j,0,1),(B,1,2),(p2,0,2)]:=by
   have U:qs.length=3:=by simpa using congrArg Ku F6
   clear J e2
   match qs,U,F6 with
   | [x,y,z],_,h =>
    obtain ⟨j,x⟩:=x;obtain ⟨B,y⟩:=y;obtain ⟨p2,z⟩:=z;simp at h;obtain ⟨rfl,rfl,rfl⟩:=h;exact ⟨j,B,p2,rfl⟩
  have w0:=(J _ (by simp:(j,0,1)∈_)).2
  have w1:=(J _ (by simp:(B,1,2)∈_)).2
  have w2:=(J _ (by simp:(p2,0,2)∈_)).2
  rw [wR] at w0 w1 w2;exact q pf j B p2 M2 g2 e2 w0 w1 w2
theorem zu {n:Nat} (J : 2<=n) {b:Addr} {K:Int} {M:Mem} {N:NC} (L:Box b M) (Y:K=0∨K=1)
 (q:∀ (ns:List Int) ρ M',ns.length=3->(∀ y∈ns,1<=y/\y<=12)->Bx b M M'->N ρ M' (ns.map .int)) :
 bo (bn 0) (bQ (wOp fO (wOp fO (wC (.int 1)) (wOp iX (wC (.int 6)) (bD 1))) (wAr (phi tab n 8) (aH (bD 2) (aH (wC (.int 6)) bI))))) (fun _=>True) N (cv 0 (3:Int).toNat) [none,some (.int K),some (.ref b)] M []:=by
 refine ay (f:=fun i=>D.int (i:Nat)) (I:=fun l ρ M' acc => ∃ ns:List Int,(∃ o, ρ = [o,some (.int K),some (.ref b)])/\acc=ns.map .int/\ns.length=l.length/\(∀ y∈ns,1<=y/\y<=12)/\Bx b M M') aG ⟨[],⟨_,rfl⟩,rfl,rfl,fun _ h=>by simp at h,Bx.refl L⟩ (fun _ _ _ _ _=>trivial) ?_ ?_
 ·rintro l i r ρ M1 acc e ⟨ns,⟨o,rfl⟩,rfl,z,B,j⟩;refine ⟨_,rfl,fun N' F => ?_⟩;have G:=al e;rw [HQ] at G;walk_at "wp";refine ⟨dk (by lia), ?_⟩
  refine aQ J j.box (by lia) (by lia) fun v M2 v0 v1 O => ?_
  walk_at "wp";refine ⟨by rw [q7,tv];lia,F _ _ _ ⟨ns++[1+6*K+v],⟨_,rfl⟩,by simp,by simp [z],fun y U => ?_,j.trans O⟩⟩
  rcases Hv.mp U with h | h
  ·exact B y h
  ·simp at h;subst h;lia
 ·rintro ρ M1 acc ⟨ns,⟨o,rfl⟩,rfl,z,B,j⟩;exact q ns _ M1 z B j
structure S (pr pa pb pc pl p0 p1 p2 p3 pk pd:Addr) (rs:List Pr) (A B C:List Int) (M:Mem):Prop where
 r:M pr=some (.lst (rs.map prD))
 a:M pa=some (.lst (A.map .int))
 b:M pb=some (.lst (B.map .int))
 c:M pc=some (.lst (C.map .int))
 l:M pl=some (.lst [.ref pa, .ref pb, .ref pc])
 r':M p0=some (.lst (rs.map prD))
 a':M p1=some (.lst (A.map .int))
 b':M p2=some (.lst (B.map .int))
 c':M p3=some (.lst (C.map .int))
 k:M pk=some (.lst [.ref p0, .ref p1, .ref p2, .ref p3])
 d:M pd=some (.lst ((aU A B C rs).map prD))
theorem S.ge {pr pa pb pc pl j q p2 z pk pd:Addr} {rs:List Pr} {A B C:List Int} {M M':Mem} (h:S pr pa pb pc pl j q p2 z pk pd rs A B C M) (g:Ge M M'):S pr pa pb pc pl j q p2 z pk pd rs A B C M' :=
 ⟨g _ _ h.r,g _ _ h.a,g _ _ h.b,g _ _ h.c,g _ _ h.l,g _ _ h.r',g _ _ h.a',g _ _ h.b',g _ _ h.c',g _ _ h.k,g _ _ h.d⟩
theorem S.upd {pr pa pb pc pl j q p2 F pk pd x:Addr} {rs:List Pr} {A B C:List Int} {M M':Mem} {o:O} (h:S pr pa pb pc pl j q p2 F pk pd rs A B C M) (h':S pr pa pb pc pl j q p2 F pk pd rs A B C M') (n:M x=none):S pr pa pb pc pl j q p2 F pk pd rs A B C (ag M' x o):=by
 have ne:∀ {a:Addr} {u:O},M a=some u->a≠x:=fun e z=>by rw [z,n] at e;cases e
 exact ⟨(aj (ne h.r)).trans h'.r,(aj (ne h.a)).trans h'.a,(aj (ne h.b)).trans h'.b,(aj (ne h.c)).trans h'.c,(aj (ne h.l)).trans h'.l,(aj (ne h.r')).trans h'.r',(aj (ne h.a')).trans h'.a',(aj (ne h.b')).trans h'.b',(aj (ne h.c')).trans h'.c',(aj (ne h.k)).trans h'.k,(aj (ne h.d)).trans h'.d⟩
theorem zv {n:Nat} (G : 3<=n) {b:Addr} {j z F:Nat} (h0 : 1<=j/\j<=12) (h1 : 1<=z/\z<=12) (h2 : 1<=F/\F<=12) {M:Mem} {N:NC} (U:Box b M)
 (q:∀ (A B C:List Int) pa pb pc ρ M',Sel j A->Sel z B->Sel F C->Bx b M M'->M' pa=some (.lst (A.map .int))->M' pb=some (.lst (B.map .int))->M' pc=some (.lst (C.map .int))->N ρ M' [.ref pa, .ref pb, .ref pc]) :
 bo (bn 0) (bQ (wAr (phi tab n 23) (aH (bD 1) (aH (bD 0) bI)))) (fun M=>aw M (.tup [.int j, .int z, .int F])=some [.int j, .int z, .int F]) N [.int j, .int z, .int F] [none,some (.ref b)] M []:=by
 refine ⟨by first | rfl | trivial,_,rfl, ?_⟩
 walk_at "wp";refine lL G (by lia) U fun A pa M1 Y O _ na ea=>⟨by rw [tv];lia, ?_⟩
 refine ⟨by first | rfl | trivial,_,rfl, ?_⟩
 walk_at "wp";refine lL G (by lia) O.box fun B pb M2 Z J _ nb eb=>⟨by rw [tv];simp, ?_⟩
 have ea:=J.keep pa _ na ea;refine ⟨by first | rfl | trivial,_,rfl, ?_⟩
 walk_at "wp";refine lL G (by lia) J.box fun C pc M3 hC L _ nc ec=>⟨by rw [tv];simp, ?_⟩
 have ea:=L.keep pa _ na ea;have eb:=L.keep pb _ nb eb;exact ⟨by first | rfl | trivial,q A B C pa pb pc _ M3 Y Z hC ((O.trans J).trans L) ea eb ec⟩
theorem wX {Φ:Phi} {a b c:Addr} {A B C:List D} {M:Mem} {chk:Mem->Prop} {N:NC} (z:∀ M',Ge M M'->chk M') (ea:M a=some (.lst A)) (eb:M b=some (.lst B)) (ec:M c=some (.lst C))
 (q:∀ j p2 F ρ M',Ge M M'->M' j=some (.lst A)->M' p2=some (.lst B)->M' F=some (.lst C)->N ρ M' [.ref j, .ref p2, .ref F]) :
 bo (bn 0) (bQ (wAr nr (aH (bD 0) bI))) chk N [.ref a, .ref b, .ref c] [none] M []:=by
 refine ⟨z _ Ge.refl,_,rfl, ?_⟩;walk_at "wp";refine ⟨_,_,rfl,ad ea,fun j h1=>⟨by rw [tv];lia, ?_⟩⟩
 have g1:=Ge.new (o := .lst A) h1;have e1:=aa (M:=M) (a:=j) (o := .lst A);generalize ag M j (.lst A)=G at g1 e1 ⊢;refine ⟨z _ g1,_,rfl, ?_⟩;walk_at "wp";refine ⟨_,_,rfl,ad (g1 _ _ eb),fun p2 h2=>⟨by rw [tv];simp, ?_⟩⟩
 have g2:=Ge.new (o := .lst B) h2;have e2:=aa (M:=G) (a:=p2) (o := .lst B);have e1:=g2 _ _ e1;have g2:=g1.trans g2;generalize ag G p2 (.lst B)=M2 at g2 e1 e2 ⊢;refine ⟨z _ g2,_,rfl, ?_⟩;walk_at "wp";refine ⟨_,_,rfl,ad (g2 _ _ ec),fun F J=>⟨by rw [tv];simp, ?_⟩⟩
 have g3:=Ge.new (o := .lst C) J;exact ⟨z _ (g2.trans g3),q j p2 F _ _ (g2.trans g3) (g3 _ _ e1) (g3 _ _ e2) aa⟩
theorem qp:∀ ns:List Int,IW (ns.map .int) (ns.map .int)=true
 | [] => rfl
 | n::ns=>by simp [IW,Im,qp ns]
theorem se {M:Mem} {p a b c d:Addr} {rs:List Pr} {A B C:List Int} (h:M p=some (.lst [.ref a, .ref b, .ref c, .ref d])) (j:M a=some (.lst (rs.map prD))) (q:M b=some (.lst (A.map .int))) (z:M c=some (.lst (B.map .int))) (hd:M d=some (.lst (C.map .int))):rb 16 M (.ref p)=some (.list [.list (rs.map dm), .list (A.map .int), .list (B.map .int), .list (C.map .int)]):=by
 have e1:rb 15 M (.ref a)=some (.list (rs.map dm)):=by rw [cG j,kB];rfl
 have e2:rb 15 M (.ref b)=some (.list (A.map .int)):=by rw [cG q,fC];rfl
 have F:rb 15 M (.ref c)=some (.list (B.map .int)):=by rw [cG z,fC];rfl
 have G:rb 15 M (.ref d)=some (.list (C.map .int)):=by rw [cG hd,fC];rfl
 rw [cG h];simp [aD,e1,e2,F,G]
theorem zw {rs:List Pr} {A B C:List Int}:Im (.list [.list (rs.map dm), .list (A.map .int), .list (B.map .int), .list (C.map .int)]) (.list [.list (rs.map dm), .list (A.map .int), .list (B.map .int), .list (C.map .int)])=true:=by
 simp [Im,IW,zo,qp]
theorem Eu {B:Int} (j : 0<=B) {l:List Int} (h:∀ x∈l, -B<=x/\x<=B) {i:Int} : -B<=gz l i/\gz l i<=B:=by
 by_cases hz:gz l i=0
 ·rw [hz];lia
 ·obtain ⟨h0,h1⟩:=fH hz;obtain ⟨i,rfl⟩:=Ik h0;exact h _ (HH (nB (J8.mp h1)))
theorem qq {A B C:List Int} (la:A.length<=100) (lb:B.length<=100) (lc:C.length<=100) {ps:List Pr} (j:∀ u∈ps,bE u.1/\bE u.2.1/\bE u.2.2):∀ u∈aU A B C ps,zg u:=fun u q=>by
 obtain ⟨v,z,rfl⟩:=HF.mp (K5.mp q).1;obtain ⟨s0,s1,s2⟩:=j v z;have big:∀ {l:List Int} {A:List Int},bE l->Big (ao A l):=fun h x hx=>by
  obtain ⟨i,_,rfl⟩:=HF.mp hx;have:=Eu (B := 1000) (by decide) h (i:=i)
  lia
 exact ⟨big s0,big s1,big s2,by rw [show (cb A B C v).1.length=A.length from bA];exact la,by rw [show (cb A B C v).2.1.length=B.length from bA];exact lb,by rw [show (cb A B C v).2.2.length=C.length from bA];exact lc⟩
theorem sf {A B C:List Int} {ps:List Pr} {a b c N:Nat} (la:A.length<=a) (lb:B.length<=b) (lc:C.length<=c) (j:ps.length<=N):(bj (aU A B C ps)).length<=N*(a*(b*c)):=by
 have h1:=jq (a:=a) (b:=b) (c:=c) (ps:=aU A B C ps) fun u q=>by obtain ⟨x,y,z⟩:=gm u q;lia
 have h2:(aU A B C ps).length<=ps.length:=by
  have:=IM okP (ps.map (cb A B C));rw [q7] at this;exact this
 exact Iv h1 (L5 _ (Iv h2 j))
theorem wY {A B C:List Int} (U:A.Nodup) (Y:B.Nodup) (Z:C.Nodup) {ps:List Pr} {L X:List Tm} (q:ny ps L) (F:ny (aU A B C ps) X):eqD (X.map kcD) ((bb A B C L).map kcD)=true:=by
 have nd:((bb A B C L).map (·.1)).Nodup:=by
  have:∀ {L:List Tm},(L.map (·.1)).Nodup->((bb A B C L).map (·.1)).Nodup:=by
   intro L
   induction L with
   | nil=>intro _;simp [bb]
   | cons t L ih =>
     intro h;rw [HE,J4] at h;have ih:=ih h.2
     by_cases c:t.1.1∈C/\t.1.2.1∈A/\t.1.2.2∈B
     ·have e:bb A B C (t::L)=((((C.idxOf t.1.1:Nat):Int),((A.idxOf t.1.2.1:Nat):Int),((B.idxOf t.1.2.2:Nat):Int)),t.2)::bb A B C L:=by
       unfold bb;rw [J9,show F3 A B C t=some ((((C.idxOf t.1.1:Nat):Int),((A.idxOf t.1.2.1:Nat):Int),((B.idxOf t.1.2.2:Nat):Int)),t.2) by unfold F3;rw [if_pos c]]
      rw [e,HE,J4];refine ⟨fun hm => ?_,ih⟩;obtain ⟨x,hx,ex⟩:=HF.mp hm;exact qm (fun u hu z=>h.1 (HF.mpr ⟨u,hu,z⟩)) c x hx ex
     ·have e:bb A B C (t::L)=bb A B C L:=by
       unfold bb;rw [J9,show F3 A B C t=none by unfold F3;rw [if_neg c]]
      rw [e];exact ih
  exact this q.nd
 refine qa nd (rO F.nd nd F.nz (fun x hx=>by obtain ⟨t,ht,_,rfl⟩:=jt hx;exact q.nz t ht) fun k => ?_)
 obtain ⟨k,i,j⟩:=k;rw [F.cf,lq]
 by_cases h:(0<=k/\k < C.length)/\(0<=i/\i < A.length)/\(0<=j/\j < B.length)
 ·obtain ⟨⟨k0,G⟩,⟨i0,J⟩,j0,O⟩:=h;obtain ⟨k,rfl⟩:=Ik k0;obtain ⟨i,rfl⟩:=Ik i0;obtain ⟨j,rfl⟩:=Ik j0;rw [wQ (J8.mp G) (J8.mp J) (J8.mp O),wU U Y Z (J8.mp G) (J8.mp J) (J8.mp O),q.cf,lq]
 ·rw [sd h,ua h]
theorem RF {j q z:Nat} {A B C:List Int} (h0:j<=12) (h1:q<=12) (h2:z<=12) (F:Sel j A) (G:Sel q B) (J:Sel z C):Plc j q z A B C:=⟨F.rg,G.rg,J.rg,by have:=F.l1;lia,by have:=G.l1;lia,by have:=J.l1;lia⟩
theorem DE {k:Nat} (hk : 8<=k) {bx:Addr} {M:Mem} {Q:QD} (hb:Box bx M) (q:∀ M',Box bx M'->Q (.bl true) M'):phi tab k 27 [.ref bx] M Q:=by
 refine aq (by lia) rfl rfl (ρ := [some _,none,none,none,none,none,none,none]) rfl ?_
 unfold d27 L2.Mi.K21.b27;walk_at "st";refine aQ (by lia) hb (by decide) (by decide) fun v M1 v0 v1 x1 => ?_
 walk_at "wp";have hK:(if (v==0)=true then (1:Int) else 0)=0∨(if (v==0)=true then (1:Int) else 0)=1:=by split <;> simp
 generalize (if (v==0)=true then (1:Int) else 0)=K at hK ⊢
 walk_at "st";refine ⟨by lia,by lia, ?_⟩
 refine zu (by lia) x1.box hK fun ns ρ M2 F9 hr x2 pl hpl => ?_
 obtain ⟨x,y,z,rfl⟩:∃ x y z,ns=[x,y,z]:=by
  match ns,F9 with
  | [x,y,z],_=>exact ⟨x,y,z,rfl⟩
 have hx:=hr x (by simp)
 have hy:=hr y (by simp)
 have hz:=hr z (by simp)
 obtain ⟨N0,rfl⟩:∃ k:Nat,x=k:=⟨x.toNat,by lia⟩
 obtain ⟨N1,rfl⟩:∃ k:Nat,y=k:=⟨y.toNat,by lia⟩
 obtain ⟨N2,rfl⟩:∃ k:Nat,z=k:=⟨z.toNat,by lia⟩
 have F5:=fF x2.box hpl;have g2:=Ge.new (o := .lst [.int N0, .int N1, .int N2]) hpl;have e2:=aa (M:=M2) (a:=pl) (o := .lst [.int N0, .int N1, .int N2]);have b3:=(Bx.of x2.box g2).box;change phi _ _ _ _ (ag M2 pl (.lst [.int N0, .int N1, .int N2])) _;generalize ag M2 pl (.lst [.int N0, .int N1, .int N2])=M3 at e2 b3 ⊢;clear x1 x2 hpl g2 F9 hr;refine aQ (by lia) b3 (by decide) (by decide) fun c M4 c0 c1 x4 => ?_
 have e4:=x4.keep pl _ F5 e2;refine ⟨by rw [tv];lia,fun Fa F6 => ?_⟩
 have g5:=Ge.new (o := .lst [.int c, .int 12]) F6;have e5:=aa (M:=M4) (a:=Fa) (o := .lst [.int c, .int 12]);have b5:=(Bx.of x4.box g5).box;have e4:=g5 _ _ e4;generalize ag M4 Fa (.lst [.int c, .int 12])=M5 at e5 e4 b5 ⊢;obtain ⟨C0,Fo,eC⟩:∃ C0:Nat,C0<=12/\atI [D.int c, .int 12] K=some (.int (C0:Nat)):=by
  rcases hK with rfl | rfl
  ·exact ⟨c.toNat,by lia,by rw [IY c0];rfl⟩
  ·exact ⟨12,by lia,rfl⟩
 refine av e5 eC ?_;refine wm (s:=ai 15) (ft := 8) (fp := 10) rfl (aQ (by lia)) (zp (by lia)) (by lia) (by lia) (by lia) (by lia) (by lia) b5 F5 e4 fun rs pr M6 hlen hok x6 Fb er => ?_
 have Fc:pr≠bx:=fF b5 Fb;have Fi:rs.length<=12:=by lia
 have F:lK N0 N1 N2 rs:=fun u J=>⟨(hok u J).l0,(hok u J).l1,(hok u J).l2⟩;have Fd:∀ u∈rs,bE u.1/\bE u.2.1/\bE u.2.2:=fun u J=>⟨(hok u J).s0,(hok u J).s1,(hok u J).s2⟩;have b6:=x6.box;clear x6 x4 e4 e5 b5 b3 e2 hlen eC F6 g5 Fb;walk_at "st";refine (show dA (.tup [.int (N0:Nat), .int (N1:Nat), .int (N2:Nat), .ref pr]) none (some 3) M6 _ from ⟨_,rfl, ?_⟩);refine zv (by lia) (by lia) (by lia) (by lia) b6 fun A B C pa pb pc ρ M7 hA hB hC x7 ea eb ec pl hpl => ?_
 have er:=x7.keep pr _ Fc er;have gl:=Ge.new (o := .lst [.ref pa, .ref pb, .ref pc]) hpl;have el:=aa (M:=M7) (a:=pl) (o := .lst [.ref pa, .ref pb, .ref pc]);have er:=gl _ _ er;have ea:=gl _ _ ea;have eb:=gl _ _ eb;have ec:=gl _ _ ec;have b7:=(Bx.of x7.box gl).box;generalize ag M7 pl (.lst [.ref pa, .ref pb, .ref pc])=M8 at el er ea eb ec b7 ⊢;clear gl hpl x7 b6;have hP:=RF (by lia) (by lia) (by lia) hA hB hC
 have Fp:=hA.l1;have Fq:=hB.l1;have Fs:=hC.l1;walk_at "st";refine ⟨_,rfl,_,_,rfl,ad er,fun O h0=>⟨by rw [tv];lia,fun pz hz => ?_⟩⟩
 have g4:=(Ge.new (o := .lst (rs.map prD)) h0).trans (Ge.new (o := .lst [.ref O]) hz);have e0:=(Ge.new (o := .lst [.ref O]) hz) _ _ (aa (M:=M8) (a:=O) (o := .lst (rs.map prD)));have ez:=aa (M:=ag M8 O (.lst (rs.map prD))) (a:=pz) (o := .lst [.ref O]);generalize ag (ag M8 O (.lst (rs.map prD))) pz (.lst [.ref O])=M9 at g4 e0 ez ⊢;have er:=g4 _ _ er;have ea:=g4 _ _ ea;have eb:=g4 _ _ eb;have ec:=g4 _ _ ec;have el:=g4 _ _ el;have b9:=(Bx.of b7 g4).box;clear g4 h0 hz b7;refine ⟨_,ad el, ?_⟩;refine wX (Φ := phi tab 39) (fun M' g=>ad (g _ _ el)) ea eb ec fun p1 p2 p3 ρ Fe g5 e1 e2 e3 py hy => ?_;have G:=Ge.new (o := .lst [.ref p1, .ref p2, .ref p3]) hy;have ey:=aa (M:=Fe) (a:=py) (o := .lst [.ref p1, .ref p2, .ref p3]);have e1:=G _ _ e1;have e2:=G _ _ e2;have e3:=G _ _ e3;have G:=g5.trans G;generalize ag Fe py (.lst [.ref p1, .ref p2, .ref p3])=Ff at G ey e1 e2 e3 ⊢;have e0:=G _ _ e0;have ez:=G _ _ ez;have er:=G _ _ er;have ea:=G _ _ ea;have eb:=G _ _ eb;have ec:=G _ _ ec;have el:=G _ _ el;have Fg:=(Bx.of b9 G).box;clear G g5 hy b9;refine ⟨_,_,ez,ey,by rw [tv];simp,fun pk hk => ?_⟩
 have Y:=Ge.new (o := .lst ([.ref O]++[.ref p1, .ref p2, .ref p3])) hk;have ek:=aa (M:=Ff) (a:=pk) (o := .lst ([.ref O]++[.ref p1, .ref p2, .ref p3]));have e0:=Y _ _ e0;have e1:=Y _ _ e1;have e2:=Y _ _ e2;have e3:=Y _ _ e3;have er:=Y _ _ er;have ea:=Y _ _ ea;have eb:=Y _ _ eb;have ec:=Y _ _ ec;have el:=Y _ _ el;have F7:=(Bx.of Fg Y).box;generalize ag Ff pk (.lst ([.ref O]++[.ref p1, .ref p2, .ref p3]))=M12 at ek e0 e1 e2 e3 er ea eb ec el F7 ⊢;clear Y hk ez ey Fg;walk_at "st";refine wW (by lia) hP F (by lia) er el ea eb ec fun pd Fj U _ ed => ?_
 have h9:S pr pa pb pc pl O p1 p2 p3 pk pd rs A B C Fj:=⟨U _ _ er,U _ _ ea,U _ _ eb,U _ _ ec,U _ _ el,U _ _ e0,U _ _ e1,U _ _ e2,U _ _ e3,U _ _ ek,ed⟩;have Fk:=(Bx.of F7 U).box;clear er ea eb ec el e0 e1 e2 e3 ek ed U F7;have Ft:(aU A B C rs).length<=12:=by
  have:=IM okP (rs.map (cb A B C));rw [q7] at this;unfold aU;lia
 walk_at "st";refine ⟨by lia,by lia, ?_⟩
 refine aP (I:=fun l2 ρ M'=>(∃ o6 o7, ρ = [some (.ref bx),some (.int K),some (.tup [.int (N0:Nat), .int (N1:Nat), .int (N2:Nat), .ref pr]),some (.ref pl),some (.ref pk),some (.tup [.int A.length, .int B.length, .int C.length, .ref pd]),o6,o7])/\S pr pa pb pc pl O p1 p2 p3 pk pd rs A B C M'/\Box bx M') aG ⟨⟨_,_,rfl⟩,h9,Fk⟩ (fun _ _ _ _=>trivial) ?_ ?_
 ·rintro l2 j r2 ρ Ma e2 ⟨⟨o6,o7,rfl⟩,Z,ba⟩;refine ⟨_,rfl,fun F2 Fl => ?_⟩;walk_at "st";refine av Z.l (d := .ref pa) rfl (av Z.l (d := .ref pb) rfl (av Z.l (d := .ref pc) rfl ?_));refine wV (by lia) hP F (by lia) Z.r Z.a Z.b Z.c fun pf Mb gb nf ef => ?_
  have Fh:=Z.ge gb;walk_at "st";refine qk (n := 4) (by lia) (rY (by lia) ef Fh.d fun u J=>by obtain ⟨a,b,c⟩:=gm u J;lia) fun Mc gc => ?_
  have Fm:=Fh.ge gc;have ef:=gc _ _ ef;refine ⟨true,rfl, ?_⟩;rw [if_neg (by decide)]
  walk_at "st";refine ⟨_,rfl,⟨_,rfl,_,ef⟩,pf,_,rfl,rfl,ef, ?_⟩;refine Fl _ _ ⟨⟨_,_,rfl⟩,Z.upd Fm nf, ?_⟩;have bc:=(Bx.of ba (gb.trans gc)).box;obtain ⟨a',b',c',h⟩:=bc;have nfb:bx≠pf:=fun z=>by obtain ⟨_,_,_,h⟩:=ba;rw [z,nf] at h;cases h
  exact ⟨a',b',c',by rw [aj nfb];exact h⟩
 ·rintro ρ Ma ⟨⟨o6,o7,rfl⟩,Z,ba⟩;dsimp only;walk_at "st";refine ⟨_,rfl,by rw [tv];lia,fun pq hq => ?_⟩
  have g1:=Ge.new (o := .lst [.ref pr]) hq;have eq1:=aa (M:=Ma) (a:=pq) (o := .lst [.ref pr]);have h1:=Z.ge g1;have b1:=(Bx.of ba g1).box;generalize ag Ma pq (.lst [.ref pr])=Mb at h1 eq1 b1 ⊢;refine ⟨_,_,eq1,h1.l,by rw [tv];simp,fun pw hw => ?_⟩
  have gw:=Ge.new (o := .lst ([.ref pr]++[.ref pa, .ref pb, .ref pc])) hw;have h2:=h1.ge gw;have b2:=(Bx.of b1 gw).box;refine ⟨_,_,se aa h2.r h2.a h2.b h2.c,se h2.k h2.r' h2.a' h2.b' h2.c', ?_⟩;rw [zw];generalize ag Mb pw _=Mc at h2 b2 ⊢;refine ⟨true,rfl, ?_⟩;rw [if_pos rfl];refine jr (by lia) h2.d (Iv (sf (a := 12) (b := 12) (c := 12) (N := 12) (by lia) (by lia) (by lia) Fi) (by decide)) (qq (by lia) (by lia) (by lia) Fd) fun X dx Md hX _ gd Fu ex => ?_
  have h3:=h2.ge gd;have b3:=(Bx.of b2 gd).box;refine jr (by lia) h3.r ?_ (fun u J => ?_) fun L dl Me hL Fn ge F8 eL => ?_
  ·have h1:=jq (a := 12) (b := 12) (c := 12) (ps:=rs) fun u J=>by obtain ⟨a,b,c⟩:=F u J;lia
   lia
  ·have big:∀ {l:List Int},bE l->Big l:=fun h x hx=>by have:=h x hx;lia
   obtain ⟨a,b,c⟩:=F u J;obtain ⟨s0,s1,s2⟩:=Fd u J;exact ⟨big s0,big s1,big s2,by lia,by lia,by lia⟩
  have h4:=h3.ge ge;have b4:=(Bx.of b3 ge).box;have ndl:dx≠dl:=fun z=>by rw [<- z,ex] at F8;cases F8
  have nbl:bx≠dl:=fun z=>by obtain ⟨_,_,_,h⟩:=b3;rw [z,F8] at h;cases h
  refine BH (by lia) hL.nd Fn eL h4.l h4.a h4.b h4.c fun f Mf kf Fv hf ef => ?_
  refine ⟨dx,f,_,_,rfl,rfl,⟨.inl (kf _ _ ndl (ge _ _ ex)),iG⟩,⟨.inl ef,iG⟩, ?_⟩;rw [wY hA.nd hB.nd hC.nd hL hX];obtain ⟨a',b',c',h⟩:=b4;exact q _ ⟨a',b',c',kf _ _ nbl h⟩
theorem Ev {n m p a b c:Nat} (Y:(1<=a/\a<=n)/\(1<=b/\b<=m)/\(1<=c/\c<=p)) {ps:List Pr} (Z:∀ k i j,Tn ps k i j=cf (bP n m p) (k,i,j)) (k i j:Int):Tn (aU (tA a b m) (tA b c p) (tA a c p) ps) k i j=cf (bP a b c) (k,i,j):=by
 obtain ⟨⟨a0,a1⟩,⟨b0,b1⟩,c0,c1⟩:=Y
 by_cases h:(0<=k/\k < (a*c:Nat))/\(0<=i/\i < (a*b:Nat))/\(0<=j/\j < (b*c:Nat))
 ·obtain ⟨⟨k0,F⟩,⟨i0,G⟩,j0,J⟩:=h;obtain ⟨k,rfl⟩:=Ik k0;obtain ⟨i,rfl⟩:=Ik i0;obtain ⟨j,rfl⟩:=Ik j0;have F:=J8.mp F;have G:=J8.mp G;have J:=J8.mp J;rw [wQ (by rw [aM];exact F) (by rw [aM];exact G) (by rw [aM];exact J)]
  have at_tA:∀ {R C W x:Nat},x < R*C->at0 (tA R C W) x=((x / C*W+x % C:Nat):Int):=fun {R C W x} hx=>by
   rw [DB (by rw [wM];exact hx),wL,Ih,HM,Mz hx]
   simp
  rw [at_tA F,at_tA G,at_tA J,Z];obtain ⟨x1,z1,L,q,rfl⟩:=tZ F;obtain ⟨x2,y2,O,z,rfl⟩:=tZ G;obtain ⟨y3,z3,U,B,rfl⟩:=tZ J;rw [bK q,cj q,bK z,cj z,bK B,cj B,wJ (by lia) (by lia) (by lia) (by lia) (by lia) (by lia),wJ L O z U q B]
 ·rw [u5 h,sd (by rw [aM,aM,aM];exact h)]
theorem Ew {M:Mem} {a b:Addr} {ps:List Pr} {Q:QD} (j:M a=some (.lst (ps.map prD))) (z:M b=some (.lst (ps.map prD))) (q:Q (.bl true) M):wEq (.ref a) (.ref b) M Q:=by
 refine ⟨_,_,A5 j,A5 z, ?_⟩;rw [show Im (.list (ps.map dm)) (.list (ps.map dm))=true by simp [Im,zo]]
 exact q
structure S2 (pf pk pd:Addr) (ps ds:List Pr) (M:Mem):Prop where
 f:M pf=some (.lst (ps.map prD))
 k:M pk=some (.lst (ps.map prD))
 d:M pd=some (.lst (ds.map prD))
theorem S2.ge {pf pk pd:Addr} {ps ds:List Pr} {M M':Mem} (h:S2 pf pk pd ps ds M) (g:Ge M M'):S2 pf pk pd ps ds M':=⟨g _ _ h.f,g _ _ h.k,g _ _ h.d⟩
theorem S2.upd {pf pk pd x:Addr} {ps ds:List Pr} {M M':Mem} {o:O} (h:S2 pf pk pd ps ds M) (h':S2 pf pk pd ps ds M') (n:M x=none):S2 pf pk pd ps ds (ag M' x o):=by
 have ne:∀ {a:Addr} {u:O},M a=some u->a≠x:=fun e z=>by rw [z,n] at e;cases e
 exact ⟨(aj (ne h.f)).trans h'.f,(aj (ne h.k)).trans h'.k,(aj (ne h.d)).trans h'.d⟩
theorem DF {k:Nat} (hk : 8<=k) {bx:Addr} {M:Mem} {Q:QD} (hb:Box bx M) (q:∀ M',Q (.bl true) M'):phi tab k 28 [.ref bx] M Q:=by
 refine aq (by lia) rfl rfl (ρ := [some _,none,none,none,none,none,none,none]) rfl ?_
 unfold d28 L2.Mi.K21.b28;refine dq (fun ρ M' => ∃ n m p:Nat,((1<=n/\n<=4)/\(1<=m/\m<=4)/\(1<=p/\p<=4)) /\ ρ = [some (.ref bx),some (.tup (t3 n m p)),none,none,none,none,none,none]/\Box bx M') (fun R hR => ?_) ?_
 ·walk_at "wp";refine aQ (by lia) hb (by decide) (by decide) fun n1 M1 n0 n2 x1 => ?_
  refine aQ (by lia) x1.box (by decide) (by decide) fun m1 M2 m0 m2 x2 => ?_
  refine aQ (by lia) x2.box (by decide) (by decide) fun p1 M3 p0 p2 O => ?_
  walk_at "wp";have s3 : 0+1+1+1<=Hj:=by rw [tv];lia
  refine ⟨s3,s3,by rw [tv];lia,fun pz Z => ?_⟩
  have gz:=Ge.new (o := .lst [.tup [.int (1+n1), .int (1+m1), .int (1+p1)], .tup [.int 2, .int 2, .int 2]]) Z;have ez:=aa (M:=M3) (a:=pz) (o := .lst [.tup [.int (1+n1), .int (1+m1), .int (1+p1)], .tup [.int 2, .int 2, .int 2]]);have nz:=fF O.box Z;have bz:=(Bx.of O.box gz).box;generalize ag M3 pz _=M4 at ez bz ⊢;refine aQ (by lia) bz (by decide) (by decide) fun g M5 g0 g1 U => ?_
  have ez:=U.keep pz _ nz ez;have:g=0∨g=1:=by lia
  rcases this with rfl | rfl
  ·refine av ez rfl (hR _ _ ⟨(1+n1).toNat,(1+m1).toNat,(1+p1).toNat,by lia, ?_,U.box⟩)
   unfold t3;rw [IY (by lia),IY (by lia),IY (by lia)]
  ·exact av ez rfl (hR _ _ ⟨2,2,2,by lia,rfl,U.box⟩)
 rintro ρ M1 ⟨n,m,p,⟨hn,hm,hp⟩,rfl,b1⟩;have mm:∀ {a b c d:Nat},a<=c->b<=d->a*b<=c*d:=fun h1 h2=>Jt h1 h2;have q1:n*m<=4*4:=mm hn.2 hm.2;have q2:m*p<=4*4:=mm hm.2 hp.2;have q3:n*p<=4*4:=mm hn.2 hp.2;have q4:n*(m*p)<=4*(4*4):=mm hn.2 q2;walk_at "st";refine wH (s:=ai 26) (sv:=ai 25) (sl:=ai 20) (cap := 1000000) (ft := 8) (fd := 20) (fv := 21) (fl := 16) (fp := 18) (fs := 15) (most := 3) rfl (aQ (by lia)) (qK (by lia)) rfl rfl (qJ (by lia)) (mZ (by lia)) (by lia) (by lia) (by lia) (by lia) (by lia) (by lia) (by lia) (by lia) (by lia) (by lia) b1 fun ps po M2 B Ff hT x2 Fa F eo => ?_
 have G:lK (n*m) (m*p) (n*p) ps:=fun u J=>⟨(B u J).l0,(B u J).l1,(B u J).l2⟩;have Fb:∀ u∈ps,bE u.1/\bE u.2.1/\bE u.2.2:=fun u J=>by
  have w:∀ {l:List Int},Within (1+2*((3:Nat):Int)) l->bE l:=fun h x hx=>by have:=h x hx;lia
  exact ⟨w (B u J).e0,w (B u J).e1,w (B u J).e2⟩
 have b2:=x2.box;clear x2 b1 Fa;walk_at "st";refine ⟨trivial,_,rfl, ?_⟩;walk_at "wp";refine aQ (by lia) b2 (by lia) (by lia) fun a1 M3 a0 a2 O => ?_
 have eo:=O.keep po _ F eo;walk_at "wp";refine ⟨by rw [tv];lia,trivial,_,rfl, ?_⟩
 walk_at "wp";refine aQ (by lia) O.box (by lia) (by lia) fun c1 M4 c0 c2 x4 => ?_
 have eo:=x4.keep po _ F eo;walk_at "wp";refine ⟨by rw [tv];simp,trivial,_,rfl, ?_⟩
 walk_at "wp";refine aQ (by lia) x4.box (by lia) (by lia) fun d1 M5 d0 d2 U => ?_
 have eo:=U.keep po _ F eo;walk_at "wp";refine ⟨by rw [tv];simp,trivial,fun pt F5=>⟨_,_,rfl,ad aa, ?_⟩⟩
 obtain ⟨a,rfl⟩:∃ k:Nat,a1=(k:Int) - 1:=⟨(1+a1).toNat,by lia⟩
 obtain ⟨b,rfl⟩:∃ k:Nat,c1=(k:Int) - 1:=⟨(1+c1).toNat,by lia⟩
 obtain ⟨c,rfl⟩:∃ k:Nat,d1=(k:Int) - 1:=⟨(1+d1).toNat,by lia⟩
 have eo:=Ge.new (o := .lst ([]++[D.int (1+((a:Int) - 1))]++[D.int (1+((b:Int) - 1))]++[D.int (1+((c:Int) - 1))])) F5 _ _ eo;generalize ag M5 pt _=M6 at eo ⊢;have hc:(1<=a/\a<=n)/\(1<=b/\b<=m)/\(1<=c/\c<=p):=by lia
 have et:D.tup ([]++[D.int (1+((a:Int) - 1))]++[D.int (1+((b:Int) - 1))]++[D.int (1+((c:Int) - 1))]) = .tup (t3 a b c):=by
  rw [show (1:Int)+((a:Int) - 1)=a by lia,show (1:Int)+((b:Int) - 1)=b by lia,show (1:Int)+((c:Int) - 1)=c by lia];rfl
 rw [et];clear O x4 U b2 a0 a2 c0 c2 d0 d2 et F5;have r1:a*b<=4*4:=mm (by lia) (by lia)
 have r2:b*c<=4*4:=mm (by lia) (by lia)
 have r3:a*c<=4*4:=mm (by lia) (by lia)
 have hP:Plc (n*m) (m*p) (n*p) (tA a b m) (tA b c p) (tA a c p):=A7 (by lia) (by lia)
 walk_at "st";refine ⟨_,rfl,_,_,rfl,ad eo,fun pk F6 => ?_⟩;have gk:=Ge.new (o := .lst (ps.map prD)) F6;have ek:=aa (M:=M6) (a:=pk) (o := .lst (ps.map prD));generalize ag M6 pk (.lst (ps.map prD))=M7 at gk ek ⊢;have eo:=gk _ _ eo;clear gk F6;walk_at "st";refine zt (by lia) (by lia) (by lia) fun pl p0 p1 p2 M8 g8 el e0 e1 e2 => ?_
 refine wW (by lia) hP G (by lia) (g8 _ _ eo) el e0 e1 e2 fun pd M9 g9 _ ed => ?_
 rw [aM,aM,aM];have h9:S2 po pk pd ps (aU (tA a b m) (tA b c p) (tA a c p) ps) M9:=⟨(g8.trans g9) _ _ eo,(g8.trans g9) _ _ ek,ed⟩;clear g8 g9 el e0 e1 e2 eo ek ed;have Fg:(aU (tA a b m) (tA b c p) (tA a c p) ps).length<=67:=by
  have:=IM okP (ps.map (cb (tA a b m) (tA b c p) (tA a c p)));rw [q7] at this;unfold aU;lia
 have clens:lK (a*b) (b*c) (a*c) (aU (tA a b m) (tA b c p) (tA a c p) ps):=fun u J=>by
  have:=gm u J;rw [aM,aM,aM] at this;exact this
 walk_at "st";refine ⟨by lia,by lia, ?_⟩
 refine aP (I:=fun l2 ρ M'=>(∃ o6 o7, ρ = [some (.ref bx),some (.tup (t3 n m p)),some (.tup [.int (n*m:Nat), .int (m*p:Nat), .int (n*p:Nat), .ref po]),some (.tup (t3 a b c)),some (.ref pk),some (.tup [.int (a*b:Nat), .int (b*c:Nat), .int (a*c:Nat), .ref pd]),o6,o7])/\S2 po pk pd ps (aU (tA a b m) (tA b c p) (tA a c p) ps) M') aG ⟨⟨_,_,rfl⟩,h9⟩ (fun _ _ _ _=>trivial) ?_ ?_
 ·rintro l2 j Fh ρ Ma e2 ⟨⟨o6,o7,rfl⟩,Y⟩;refine ⟨_,rfl,fun F2 Fc => ?_⟩;walk_at "st";refine BG (by lia) (by lia) (by lia) G (by lia) Y.f fun pf Mb gb nf ef => ?_
  have F7:=Y.ge gb;walk_at "st";refine qk (n := 4) (by lia) (rY (by lia) ef F7.d fun u J=>by obtain ⟨x,y,z⟩:=clens u J;lia) fun Mc gc => ?_
  have Fd:=F7.ge gc;have ef:=gc _ _ ef;refine ⟨true,rfl, ?_⟩;rw [if_neg (by decide)]
  walk_at "st";refine ⟨_,rfl,⟨_,rfl,_,ef⟩,pf,_,rfl,rfl,ef, ?_⟩;exact Fc _ _ ⟨⟨_,_,rfl⟩,Y.upd Fd nf⟩
 ·rintro ρ Ma ⟨⟨o6,o7,rfl⟩,Y⟩;dsimp only;walk_at "st";refine jr (by lia) Y.d (Iv (sf (a := 16) (b := 16) (c := 16) (N := 67) (by rw [aM];lia) (by rw [aM];lia) (by rw [aM];lia) (by lia)) (by decide)) (qq (by rw [aM];lia) (by rw [aM];lia) (by rw [aM];lia) Fb) fun X dx Md hX _ gd Fi ex => ?_
  refine mZ (by lia) (by lia) (by lia) (by lia) fun F8 d2 Me L g2 hd2 e2 => ?_
  refine ⟨dx,d2,_,_,rfl,rfl,⟨.inl (g2 _ _ ex),iG⟩,⟨.inl e2,iG⟩, ?_⟩;have F9:(F8.map (·.1)).Nodup:=(L.map _).nodup_iff.mpr cQ;have Fe:∀ t∈F8,t.2≠0:=fun t ht=>Du t (L.mem_iff.mp ht);rw [qa F9 (rO hX.nd F9 hX.nz Fe fun k=>by
   obtain ⟨k,i,j⟩:=k;rw [hX.cf,lq,Ev hc hT,rG L])]
  refine ⟨true,rfl, ?_⟩;rw [if_pos rfl];have h3:=Y.ge (gd.trans g2);refine ⟨_,rfl,Ew h3.f h3.k (q _)⟩
theorem law_holds (ns:List Int) (J:ns.length<=63):phi tab 40 29 [.con (ns.map D.int)] (fun _=>none) fun d _=>d = .bl true:=by
 refine aq (by lia) rfl rfl (ρ := [some _,none,none]) rfl ?_
 unfold d29 L2.Mi.K21.b29;walk_at "st";rw [q7];refine ⟨by split <;> lia,by split <;> lia, ?_⟩
 refine aP (I:=fun l ρ M' => ∃ j q, ρ = [some (.con (ns.map D.int)),j,q]) aG ⟨_,_,rfl⟩ (fun _ _ _ L=>trivial) ?_ ?_
 ·rintro l k r ρ z e ⟨j,q,rfl⟩;refine ⟨_,rfl,fun F G => ?_⟩;walk_at "st";refine Ds (s:=ai 11) (fc := 5) (fm := 6) (sc:=ai 9) rfl rfl (rZ (by lia)) (by lia) (by lia) fun bx x y O => ?_
  have B:Box bx (ag z bx (.lst [.int x, .int y, .int 0])):=⟨_,_,_,aa⟩;generalize ag z bx (.lst [.int x, .int y, .int 0])=M0 at B ⊢;walk_at "st";refine DE (by lia) B fun U b1=>⟨true,rfl, ?_⟩
  rw [if_neg (by decide)]
  refine DF (by lia) b1 fun M2=>⟨true,rfl, ?_⟩
  rw [if_neg (by decide)]
  exact G _ _ ⟨_,_,rfl⟩
 ·rintro ρ z ⟨j,q,rfl⟩;dsimp only;walk_at "st"
end K21
end
end
end Mi
end L2
namespace PySem.W.Fast
theorem tw6523808126304662806:True:=trivial
theorem tw6138646649345006399:True:=trivial
theorem tw2046356325875731856:True:=trivial
theorem tw4326817323310116772:True:=trivial
theorem tw16113694029880054408:True:=trivial
theorem tw2788228428077525299:True:=trivial
theorem tw11515917229481860800:True:=trivial
theorem tw1624397037654481992:True:=trivial
theorem tw12688830528985960180:True:=trivial
theorem tw2151111333606961177:True:=trivial
theorem tw17296551423421271488:True:=trivial
theorem tw816022755692656673:True:=trivial
theorem tw15014478980283923053:True:=trivial
theorem tw9820839715848826922:True:=trivial
theorem tw7429544373389538845:True:=trivial
theorem tw14472431470172654977:True:=trivial
theorem tw11163582994571962490:True:=trivial
theorem tw6109398575098075170:True:=trivial
theorem tw10051546603880814371:True:=trivial
theorem tw8466009493675695654:True:=trivial
theorem tw13423411606011918354:True:=trivial
theorem tw347352514943383604:True:=trivial
theorem tw3828850092773210507:True:=trivial
theorem tw10301270996930349960:True:=trivial
theorem tw8163221553394022805:True:=trivial
theorem tw9107687548918735928:True:=trivial
theorem tw1572395932073129260:True:=trivial
theorem tw3744744770403222638:True:=trivial
theorem tw11809005824565000207:True:=trivial
theorem tw17716467345339698290:True:=trivial
theorem tw325592150544238465:True:=trivial
theorem tw14381120200201370082:True:=trivial
theorem tw864048682538315439:True:=trivial
theorem tw1110554512443055892:True:=trivial
theorem tw8808122019334478941:True:=trivial
theorem tw9350129940596315300:True:=trivial
theorem tw13746590044265692763:True:=trivial
theorem tw16366149790196934754:True:=trivial
theorem tw16456045170766010163:True:=trivial
theorem tw1896416941735881652:True:=trivial
theorem tw4697237610152718765:True:=trivial
theorem tw18200552766574819173:True:=trivial
theorem tw10330471222176689592:True:=trivial
theorem tw2516146849980248851:True:=trivial
theorem tw16212150760779916634:True:=trivial
theorem tw9876402086685438958:True:=trivial
theorem tw16967778903351270093:True:=trivial
theorem tw9957221554297925015:True:=trivial
theorem tw3757024087169631803:True:=trivial
theorem tw17014503064478311460:True:=trivial
theorem tw16030944748450535869:True:=trivial
theorem tw5648379840296664988:True:=trivial
theorem tw12219034236476984588:True:=trivial
theorem tw16884164778050977696:True:=trivial
theorem tw1914691259592934124:True:=trivial
theorem tw10454765265267780026:True:=trivial
theorem tw4532689039225705012:True:=trivial
theorem tw14836463118151380151:True:=trivial
theorem tw18134739755255672582:True:=trivial
theorem tw11179690662594344355:True:=trivial
theorem tw17664659665431647630:True:=trivial
theorem tw12831073802747445250:True:=trivial
theorem tw15627129272815238787:True:=trivial
theorem tw14452418533589099831:True:=trivial
theorem tw16589110207185653646:True:=trivial
theorem tw14210352284661765693:True:=trivial
theorem tw14335263925142861682:True:=trivial
theorem tw10235007343000320864:True:=trivial
theorem tw16741337144014834362:True:=trivial
theorem tw4053026283785461443:True:=trivial
theorem tw3897363428222068467:True:=trivial
theorem tw11435414164820701544:True:=trivial
theorem tw11686258385023093617:True:=trivial
end PySem.W.Fast
open PySem.W in
set_option maxRecDepth 100000 in
set_option maxHeartbeats 0 in
theorem PySem.Challenge.cw_fewtimes_k21_schemes_cut_holds : PySem.Challenge.rw_fewtimes_k21_schemes_cut.Holds := by
 w_on;o_law;k_head;(case hw=>w_witness2)
 k_fill
 refine L2.Mi.K21.walk (l:=PySem.Challenge.rw_fewtimes_k21_schemes_cut) rfl rfl L2.Mi.K21.law_holds (fun w h Y=>PySem.W.kIn_of Y) ?F
 case F =>
  intro w mg fa h KX G hmg;refine' L2.Mi.K21.all_mk KX G hmg ?z ?_ ?_ ?_ ?_ ?_ ?_ ?_ ?_ ?_ ?_ ?_ ?_ ?_ ?_ ?_ ?_ ?_ ?_ ?_ ?_ ?_ ?_ ?_ ?_ ?_ ?_ ?_ ?_ ?_ ?_ ?_ ?_ ?_ ?_ ?_ ?_ ?_ ?_ ?_ ?_ ?_ ?_ ?_ ?_ ?_ ?_ ?_ ?_ ?_ ?_ ?_ ?_ ?_ ?_ ?_ ?_ ?_ ?_ ?_ ?_ ?_ ?_ ?_ ?_ ?_ ?_ ?_ ?_ ?_ ?_ ?_ ?_ ?_ ?_ ?_ ?_ ?_ ?_ ?_ ?_ ?_ ?_ ?_ ?_ ?_ ?_ ?_ ?_ ?_ ?_ ?_ ?_ ?_ ?_ ?_ ?_ ?_ ?_ ?_ ?_ ?_ ?_ ?_ ?_ ?_ ?_ ?_ ?_ ?_ ?_ ?_ ?_ ?_ ?_ ?_ ?_ ?_ ?_ ?_ ?_ ?_ ?_ ?_ ?_ ?_
  case z =>
   intro x hx;simp only [L2.Mi.bltNames,List.mem_cons,List.not_mem_nil,or_false] at hx
   rcases hx with rfl | rfl | rfl | rfl | rfl | rfl | rfl | rfl | rfl | rfl | rfl | rfl | rfl | rfl | rfl | rfl | rfl | rfl | rfl | rfl <;> k_is
  all_goals try (show _=_;k_is)
