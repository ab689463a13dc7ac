import PyProof.Rows.All
import Wide.All
import OpenK.AllK
import Wide.FinOn
import Lean
import PyProof.EqAt
import PyProof.EqKinds
import PyProof.TupleCall
import PyProof.ZipIter
import PyProof.EnumMake
import PyProof.EnumFor
import PyProof.CollectIter
import PyProof.Rows.SeqMore
import PyProof.ConsumeWalk
import PyProof.Rows.SortShellK
import PyProof.DictItems
import PyProof.DictWalks
import PyProof.AttrMissHeap
import PyProof.DictIter
import PyProof.MaxThree
import PyProof.SeqI3
import PyProof.DictTruth
import PyProof.Rows.TupDisplay
import PyProof.ListCopy
import PyProof.NeKinds
import PyProof.RaisesDict
import KE.KDictOf
import PySem.Challenge.RW_fewtimes_k13_lines_by_pairs
set_option Elab.async false
set_option linter.all false
set_option compiler.extract_closed false
set_option genSizeOf false
set_option bootstrap.genMatcherCode false
set_option maxRecDepth 100000
set_option maxHeartbeats 4000000
open PySem.W (Frag)
open PySem renaming wpAny_bind → e6, Value → gV, Shared → h7, wpAny_pure → q7, sizeLine_eq → Gd, sizeLine → Gg, wpAny → Gm, model → Gn, wpAny_setField_rec → Gx, Program → GI, starEach → GN, wpAny_field → GU, wpAny_callSpecial?_slot → H0, wpAny_call_entry → H8, wpAny_loadPart' → Hd, World → Hf, Around → Hg, Comprehension → Hr, wpAny_holding → HB, Paired → HD, PyData → HE, wpAny_mono → HF, DictEntry → HI, mainGlobals → HK, mem_of_lookup → HZ, wpAny_newObj_type → I0, compareOp → I7, binaryOp → I9, wpAny_pyIter_tuple → Ie, cLine → Ij, Builtin → Im, assignEach → IB, wpAny_rule → IC, rawInt → II, foldedSetIterable → IP, cellsFrom → IQ, sysModules → IS, wpAny_ite_false → IV, inplaceOp → J6, wpAny_seqItems → Jc, wpAny_passesOwn → Je, wpAny_of_eq → Jl, wpAny_pyIter_list → Jm, swappedStores → Jp, pyNext → Jq, IsPair → Ju, wpAny_attempt → Jv, NameKind → Jw, wpAny_newTuple → Jy, wpAny_Call_Name_kw → JD, codeAny_builtin → JK, wpAny_standAt → JM, wpAny_truthy_bool → JQ, Operator → JT, FuncData → JU, call_meets → JW, swapsWithSole → Kc, behindInMarks → Kd, attributeBase → Kg, wpAny_newList → Kh, Reads → Ki, tupleKind_room_in1 → Ko, Model → Kv, swapsWith → Kw, sliceBounds → KD, wpAny_Call_method0_late → KG, backTo → KI, codeAny_mono → KJ, wpAny_typeOf → KO, wpAny_collect_seq → KY, wpAny_isInstance → Lb, codeAny → Lf, wpAny_updateSeq_pair → Li, wpAny_letGo → Lj, letOwnedTupleGo → Lr, evalArgs_none → LB, bootBuiltins → LC, tupleKind → LK, firstArgMember → LR, isSubtype_type → LW, wpAny_binaryOp_repeat_ref → LZ, standAt → Md, getItem → Me, IsZip → Mj, wpAny_comprehension_free → Ml, wpAny_onRaise → Mm, plainId_quiet → Mo, noFill_tuple_add → Ms, IsPart → MK, seqIndex_neg → MM, wpAny_getItem_list_neg → MP, typeIs_int → MR, Keyword → MU, IsEnum → MX, wpAny_execs_nil → N5, pushCells_keeps → N9, builtinLookup_eq_fast → Ni, wpAny_loadName_local → Nl, pyIter → Nm, seqIndex_of → Nq, newFunctionEnv → Nt, ZipApart → Nu, isSubtype_stop → Nw, ReadsAll → Nz, codeAny_call_builtin → ND, setItem → NJ, callerA → NK, valueAt → NL, wpAny_loadName_cell → NM, assignInOrder → NV, seq_tuple_add → NW, foldedForSure → O7, BindsTo → Oq, concat_meets → Ot, wpAny_sequenceKey → Ou, wpAny_pyIter_enum → Oz, wpAny_pyIter_slot → OF, wpAny_Dict_empty → ON, pushCells → OO, wpAny_pyIter_zip → OR, IsEnumOut → OS, fillsInplaceSlot → OW, keywordEach → P4, atKey → P5, richCompare → P7, builtinsNs → Pq, wpAny_Name → Pt, bindName → Pu, wpAny_call → Pw, bindL → Px, bindC → Py, typeLookup → PD, call → PF
open PySem.Heap renaming get?_push_of_some → h6, lt_size → Ga, get?_push_size → Gh, get?_update_ne → Ht, size_push → HQ, SameBut → Ib, get?_push_cases → Lk, IsTuple → LF, get?_update_other → MQ, get?_update_self → Ng, IsList → Nx, ExtBut → P6
open Bool renaming and_eq_true → hH, false_ne_true → Gb, false_eq_true → HH, not_eq_true' → Iq, not_eq_true → La, false_or → Lg, or_eq_true → Na, and_eq_true_iff → Ny
open List renaming length_map → r3, getElem?_eq_getElem → tv, getElem?_append_right → z4, range → D0, replicate → D1, length_append → D2, pairwise_append → F2, size_toArray → Gf, mem_cons → Gj, mem_map → Gk, map_cons → Gr, getElem?_append_left → Gs, append_assoc → Gu, mem_append → Gy, length_range → Gz, mem_append_right → GA, getElem?_eq_some_iff → GB, mem_map_of_mem → GF, getD_eq_getElem?_getD → GG, getElem?_map → GH, map_congr_left → GK, mem_range → GL, toList_toArray → GO, mem_cons_of_mem → GP, pairwise_map → GQ, length_take → GZ, mem_of_getElem? → Hc, length_eq_zero_iff → Hh, filter_cons_of_neg → Hi, mem_append_left → Hk, flatMap_cons → Hm, filter_cons_of_pos → Ho, replicate_succ → Hq, length_pos_iff → Hs, not_mem_nil → Hu, flatten_cons → Hv, getElem?_range → Hy, map_append → Hz, length_cons → HJ, getElem?_eq_none → HM, mem_cons_self → HP, mem_iff_getElem → HR, append_nil → HU, nodup_cons → HV, find?_cons → HW, drop_eq_getElem_cons → HX, length_singleton → I8, getElem?_set_self → Ik, drop_eq_nil_of_le → Io, take_of_length_le → Ip, map_map → Ir, nodup_iff_pairwise_ne → Iu, flatMap_append → Iv, take_append_drop → Iz, length_filter_le → IA, filter_append → IE, any_cons → IF, zipWith → IH, mem_filter → IT, dropLast_concat_getLast → IY, flatten_append → J0, lookup_cons → J7, Perm → J8, length_nil → Jf, getElem?_set_ne → Jh, map_nil → Ji, ext_getElem? → Jn, getElem?_cons_succ → Jz, take_append_of_le_length → JC, find?_cons_of_neg → JG, forIn_cons → JI, range_succ → JL, all_cons → JN, perm_append_comm → JP, getElem_mem → K0, mem_reverse → K1, cons_append → K5, any_eq_true → K6, map_set → K7, mem_flatMap → K8, mem_of_find?_eq_some → Ka, getElem?_take_of_lt → Ke, of_mem_zip → Kk, pairwise_cons → Kq, find?_eq_none → Ks, getElem?_drop → Kt, length → Kz, extract → KQ, reverse_perm → KS, nodup_append → KW, find?_cons_of_pos → KZ, length_drop → L7, foldl → L8, map_snd_zip → Lc, all_eq_true → Ld, ext_getElem → Le, getElem?_mapIdx → Ll, mem_of_mem_drop → Lm, mem_of_mem_take → Ln, nil_append → Ls, filterMap_cons → LA, drop_drop → LU, getElem?_replicate → Mr, zipIdx_cons → Mu, getElem?_cons_zero → MA, pairwise_lt_range → N4, length_set → N6, foldl_cons → N7, find?_some → Nc, pairwise_reverse → Nh, dropLast_eq_take → Nj, pairwise_flatMap → Nk, forIn_nil → Nv, reverse_reverse → NA, length_zipWith → NQ, length_reverse → NR, zip_eq_zipWith → NU, sum_cons → O9, map_take → Ob, mem_filterMap → Oe, set_cons_zero → Ol, set_cons_succ → Om, take_add_one → OB, drop_length → OT, perm_middle → OU, map_zipWith → P0, nodup_range → P1, zipIdx_nil → Pe, sum_append → Pk, mem_mapIdx → Pm, length_zip → Pn
open PyProof.Rows renaming wpS_bind → G9, Keyed → Gc, pendingOf → Gw, arrOf → GS, SortSt → Hl, wpS_forRange → Hn, kindOf → HY, callWith_type1 → Ii, get?_update_seq → Iw, slot_tuple_getitem → Iy, wpS_modify → ID, failedOf → IK, mem_zip_self → J3, listUpdate_at → J4, SortKind → JX, IntsAre → JZ, wpS_get → Kl, setPending → Kr, callWith_builtin1 → L6, seqEpoch_at → Lo, seqObj → Ly, assignInOrder_cons → LM, AllBare → Mc, seqSlot_of → Mw, subscriptTail_builtinR → MN, listItems_at → MZ, envOfC → Np, keyKind'_eq → NB, entry_tuple_getitem → NN, firstOfTuple' → NY, args_tuple_getitem → Of, assignInOrder_nil → Oo, sortRuns' → OV, mergeAt' → PJ
open Nat renaming le_refl → Gi, ne_of_lt → GW, lt_of_lt_of_le → GX, lt_irrefl → HA, ne_of_gt → HG, mul_le_mul → HS, zero_le → Ih, le_trans → J1, min_eq_left → Jg, succ_mul → Jj, le_of_lt → JY, mul_le_mul_right → Lq, sub_self → LG, zero_add → LH, lt_succ_of_lt → Mh, succ_le_succ → Mx, add_assoc → NX, not_lt → PH
open Array renaming toList_append → Gp, toList_push → Gv, getElem?_toList → GC, length_toList → GD, toList_reverse → He, getElem?_eq_getElem → Hj, toList_extract → IM, map → J9, toList_inj → JA, size_append → JR, size_push → Lx, toList_setIfInBounds → LV, size_map → LX, toList → MJ, all_eq_true → OD, filterMap → Pj
open Int renaming toNat_natCast → Gq, add_mul → Jo, natCast_add → Km, emod_lt_of_pos → Ku, mul_add → Lp, emod_nonneg → Lz, add_zero → N3, natCast_inj → Nf, mul_assoc → O8, add_assoc → Oa, mul_comm → OK, natCast_mul → Pg
open PySem.Value renaming ref → GJ, type → Hb, none → JS, bool → Pp, int → PX, str → PY
open PySem.PyData renaming eqv → GR, eqvAll → HC, canLayAll0 → HN, list → IJ, depthAll → IW, depth → JF, canLay0 → KU
open PySem.W renaming mg_of → GY, fnOf → JE, keepIn → JV, cellsFrom_some → KL, nsIn → KP, codeIn → LN, methodObj → Mb, OpenLaw → N8
open List.Perm renaming append_left → H9, append_right → Hw, of_eq → JJ, eq_of_pairwise → Kj, refl → KR
open PySem.NameKind renaming free → Ha, cell → IG
open PySem.Builtin.Dict_items renaming pairFromOwner → Hx, ownedTupleIsFree → Ia, isOneOf → LY
open PySem.SeqAt renaming readOf → Ic, readOf_eq → IZ, eqAt_reads → Mz
open Option renaming some → Ig, map_some → IU, isSome_iff_exists → Jr, bind_some → My, isSome_some → Og, isSome_map → Ow, getD_none → OL, join_some → OX, bind_none → OY, join_none → OZ, getD_some → P2
open PySem.Str renaming ofString → Il
open PyProof.Rows.SortSt renaming mk' → IX
open PySem.Calls renaming callWith_builtin → J2, spliced_cons → Kn, Name_function_global → LL, spliced_nil → Mf, evalArgs_plain → Nr
open PySem.Obj renaming mapSeq → Ja, data_mapFields → Oh
open PySem.F renaming slot_tuple_iterator_next → Jb, slot_enumerate_next → JO, args_tuple_add_2 → Kf, entry_tuple_add → KA, plainAttrs_list → KH, slot_tuple_add → KN, slot_dict_get → L4, slot_int_rmul → Lu, args_tuple_iterator_next_1 → Lv, slot_zip_next → Lw, entry_tuple_iterator_next → LD, slot_dict_items → Mk, args_dict_get_3 → Mt, args_enumerate_next_1 → Mv, entry_dict_get → MW, entry_enumerate_next → MY, slot_dict_items_iter → N1, entry_extend_loop → NS, plain_extend_loop → NT, args_int_rmul_2 → Ov, args_zip_next_1 → Ox, plainAttrs_dict → OG, type_dict_items → OH, entry_int_rmul → OM, entry_zip_next → OP, fills_int_mul → Pc, slot_tuple_lt → Ph
open PySem.Builtin.Slice renaming slicePlaces → Jd, sliceAdjust → K9, sliceApplied → LO
open PySem.Data renaming seq → Jk, fields → Kx
open PySem.Builtin.Tuple renaming tupleExact → Js, tupleCompareSizes → L3, tupleItemsOf → LP, tupleIsExact → LQ, tupleTooMany → LS
open PySem.Builtin.List renaming listTooLong → Jt, listLengthHint → LJ
open LawfulBEq renaming eq_of_beq → Jx
open PySem.Shared renaming heap → JB, TypeIs → NZ
open ForInStep renaming yield → JH
open PySem.Paired renaming length → Kb
open PyProof.Rows.IsTup renaming new → L5
open And renaming intro → L9
open Prod.mk renaming injEq → Lh
open Classical renaming byContradiction → Ma
open List.Pairwise renaming nil → Mg, imp_of_mem → Mn
open PySem.Env renaming blockKind → Mp, kindOf → Oj
open Function renaming comp → Mq
open Sum renaming inl → MB, inr → MD
open True renaming intro → MV
open List.cons renaming injEq → Nb
open PySem.Around renaming under_plainId → NF, in1_handled → Oi
open PySem.Expr renaming Subscript → NG, Attribute → NH, Constant → O0, ListComp → O1, UnaryOp → OI, Compare → OJ, BoolOp → P9, BinOp → PM, IfExp → PN, Tuple → PQ, Slice → PR, Name → PZ, List → Q0, Call → Q1, Dict → Q2
open PySem.Stmt renaming AugAssign → NI, Continue → O6, Assign → Pa, Return → Pb, While → PU, Break → PV, Expr → Q3, Pass → Q4
open PySem.Heap.SameBut renaming update → NO
open PySem.Builtin.Int renaming intBits → NP
open PySem.SeqAt.EqAt renaming int_str → Oc, str_int → Od
open PySem.Heap.IsTuple renaming push → Oy
open Option.some renaming injEq → OA
open Exists renaming intro → OC
open PySem.Code renaming builtin → OE
open PySem.Heap.IsList renaming push → OQ
open Iff renaming rfl → Po
open Prod renaming ext → Pz
namespace L2
open PySem PySem.Spec PyProof.Rows
section
noncomputable abbrev Key:=Sum Int Str
noncomputable def gv:Key->gV->Bool
 | .inl k,v=>Value.isInt k v
 | .inr x,v=>Value.isStrOf x v
noncomputable def Du (w:Hf):Key->Int
 | .inl k=>hashInt k
 | .inr x=>hashStr w x
theorem aN:∀ {k:Key} {v:gV},gv k v=true->(∃ i t,k=MB i/\v=PX i t)∨(∃ x t,k=MD x/\v=PY x t)
 | .inl i,v,h=>by
  obtain ⟨t,e⟩:=Value.isInt_shape (k:=i) (v:=v) h;exact .inl ⟨i,t,rfl,e⟩
 | .inr x,v,h=>by
  obtain ⟨t,e⟩:=Value.isStrOf_shape (x:=x) (v:=v) h;exact .inr ⟨x,t,rfl,e⟩
theorem sH (i:Int) (t:Tok):gv (.inl i) (.int i t)=true:=by simp [gv,Value.isInt]
theorem sJ (x:Str) (t:Tok):gv (.inr x) (.str x t)=true:=by simp [gv,Value.isStrOf]
theorem Ar (a b:Int):decide ((MB a:Key)=MB b)=(a==b):=by
 by_cases e:a=b
 ·subst e;simp
 ·have h : ¬ (MB a:Key)=MB b:=fun q=>e (MB.inj q);rw [decide_eq_false h];exact (beq_eq_false_iff_ne.mpr e).symm
theorem As (a b:Str):decide ((MD a:Key)=MD b)=decide (a=b):=by
 by_cases e:a=b
 ·subst e;simp
 ·have h : ¬ (MD a:Key)=MD b:=fun q=>e (MD.inj q);rw [decide_eq_false h,decide_eq_false e]
theorem Au (a:Int) (b:Str):decide ((MB a:Key)=MD b)=false:=decide_eq_false (fun q=>nomatch q)
theorem Av (a:Str) (b:Int):decide ((MD a:Key)=MB b)=false:=decide_eq_false (fun q=>nomatch q)
noncomputable def aJ (prog:GI) (w:Hf):PySem.KeyKind prog w Key where
 is:=gv
 hash:=Du w
 inj:=fun v a b ha hb=>by
  rcases aN ha with ⟨i,t,rfl,rfl⟩ | ⟨x,t,rfl,rfl⟩
  ·rcases aN hb with ⟨j,u,rfl,e⟩ | ⟨y,u,rfl,e⟩
   ·injection e with e1 _;rw [e1]
   ·exact nomatch e
  ·rcases aN hb with ⟨j,u,rfl,e⟩ | ⟨y,u,rfl,e⟩
   ·exact nomatch e
   ·injection e with e1 _;rw [e1]
 byValue:=fun k v h=>by
  rcases aN h with ⟨i,t,rfl,rfl⟩ | ⟨x,t,rfl,rfl⟩ <;> rfl
 pyHash:=fun hv h=>by
  rcases aN hv with ⟨i,t,rfl,rfl⟩ | ⟨x,t,rfl,rfl⟩
  ·exact wpAny_pyHash_int h
  ·exact wpAny_pyHash_str h
 eqBool:=fun hu hv h=>by
  rcases aN hu with ⟨i,t,rfl,rfl⟩ | ⟨x,t,rfl,rfl⟩
  ·rcases aN hv with ⟨j,u,rfl,rfl⟩ | ⟨y,u,rfl,rfl⟩
   ·rw [Ar] at h;exact wpAny_eqBool_int h
   ·rw [Au] at h;exact Oc i t y u _ _ _ _ h
  ·rcases aN hv with ⟨j,u,rfl,rfl⟩ | ⟨y,u,rfl,rfl⟩
   ·rw [Av] at h;exact Od x t j u _ _ _ _ h
   ·rw [As] at h;exact wpAny_eqBool_str h
 «strs» := fun k x t v h=>by
  rcases aN h with ⟨i,u,rfl,e⟩ | ⟨y,u,rfl,e⟩
  ·exact nomatch e
  ·injection e with e1 _
   subst e1
   cases v <;> rfl
theorem ph (prog:GI) (w:Hf) (i:Int) (t:Tok):(aJ prog w).is (.inl i) (.int i t)=true:=sH i t
theorem pi (prog:GI) (w:Hf) (x:Str) (t:Tok):(aJ prog w).is (.inr x) (.str x t)=true:=sJ x t
end
section
inductive V where
 | non | bl (b:Bool) | int (i:Int) | str (x:Str) | byt (b:Array UInt8) | flt (b:UInt64) | ref (a:Addr) | ty (n:String)
 deriving DecidableEq
noncomputable def RelV:V->gV->Prop
 | .non,u=>u=JS
 | .bl b,u=>u=Pp b
 | .int i,u => ∃ t,u=PX i t
 | .str x,u => ∃ t,u=PY x t
 | .byt b,u => ∃ t,u=Value.bytes b t
 | .flt b,u => ∃ t,u=Value.float b t
 | .ref a,u=>u=GJ a
 | .ty n,u=>u=Hb n
noncomputable abbrev Vals:List V->List gV->Prop:=HD RelV
theorem Vals.length {xs:List V} {us:List gV} (r:Vals xs us):xs.length=us.length:=Kb r
theorem Vals.get:∀ {xs:List V} {us:List gV} {i:Nat} {x:V},Vals xs us->xs[i]? = some x -> ∃ u,us[i]? = some u/\RelV x u
 | _,_,_,_, .nil,e=>by simp at e
 | _,_,0,_, .cons r _,e=>by simp at e;subst e;exact ⟨_,rfl,r⟩
 | _,_,i+1,x, .cons _ t,e=>by
   obtain ⟨u,h1,h2⟩:=Vals.get (i:=i) (x:=x) t (by simpa using e)
   exact ⟨u,by simpa using h1,h2⟩
theorem Vals.set {x:V} {u:gV} (r:RelV x u):∀ {xs:List V} {us:List gV} (i:Nat),Vals xs us->Vals (xs.set i x) (us.set i u)
 | _,_,_, .nil => .nil
 | _,_,0, .cons _ t => .cons r t
 | _,_,i+1, .cons q t => .cons q (Vals.set r i t)
theorem Vals.append:∀ {xs ys:List V} {us ws:List gV},Vals xs us->Vals ys ws->Vals (xs++ys) (us++ws)
 | _,_,_,_, .nil,s=>s
 | _,_,_,_, .cons r t,s => .cons r (Vals.append t s)
theorem Vals.take:∀ {xs:List V} {us:List gV} (n:Nat),Vals xs us->Vals (xs.take n) (us.take n)
 | _,_,0,_ => .nil
 | _,_,_+1, .nil => .nil
 | _,_,n+1, .cons r t => .cons r (Vals.take n t)
theorem Vals.drop:∀ {xs:List V} {us:List gV} (n:Nat),Vals xs us->Vals (xs.drop n) (us.drop n)
 | _,_,0,r=>r
 | _,_,_+1, .nil => .nil
 | _,_,n+1, .cons _ t=>Vals.drop n t
noncomputable def RelO:Option V->Option gV->Prop
 | some v,some u=>RelV v u
 | none,none=>True
 | _,_=>False
noncomputable def KV {κ:Type}:List (κ × V)->List (κ × gV)->Prop:=HD fun (p : κ × V) (q : κ × gV)=>p.1=q.1/\RelV p.2 q.2
noncomputable def kV:Key->V
 | .inl i => .int i
 | .inr x => .str x
inductive HO where
 | lst (xs:List V)
 | tup (xs:List V)
 | dK (kvs:List (Key×V)) | dT (kvs:List (List Key×V))
 | set (S:Int->Bool) (n:Nat)
 | ins (C dx:Addr) (fs:List (Str×V))
 | own (x:Addr)
 | xd (fs:List (Str×V))
 | met (f x:Addr)
 | rng (lo hi:Int)
 | frz (o:Obj) (u:HO)
 | tbl (ps:Array gV)
 | ext (φ:Heap->Prop)
noncomputable abbrev Hp:=Addr->Option HO
noncomputable def upd (H:Hp) (a:Addr) (o:HO):Hp:=fun b=>if b=a then some o else H b
theorem aG {H:Hp} {a:Addr} {o:HO}:upd H a o a=some o:=by unfold upd;rw [if_pos rfl]
theorem aj {H:Hp} {a b:Addr} {o:HO} (h:b≠a):upd H a o b=H b:=by unfold upd;rw [if_neg h]
theorem Cn {H:Hp} {a b:Addr} {o u:HO} (h:H a=some o) (h':H b=some u) (d:o≠u):a≠b:=by
 intro e;subst e;rw [h] at h';exact d (Ig.inj h')
theorem aS {H:Hp} {a b:Addr} {o:HO} (h:H a=some o) (h':H b=none):a≠b:=by
 intro e;subst e;rw [h] at h';cases h'
section
variable (P:GI) (w:Hf)
noncomputable def ObjOk (H:Hp) (h:Heap) (a:Addr):HO->Prop
 | .lst xs=>xs.length<=Gg /\ ∃ (its:List gV) (n:Nat),Vals xs its/\h.get? a=some { cls := .type "list",data := .seq its.toArray n }
 | .tup xs=>xs.length<=Gg /\ ∃ its:List gV,Vals xs its/\IsTup h a its.toArray
 | .dK kvs=>kvs.length<=Gg/\(a==IS)=false /\ ∃ vs,KV kvs vs/\h.DictOf (aJ P w) a vs
 | .dT kvs=>kvs.length<=Gg/\(a==IS)=false /\ ∃ xs:List (List Key×Addr×gV),
  HD (fun (p:List Key×V) (q:List Key×Addr×gV)=>p.1=q.1/\H q.2.1=some (.tup (p.1.map kV))/\RelV p.2 q.2.2) kvs xs /\
  ∃ o es ep,h.get? a=some o/\o.ExactDict/\o.data = .dict es ep/\es.toList=xs.map (entryOfKey (LK (aJ P w)))/\(xs.map (·.1)).Nodup
 | .set S n=>h.SetOf (intKind P w) a S n
 | .ins C dx fs=>H dx=some (.own a)/\fs.length<=1000/\dx≠a/\h.get? a=some (PySem.W.instObj C dx) /\
  ∃ mA,h.Ns1 dx mA/\(∀ f,RelO (fs.lookup f) (mA f))/\PySem.Within mA (fs.map (·.1))
 | .own _ => ∃ o,h.get? a=some o
 | .xd fs => ∃ mA,h.Ns1 a mA /\ ∀ f,RelO (fs.lookup f) (mA f)
 | .rng lo hi => ∃ t u v,h.get? a=some { cls := .type "range",data := .fields #[.int lo t, .int hi u, .int 1 v] }
 | .frz o u=>h.get? a=some o/\ObjOk H h a u
 | .tbl ps=>h.get? a=some { cls := .none,data := .fields ps }
 | .met f x=>h.get? a=some (Mb (.ref f) (.ref x))
 | .ext φ => φ h/\(∃ o,h.get? a=some o) /\ ∀ h1 h2:Heap, φ h1->(∀ o,h1.get? a=some o->h2.get? a=some o) -> φ h2
def HOk (H:Hp) (h:Heap):Prop := ∀ a o,H a=some o->ObjOk P w H h a o
end
section
variable {P:GI} {w:Hf} {H H':Hp} {h h':Heap} {a:Addr} {o:HO}
theorem ObjOk.lt (x:ObjOk P w H h a o):a < h.objs.size:=by
 cases o with
 | lst xs=>obtain ⟨_,_,_,_,e⟩:=x;exact Ga e
 | tup xs=>obtain ⟨_,_,_,p⟩:=x;exact p.lt
 | dK kvs=>obtain ⟨_,_,_,_,o,_,_,e,_⟩:=x;exact Ga e
 | dT kvs=>obtain ⟨_,_,_,_,o,_,_,e,_⟩:=x;exact Ga e
 | set S n=>obtain ⟨o,_,_,_,e,_⟩:=x;exact Ga e
 | ins C dx fs=>obtain ⟨_,_,_,e,_⟩:=x;exact Ga e
 | own y=>obtain ⟨_,e⟩:=x;exact Ga e
 | xd fs=>obtain ⟨_,⟨_,_,_,e,_⟩,_⟩:=x;exact Ga e
 | rng lo hi=>obtain ⟨_,_,_,e⟩:=x;exact Ga e
 | frz ob u=>obtain ⟨e,_⟩:=x;exact Ga e
 | tbl ps=>exact Ga (show h.get? a=some _ from x)
 | met f y=>exact Ga (show h.get? a=some _ from x)
 | ext φ => obtain ⟨_,⟨_,e⟩,_⟩:=x;exact Ga e
theorem Qa {α β:Type} {F G : α -> β -> Prop}:∀ {l₁:List α} {l₂:List β},HD F l₁ l₂ -> (∀ a b,F a b->G a b)->HD G l₁ l₂
 | _,_, .nil,_ => .nil
 | _,_, .cons r t,f => .cons (f _ _ r) (Qa t f)
theorem ObjOk.stay (x:ObjOk P w H h a o) (k:∀ b u,(b=a∨H b=some (.own a))->h.get? b=some u->h'.get? b=some u)
 (ho:∀ b,H b=some (.own a)->H' b=some (.own a)) (j:∀ b xs,H b=some (.tup xs)->H' b=some (.tup xs)):ObjOk P w H' h' a o:=by
 induction o with
 | lst xs=>obtain ⟨z,its,n,r,e⟩:=x;exact ⟨z,its,n,r,k _ _ (.inl rfl) e⟩
 | tup xs=>obtain ⟨z,its,r,ob,e,c⟩:=x;exact ⟨z,its,r,ob,k _ _ (.inl rfl) e,c⟩
 | dK kvs=>obtain ⟨z,y,vs,r,ob,es,ep,e,c⟩:=x;exact ⟨z,y,vs,r,ob,es,ep,k _ _ (.inl rfl) e,c⟩
 | dT kvs =>
   obtain ⟨z,y,xs,r,ob,es,ep,e,c⟩:=x;exact ⟨z,y,xs,Qa r fun p q z=>⟨z.1,j _ _ z.2.1,z.2.2⟩,ob,es,ep,k _ _ (.inl rfl) e,c⟩
 | set S n=>obtain ⟨ob,es,ep,t,e,c⟩:=x;exact ⟨ob,es,ep,t,k _ _ (.inl rfl) e,c⟩
 | ins C dx fs =>
   obtain ⟨d,z,ne,e,mA,⟨od,es,ep,e2,c⟩,r⟩:=x;exact ⟨ho _ d,z,ne,k _ _ (.inl rfl) e,mA,⟨od,es,ep,k _ _ (.inr d) e2,c⟩,r⟩
 | own y=>obtain ⟨ob,e⟩:=x;exact ⟨ob,k _ _ (.inl rfl) e⟩
 | xd fs=>obtain ⟨mA,⟨od,es,ep,e,c⟩,r⟩:=x;exact ⟨mA,⟨od,es,ep,k _ _ (.inl rfl) e,c⟩,r⟩
 | rng lo hi=>obtain ⟨t,u,v,e⟩:=x;exact ⟨t,u,v,k _ _ (.inl rfl) e⟩
 | frz ob u ih=>obtain ⟨e,q⟩:=x;exact ⟨k _ _ (.inl rfl) e,ih q⟩
 | tbl ps =>
   have e:h.get? a=some { cls := .none,data := .fields ps }:=x;show h'.get? a=some { cls := .none,data := .fields ps };exact k a _ (.inl rfl) e
 | met f y =>
   have e:h.get? a=some (Mb (.ref f) (.ref y)):=x;show h'.get? a=some (Mb (.ref f) (.ref y));exact k a _ (.inl rfl) e
 | ext φ => obtain ⟨p,⟨o,e⟩,st⟩:=x;exact ⟨st _ _ p fun o q=>k _ _ (.inl rfl) q,⟨o,k _ _ (.inl rfl) e⟩,st⟩
theorem HOk.lt (x:HOk P w H h) (e:H a=some o):a < h.objs.size:=(x a o e).lt
theorem HOk.fresh (x:HOk P w H h) (e:h.objs.size<=a):H a=none:=by
 cases q:H a with
 | none=>rfl
 | some u=>exact absurd (GX (x.lt q) e) (HA _)
theorem HOk.kept (x:HOk P w H h) (k:∀ b u,h.get? b=some u->h'.get? b=some u):HOk P w H h':=fun a o e =>
 (x a o e).stay (fun b u _ q=>k b u q) (fun _ q=>q) fun _ _ q=>q
theorem HOk.laid (x:HOk P w H h) (k:∀ b u,h.get? b=some u->h'.get? b=some u) (z:h.objs.size<=a) (new:ObjOk P w (upd H a o) h' a o):HOk P w (upd H a o) h':=fun b u e=>by
 have j:=x.fresh z
 by_cases hb:b=a
 ·subst hb;rw [aG] at e;cases e;exact new
 ·rw [aj hb] at e;exact (x b u e).stay (fun c v _ q=>k c v q) (fun c q=>by rw [aj (aS q j)];exact q) fun c xs q=>by rw [aj (aS q j)];exact q
end
def Rd (H:Hp) (a:Addr) (u:HO):Prop:=H a=some u ∨ ∃ o,H a=some (.frz o u)
theorem Rd.of {H:Hp} {a:Addr} {u:HO} (h:H a=some u):Rd H a u := .inl h
theorem Rd.ok {P:GI} {w:Hf} {H:Hp} {h:Heap} {a:Addr} {u:HO} (r:Rd H a u) (x:HOk P w H h):ObjOk P w H h a u:=by
 rcases r with r | ⟨o,r⟩
 ·exact x a u r
 ·obtain ⟨_,q⟩:=x a _ r;exact q
noncomputable def Mut:Option HO->Prop
 | some (.lst _)=>True
 | some (.dK _)=>True
 | some (.dT _)=>True
 | some (.set _ _)=>True
 | some (.ins _ _ _)=>True
 | some (.ext _)=>True
 | _=>False
section
variable {P:GI} {w:Hf} {H:Hp} {h h':Heap} {x e:Addr} {o':HO}
theorem HOk.write (ok:HOk P w H h) (mu:Mut (H x)) (he:e=x∨H e=some (.own x)) (k:∀ b u,b≠e->h.get? b=some u->h'.get? b=some u) (F:∃ u,h'.get? e=some u)
 (new:ObjOk P w (upd H x o') h' x o'):HOk P w (upd H x o') h':=fun b u q=>by
 have nown:∀ c y,H c=some (.own y)->c≠x:=fun c y r z=>by subst z;rw [r] at mu;exact mu
 have ntup:∀ c xs,H c=some (.tup xs)->c≠x:=fun c xs r z=>by subst z;rw [r] at mu;exact mu
 by_cases hb:b=x
 ·subst hb;rw [aG] at q;cases q;exact new
 ·rw [aj hb] at q
  by_cases j:b=e
  ·have q':H b=some (.own x):=by
    rcases he with z | z
    ·exact absurd (j.trans z) hb
    ·rw [j];exact z
   rw [q] at q';cases q';obtain ⟨v,G⟩:=F;exact ⟨v,by rw [j];exact G⟩
  ·refine (ok b u q).stay (fun c v B r=>k c v ?_ r) (fun c r=>by rw [aj (nown c b r)];exact r) fun c xs r=>by rw [aj (ntup c xs r)];exact r
   rcases B with rfl | B
   ·exact j
   ·rintro rfl
    rcases he with z | z
    ·exact nown c b B z
    ·rw [B] at z;cases z;exact hb rfl
end
structure Un (fs ex:List Addr) (H H':Hp) (h h':Heap):Prop where
 keep:∀ b o,h.get? b=some o->H b=none->b∉fs->b∉ex->h'.get? b=some o
 slot:∀ b o,h.get? b=some o->H b=none->b∈fs->b∉ex -> ∃ sl,h'.get? b=some { o with slots:=sl }
 free:∀ b o,h.get? b=some o->H b=none->b∉ex->H' b=none
 there:∀ b o,h.get? b=some o->b∉ex -> ∃ o',h'.get? b=some o'
 tups:∀ b xs,H b=some (.tup xs)->H' b=some (.tup xs)
 frzs:∀ b o u,H b=some (.frz o u)->H' b=some (.frz o u)
 tbls:∀ b ps,H b=some (.tbl ps) -> ∃ more,H' b=some (.tbl (ps++more))
section
variable {fs fs' ex ex':List Addr} {H H1 H2:Hp} {h h1 h2 h':Heap} {a x e:Addr} {o:HO}
theorem Un.any (u:Un fs ex H H1 h h1) {b:Addr} {ob:Obj} (q:h.get? b=some ob) (n:H b=none) (hx:b∉ex):∃ sl,h1.get? b=some { ob with slots:=sl }:=by
 by_cases j:b∈fs
 ·exact u.slot b ob q n j hx
 ·exact ⟨ob.slots,u.keep b ob q n j hx⟩
theorem Un.kept (k:∀ b u,h.get? b=some u->h'.get? b=some u):Un fs ex H H h h' :=
 ⟨fun b ob q _ _ _=>k b ob q,fun b ob q _ _ _=>⟨ob.slots,k b ob q⟩,fun _ _ _ n _=>n,fun b ob q _=>⟨ob,k b ob q⟩,fun _ _ q=>q,fun _ _ _ q=>q,fun _ ps q=>⟨#[],by rw [q];simp⟩⟩
theorem Un.refl:Un fs ex H H h h:=Un.kept fun _ _ q=>q
theorem Un.laid (k:∀ b u,h.get? b=some u->h'.get? b=some u) (z:h.objs.size<=a) (j:H a=none):Un fs ex H (upd H a o) h h' where
 keep:=fun b u q _ _ _=>k b u q
 slot:=fun b u q _ _ _=>⟨u.slots,k b u q⟩
 free:=fun b u q n _=>by rw [aj (GW (GX (Ga q) z))];exact n
 there:=fun b u q _=>⟨u,k b u q⟩
 tups:=fun b xs q=>by rw [aj (aS q j)];exact q
 frzs:=fun b u xs q=>by rw [aj (aS q j)];exact q
 tbls:=fun b ps q=>⟨#[],by rw [aj (aS q j),q];simp⟩
theorem Un.write (mu:Mut (H x)) (he:e=x∨H e=some (.own x)) (k:∀ b u,b≠e->h.get? b=some u->h'.get? b=some u) (B:∃ u,h'.get? e=some u):Un fs ex H (upd H x o) h h':=by
 have hx:∀ b,H b=none->b≠x:=fun b n z=>by subst z;rw [n] at mu;exact mu
 have F:∀ b,H b=none->b≠e:=fun b n z=>by
  subst z
  rcases he with r | r
  ·exact hx b n r
  ·rw [n] at r;cases r
 have hm:∀ b u,H b=some u -> ¬ Mut (some u)->b≠x:=fun b u q nm z=>by subst z;rw [q] at mu;exact nm mu
 refine ⟨fun b u q n _ _=>k b u (F b n) q,fun b u q n _ _=>⟨u.slots,k b u (F b n) q⟩,fun b u q n _=>by rw [aj (hx b n)];exact n,fun b u q _ => ?_,
  fun b xs q=>by rw [aj (hm b _ q fun z=>z)];exact q,fun b u xs q=>by rw [aj (hm b _ q fun z=>z)];exact q,fun b ps q=>⟨#[],by rw [aj (hm b _ q fun z=>z),q];simp⟩⟩
 by_cases j:b=e
 ·subst j;exact B
 ·exact ⟨u,k b u j q⟩
end
noncomputable def trk (h:Heap) (H:Hp):List Addr:=(D0 h.objs.size).filter fun a=>(H a).isSome
noncomputable def eN (h:Heap) (H:Hp):Heap:=PySem.W.hideAll h (trk h H)
theorem sK (h:Heap) (H:Hp):(eN h H).objs.size=h.objs.size:=PySem.W.hideAll_size _ _
theorem vA {h:Heap} {H:Hp} {b:Addr} {o:Obj} (e:h.get? b=some o) (n:H b=none):(eN h H).get? b=some o :=
 PySem.W.hideAll_get _ e fun hm=>by
  have q:(H b).isSome=true:=(IT.mp hm).2;rw [n] at q;simp at q
theorem yD {h:Heap} {H:Hp} {b:Addr} {o:Obj} (e:(eN h H).get? b=some o):h.get? b=some o/\H b=none:=by
 have e':h.get? b=some o:=PySem.W.of_hideAll (trk h H) e;refine ⟨e', ?_⟩
 cases q:H b with
 | none=>rfl
 | some x =>
   have hm:b∈trk h H:=IT.mpr ⟨GL.mpr (Ga e'),by simp [q]⟩
   have z:(eN h H).get? b=none:=PySem.W.hideAll_none (trk h H) hm;rw [z] at e;cases e
noncomputable def yE (g h:Heap) (L:Addr):List (Addr×Obj):=(D0 h.objs.size).filterMap fun a=>if a=L∨(g.get? a).isSome=true then none else (h.get? a).map fun o=>(a,o)
noncomputable def rest (g h:Heap) (L d:Addr):List (Addr×Obj):=(yE g h L).filter fun p=>decide (p.1≠d)
end
section
structure Mod (K:Frag) (mg:Str->Option gV) (base:Heap):Prop where
 kin:K.In base
 glob:base.Ns HK mg
 blt:∃ mb,base.Ns Pq mb /\ ∀ x:Str,x ≠ "__name__" -> mb x=LC x
 nolimit:base.NoLimit
structure Cx where
 prog:GI
 w:Hf
 K:Frag
 mg:Str->Option gV
 base:Heap
 A:Hg
 N:List Str
 s₀:h7
 H₀:Hp
 env:Env
 outer:List Env
 stack:List Env
 ex:List Addr
 fn:Str->Bool
 calm:Bool
 pn:List (Addr×Obj)
 xe:gV->h7->Prop
noncomputable def frs (l:List Env):List Addr:=l.filterMap (·.frame)
noncomputable abbrev Cx.fs (X:Cx):List Addr:=frs X.outer
def Vis (sc:Scope) (x:Str):Prop:=sc.names.lookup x=some .local∨sc.names.lookup x=some .cell∨sc.names.lookup x=some .free
def Loc (sc:Scope) (x:Str):Prop:=sc.names.lookup x=some .local∨sc.names.lookup x=some .cell
def Dv (env:Env) (h:Heap) (m:Str->Option gV) (x:Str) (u:gV):Prop :=
 (env.kindOf x=some .local/\m x=some u)∨((env.kindOf x=some .cell∨env.kindOf x=some .free) /\ ∃ c,env.cells.lookup x=some c/\h.IsCell c (some u))
structure Cx.Ok (X:Cx):Prop where
 mod:Mod X.K X.mg X.base
 kind:X.env.scope.kind = .function
 glob:X.env.globals=HK
 blt:X.env.builtins=Pq
 above:X.s₀.heap.objs.size<=X.env.locals
 inj:∀ x y c,X.env.cells.lookup x=some c->X.env.cells.lookup y=some c->x=y
 has:∀ x,(X.env.kindOf x=some .cell∨X.env.kindOf x=some .free) -> ∃ c,X.env.cells.lookup x=some c
 cab:∀ x c,X.fn x=true->X.env.cells.lookup x=some c->X.s₀.heap.objs.size<=c
 hd:X.calm=true->X.A.handled=none
 frames:X.A.frames=some X.stack
 stk:X.stack=X.outer∨(X.stack=X.env::X.outer/\X.env.frame=some X.env.locals)
 exf:∀ b∈X.ex,b≠X.env.locals /\ ∀ x c,X.env.cells.lookup x=some c->c≠b
 bs:∀ b o,X.base.get? b=some o->X.s₀.heap.get? b=some o/\X.H₀ b=none
 bsz:X.base.objs.size<=X.s₀.heap.objs.size
 noex:∀ b o,X.base.get? b=some o->b∉X.ex
 exfs:∀ b∈X.ex,b∉X.fs
 funs:X.s₀.heap.FunFrames X.base X.outer
 frf:∀ b∈X.fs,X.H₀ b=none
structure Inv (X:Cx) (pins:List (Addr×Obj)) (σ:List (Option V)) (H:Hp) (s:h7):Prop where
 ok:X.Ok
 os:s.os=X.s₀.os
 bare:Mc s.gens
 base:Un X.fs X.ex X.H₀ H X.s₀.heap s.heap
 loc:∃ m,s.heap.Ns X.env.locals m /\ ∀ (i:Nat) (x:Str) (v:V),X.N[i]? = some x -> σ[i]? = some (some v)->Vis X.env.scope x -> ∃ u,RelV v u/\Dv X.env s.heap m x u
 cell:∀ x c,X.env.cells.lookup x=some c -> ∃ v,s.heap.IsCell c v
 free:H X.env.locals=none
 freeC:∀ x c,X.env.cells.lookup x=some c->H c=none
 pin:∀ p∈X.pn++pins,s.heap.get? p.1=some p.2/\H p.1=none/\p.1≠X.env.locals/\p.1∉X.fs /\ ∀ v,p.2.data ≠ .cell v
 hok:HOk X.prog X.w H s.heap
 len : σ.length=X.N.length
section
variable {X:Cx} {pins:List (Addr×Obj)} {σ:List (Option V)} {H H':Hp} {s:h7} {h':Heap}
theorem Cx.Ok.nofr (ok:X.Ok) {b:Addr} {o:Obj} (e:X.base.get? b=some o):b∉X.fs:=fun j=>by
 have:=(ok.funs.mem j).1;rw [e] at this;cases this
theorem Inv.bs (I:Inv X pins σ H s):∀ b o,X.base.get? b=some o->s.heap.get? b=some o/\H b=none:=fun b o e =>
 ⟨I.base.keep b o (I.ok.bs b o e).1 (I.ok.bs b o e).2 (I.ok.nofr e) (I.ok.noex b o e),I.base.free b o (I.ok.bs b o e).1 (I.ok.bs b o e).2 (I.ok.noex b o e)⟩
theorem Inv.bk (I:Inv X pins σ H s):∀ b o,X.base.get? b=some o->s.heap.get? b=some o:=fun b o e=>(I.bs b o e).1
theorem Inv.mod (I:Inv X pins σ H s):Mod X.K X.mg X.base:=I.ok.mod
theorem Inv.kIn (I:Inv X pins σ H s):X.K.In s.heap:=I.ok.mod.kin.keeps I.bk
theorem Inv.lt (I:Inv X pins σ H s):X.env.locals < s.heap.objs.size:=let ⟨_,j,_⟩:=I.loc;j.lt
theorem Inv.sz (I:Inv X pins σ H s):X.s₀.heap.objs.size<=s.heap.objs.size:=J1 I.ok.above (JY I.lt)
theorem Inv.nofs (I:Inv X pins σ H s) {a:Addr} (h:s.heap.objs.size<=a):a∉X.fs:=fun j=>by
 obtain ⟨_,o,ho,_⟩:=I.ok.funs.mem j;exact absurd (GX (Ga ho) (J1 I.sz h)) (HA _)
theorem Inv.cne (I:Inv X pins σ H s):∀ x c,X.env.cells.lookup x=some c->c≠X.env.locals:=fun x c e z=>by
 obtain ⟨v,o,ho,hd⟩:=I.cell x c e;obtain ⟨m,⟨o',es,ep,j,q,_⟩,_⟩:=I.loc;rw [z,j] at ho;cases ho;rw [q] at hd;cases hd
theorem Inv.funs (I:Inv X pins σ H s):s.heap.FunFrames X.base X.outer:=by
 have all:∀ (l:List Env),(∀ b∈frs l,b∈X.fs)->X.s₀.heap.FunFrames X.base l->s.heap.FunFrames X.base l:=by
  intro l
  induction l with
  | nil=>intro _ _;trivial
  | cons env r ih =>
    intro hs B;obtain ⟨F,⟨L,o,hf,G,ho,hd⟩,J⟩:=B;have j:L∈X.fs:=hs L (by unfold frs;rw [LA,hf];exact HP)
    obtain ⟨sl,e⟩:=I.base.slot L o ho (I.ok.frf L j) j fun z=>I.ok.exfs L z j;exact ⟨F,⟨L,_,hf,G,e,hd⟩,ih (fun b q=>hs b (by unfold frs;rw [LA,hf];exact GP _ q)) J⟩
 exact all X.outer (fun _ q=>q) I.ok.funs
theorem Inv.stack (I:Inv X pins σ H s):s.heap.FunFrames X.base X.stack:=by
 rcases I.ok.stk with e | ⟨e,hf⟩
 ·rw [e];exact I.funs
 ·rw [e];obtain ⟨m,j,_⟩:=I.loc;refine .cons (by rw [I.ok.kind];decide) hf j ?_ I.funs
  exact Heap.get?_none_of_le (J1 I.ok.bsz I.ok.above)
theorem Inv.stkSub (I:Inv X pins σ H s):∀ b∈frs X.stack,b∈X.env.locals::X.fs:=fun b j=>by
 rcases I.ok.stk with e | ⟨e,hf⟩
 ·rw [e] at j;exact GP _ j
 ·rw [e] at j;unfold frs at j;rw [LA,hf] at j;exact j
theorem Inv.stkFree (I:Inv X pins σ H s):∀ b∈frs X.stack,H b=none:=fun b j=>by
 rcases Gj.mp (I.stkSub b j) with e | j
 ·rw [e];exact I.free
 ·obtain ⟨_,o,ho,_⟩:=I.ok.funs.mem j;exact I.base.free b o ho (I.ok.frf b j) fun z=>I.ok.exfs b z j
theorem Inv.step {g':Array GenState} {t':Nat} {d':Drawn} {ch:List Addr} (I:Inv X pins σ H s)
 (j:∀ b∈ch,(b∈X.ex∨X.s₀.heap.objs.size<=b)/\b≠X.env.locals/\(∀ x c,X.env.cells.lookup x=some c->c≠b) /\ ∀ p∈X.pn++pins,p.1≠b)
 (keep:∀ b o,b≠X.env.locals->b∉X.fs->b∉ch->s.heap.get? b=some o->H b=none->h'.get? b=some o)
 (slot:∀ b o,b≠X.env.locals->b∈X.fs->b∉ch->s.heap.get? b=some o->H b=none -> ∃ sl,h'.get? b=some { o with slots:=sl }) (free:∀ b o,b∉ch->s.heap.get? b=some o->H b=none->H' b=none)
 (there:∀ b o,b∉ch->s.heap.get? b=some o -> ∃ o',h'.get? b=some o')
 (tups:∀ b xs,H b=some (.tup xs)->H' b=some (.tup xs)) (frzs:∀ b o u,H b=some (.frz o u)->H' b=some (.frz o u)) (tbls:∀ b ps,H b=some (.tbl ps) -> ∃ more,H' b=some (.tbl (ps++more)))
 (ns:∀ m,s.heap.Ns X.env.locals m->h'.Ns X.env.locals m) (hok:HOk X.prog X.w H' h') (J:Mc g') :
 Inv X pins σ H' { s with heap:=h',gens:=g',drawn:=d',toks:=t' }:=by
 have neL:∀ b o,X.s₀.heap.get? b=some o->b≠X.env.locals:=fun b o e=>GW (GX (Ga e) I.ok.above);have neC:∀ b o,X.s₀.heap.get? b=some o->b∉X.ex->b∉ch:=fun b o e hx B=>by
  rcases (j b B).1 with z | z
  ·exact hx z
  ·exact absurd (GX (Ga e) z) (HA _)
 have cellK:∀ x c,X.env.cells.lookup x=some c -> ∀ v,s.heap.IsCell c v->h'.IsCell c v:=fun x c e v ⟨o,ho,hd⟩=>by
  have nch:c∉ch:=fun z=>(j c z).2.2.1 x c e rfl
  by_cases F:c∈X.fs
  ·obtain ⟨sl,q⟩:=slot c o (I.cne x c e) F nch ho (I.freeC x c e);exact ⟨_,q,hd⟩
  ·exact ⟨o,keep c o (I.cne x c e) F nch ho (I.freeC x c e),hd⟩
 refine ⟨I.ok,I.os,J,⟨fun b o e n B hx => ?_,fun b o e n B hx => ?_,fun b o e n hx => ?_,fun b o e hx => ?_,fun b xs e=>tups b xs (I.base.tups b xs e),fun b o xs e=>frzs b o xs (I.base.frzs b o xs e),fun b ps e => ?_⟩, ?_,fun x c e => ?_, ?_,fun x c e => ?_,fun p G => ?_,hok,I.len⟩
 ·exact keep b o (neL b o e) B (neC b o e hx) (I.base.keep b o e n B hx) (I.base.free b o e n hx)
 ·obtain ⟨sl,e1⟩:=I.base.slot b o e n B hx;obtain ⟨sl',e2⟩:=slot b _ (neL b o e) B (neC b o e hx) e1 (I.base.free b o e n hx);exact ⟨sl',e2⟩
 ·obtain ⟨o',e1⟩:=I.base.there b o e hx;exact free b o' (neC b o e hx) e1 (I.base.free b o e n hx)
 ·obtain ⟨o',e1⟩:=I.base.there b o e hx;exact there b o' (neC b o e hx) e1
 ·obtain ⟨L,e1⟩:=I.base.tbls b ps e;obtain ⟨O,e2⟩:=tbls b _ e1;exact ⟨L++O,by rw [e2,Array.append_assoc]⟩
 ·obtain ⟨m,U,Y⟩:=I.loc;refine ⟨m,ns m U,fun i x v e1 e2 Z => ?_⟩;obtain ⟨u,r,l⟩:=Y i x v e1 e2 Z;refine ⟨u,r, ?_⟩
  rcases l with l | ⟨k,c,e,z⟩
  ·exact .inl l
  ·exact .inr ⟨k,c,e,cellK x c e _ z⟩
 ·obtain ⟨v,z⟩:=I.cell x c e;exact ⟨v,cellK x c e v z⟩
 ·obtain ⟨m,⟨o,_,_,ho,_⟩,_⟩:=I.loc;exact free _ o (fun z=>(j _ z).2.1 rfl) ho I.free
 ·obtain ⟨v,o,ho,hd⟩:=I.cell x c e;exact free c o (fun z=>(j c z).2.2.1 x c e rfl) ho (I.freeC x c e)
 ·obtain ⟨e,n,ne,nf,d⟩:=I.pin p G;have nch:p.1∉ch:=fun z=>(j p.1 z).2.2.2 p G rfl;exact ⟨keep p.1 p.2 ne nf nch e n,free p.1 p.2 nch e n,ne,nf,d⟩
theorem Inv.un {t':Nat} (I:Inv X pins σ H s) (u:Un X.fs [] H H' s.heap h') (hok:HOk X.prog X.w H' h'):Inv X pins σ H' { s with heap:=h',toks:=t' }:=by
 obtain ⟨m,⟨o,es,ep,ho,r⟩,_⟩:=id I.loc;obtain ⟨sl,B⟩:=u.any ho I.free (by simp)
 exact I.step (g':=s.gens) (d':=s.drawn) (ch := []) (fun _ z=>nomatch z) (fun b o _ q _ e n=>u.keep b o e n q (by simp)) (fun b o _ q _ e n=>u.slot b o e n q (by simp)) (fun b o _ e n=>u.free b o e n (by simp)) (fun b o _ e=>u.there b o e (by simp)) u.tups u.frzs u.tbls (fun m' hm=>by
  obtain ⟨o',es',ep',j,r'⟩:=hm;rw [ho] at j;cases j;exact ⟨_,es',ep',B,r'⟩) hok I.bare
theorem Inv.call {g':Array GenState} {t':Nat} {d':Drawn} {ch:List Addr} (I:Inv X pins σ H s) (u:Un (frs X.stack) ch H H' s.heap h') (hok:HOk X.prog X.w H' h') (G:Mc g')
 (q:∀ b∈ch,(b∈X.ex∨X.s₀.heap.objs.size<=b)/\b≠X.env.locals/\(∀ x c,X.env.cells.lookup x=some c->c≠b) /\ ∀ p∈X.pn++pins,p.1≠b) :
 Inv X pins σ H' { s with heap:=h',gens:=g',drawn:=d',toks:=t' }:=by
 obtain ⟨m,⟨o,es,ep,ho,r⟩,_⟩:=id I.loc;obtain ⟨sl,F⟩:=u.any ho I.free fun z=>(q _ z).2.1 rfl;exact I.step (ch:=ch) q (fun b o F J j e n=>u.keep b o e n (fun z=>(Gj.mp (I.stkSub b z)).elim F J) j) (fun b o _ _ j e n=>u.any e n j) (fun b o j e n=>u.free b o e n j) (fun b o j e=>u.there b o e j) u.tups u.frzs u.tbls (fun m' hm=>by
  obtain ⟨o',es',ep',B,r'⟩:=hm;rw [ho] at B;cases B;exact ⟨_,es',ep',F,r'⟩) hok G
theorem Inv.turned {t':Nat} {it:Addr} (I:Inv X pins σ H s) (k:∀ b o,b≠it->s.heap.get? b=some o->h'.get? b=some o) (F:H it=none) (B:it≠X.env.locals)
 (h1:it∈X.ex∨X.s₀.heap.objs.size<=it) (h2:∀ x c,X.env.cells.lookup x=some c->c≠it) (G:∀ p∈X.pn++pins,p.1≠it):Inv X pins σ H { s with heap:=h',toks:=t' }:=by
 have nit:∀ b u,H b=some u->b≠it:=fun b u e z=>by rw [z,F] at e;cases e
 refine I.step (g':=s.gens) (d':=s.drawn) (ch := [it]) (fun b J => ?_) (fun b o _ _ j e _=>k b o (fun z=>j (by simp [z])) e) (fun b o _ _ j e _=>⟨o.slots,k b o (fun z=>j (by simp [z])) e⟩) (fun _ _ _ _ n=>n)
  (fun b o j e=>⟨o,k b o (fun z=>j (by simp [z])) e⟩) (fun _ _ e=>e) (fun _ _ _ e=>e) (fun b ps e=>⟨#[],by rw [e];simp⟩) (fun m hm => ?_) (fun b u e => ?_) I.bare
 ·have e:b=it:=by simpa using J
  subst e;exact ⟨h1,B,h2,G⟩
 ·obtain ⟨o,es,ep,ho,r⟩:=hm;exact ⟨o,es,ep,k _ o (Ne.symm B) ho,r⟩
 ·refine (I.hok b u e).stay (fun c v j q=>k c v ?_ q) (fun _ q=>q) fun _ _ q=>q
  rcases j with z | z
  ·rw [z];exact nit b u e
  ·exact nit c _ z
theorem Inv.tok (I:Inv X pins σ H s) (t:Nat):Inv X pins σ H { s with toks:=t }:=I.un (h':=s.heap) (t':=t) Un.refl I.hok
theorem Inv.kept {t':Nat} (I:Inv X pins σ H s) (k:∀ b u,s.heap.get? b=some u->h'.get? b=some u):Inv X pins σ H { s with heap:=h',toks:=t' }:=I.un (Un.kept k) (I.hok.kept k)
theorem Inv.laid {a:Addr} {o:HO} {t':Nat} (I:Inv X pins σ H s) (k:∀ b u,s.heap.get? b=some u->h'.get? b=some u) (j:s.heap.objs.size<=a) (new:ObjOk X.prog X.w (upd H a o) h' a o) :
 Inv X pins σ (upd H a o) { s with heap:=h',toks:=t' }:=I.un (Un.laid k j (I.hok.fresh j)) (I.hok.laid k j new)
theorem Inv.write {x e:Addr} {o:HO} {t':Nat} (I:Inv X pins σ H s) (mu:Mut (H x)) (he:e=x∨H e=some (.own x)) (k:∀ b u,b≠e->s.heap.get? b=some u->h'.get? b=some u) (j:∃ u,h'.get? e=some u)
 (new:ObjOk X.prog X.w (upd H x o) h' x o):Inv X pins σ (upd H x o) { s with heap:=h',toks:=t' }:=I.un (Un.write mu he k j) (I.hok.write mu he k j new)
theorem Inv.pins_of {pins':List (Addr×Obj)} (I:Inv X pins σ H s) (h:∀ p∈pins',s.heap.get? p.1=some p.2/\H p.1=none/\p.1≠X.env.locals/\p.1∉X.fs /\ ∀ v,p.2.data ≠ .cell v):Inv X pins' σ H s :=
 ⟨I.ok,I.os,I.bare,I.base,I.loc,I.cell,I.free,I.freeC,fun p j=>(Gy.mp j).elim (fun z=>I.pin p (Hk _ z)) (h p),I.hok,I.len⟩
theorem mC {N:List Str} (q:N.Nodup) {i j:Nat} {x:Str} (a:N[i]? = some x) (b:N[j]? = some x):i=j:=by
 obtain ⟨h1,e1⟩:=GB.mp a;obtain ⟨h2,e2⟩:=GB.mp b;exact (List.getElem_inj q).mp (e1.trans e2.symm)
theorem sL {M:Kv} {A:Hg} {E:gV->h7->Prop} {i:Nat} {x:Str} {v:V} {u:gV} {Q:Unit->h7->Prop} (I:Inv X pins σ H s) (hN:X.N.Nodup) (hi:X.N[i]? = some x) (hx:Loc X.env.scope x) (r:RelV v u)
 (h:∀ s',Inv X pins (σ.set i (some v)) H s'->(∃ a,Ib a s.heap s'.heap/\(a=X.env.locals∨X.env.cells.lookup x=some a))->Q () s') (hf:X.fn x=true∨X.env.scope.names.lookup x=some .local:=by first | exact .inl rfl | exact .inr rfl | assumption):Gm M A (storeName X.env x u) Q E s:=by
 obtain ⟨m,hn,hl⟩:=id I.loc;have U:(X.env.scope.kind == .class || (X.env.scope.kind == .module&&X.env.locals != X.env.globals))=false:=by rw [I.ok.kind];rfl
 have Y:i < σ.length:=by rw [I.len];exact (GB.mp hi).1
 have cne:=I.cne;have tracked:∀ {a:Addr} {h':Heap},(∃ o,s.heap.get? a=some o/\H a=none)->Ib a s.heap h'->HOk X.prog X.w H h':=fun {a h'} ha hs b ob e=>by
  obtain ⟨_,_,F⟩:=ha;refine (I.hok b ob e).stay (fun c w' B q=>(hs.2 c ?_).trans q) (fun _ q=>q) fun _ _ q=>q;rintro rfl
  rcases B with rfl | B
  ·rw [F] at e;cases e
  ·rw [F] at B;cases B
 rcases hx with G | G
 ·refine wpAny_storeName_local G hn (fun h' E6 hs => ?_) U;obtain ⟨oL,_,_,E7,_⟩:=id hn;refine h _ ⟨I.ok,I.os,I.bare,⟨fun b o e n J hx => ?_,fun b o e n J hx => ?_,I.base.free,fun b o e hx => ?_,I.base.tups,I.base.frzs,I.base.tbls⟩,⟨_,E6,fun j y v' e1 e2 e3 => ?_⟩,fun y c e => ?_,I.free,I.freeC,fun p hp => ?_,tracked ⟨oL,E7,I.free⟩ hs,by simpa using I.len⟩ ⟨_,hs, .inl rfl⟩
  ·exact (hs.2 b (GW (GX (Ga e) I.ok.above))).trans (I.base.keep b o e n J hx)
  ·obtain ⟨sl,e1⟩:=I.base.slot b o e n J hx;exact ⟨sl,(hs.2 b (GW (GX (Ga e) I.ok.above))).trans e1⟩
  ·obtain ⟨o',e1⟩:=I.base.there b o e hx;exact ⟨o',(hs.2 b (GW (GX (Ga e) I.ok.above))).trans e1⟩
  ·by_cases L:j=i
   ·subst L;rw [hi] at e1;cases e1;rw [Ik Y] at e2
    cases e2
    exact ⟨u,r, .inl ⟨G,by simp⟩⟩
   ·rw [Jh (Ne.symm L)] at e2;obtain ⟨u',r',q⟩:=hl j y v' e1 e2 e3;refine ⟨u',r', ?_⟩
    rcases q with ⟨k,e⟩ | ⟨k,c,e,z⟩
    ·refine .inl ⟨k, ?_⟩;have:y≠x:=fun e=>L (mC hN e1 (e ▸ hi));simp [this,e]
    ·exact .inr ⟨k,c,e,z.sameBut hs (cne y c e)⟩
  ·obtain ⟨w',z⟩:=I.cell y c e;exact ⟨w',z.sameBut hs (cne y c e)⟩
  ·obtain ⟨e,n,ne,nf,d⟩:=I.pin p hp;exact ⟨(hs.2 p.1 ne).trans e,n,ne,nf,d⟩
 ·have O:X.fn x=true:=by
   rcases hf with z | z
   ·exact z
   ·rw [z] at G;cases G
  obtain ⟨c,B⟩:=I.ok.has x (.inl G);obtain ⟨w',z⟩:=I.cell x c B;refine wpAny_storeName_cell I.ok.kind G B z (fun h' Z hs => ?_);obtain ⟨oc,E3,E4⟩:=id z;refine h { s with heap:=h' } ⟨I.ok,I.os,I.bare,⟨fun b o e n J hx => ?_,fun b o e n J hx => ?_,I.base.free,fun b o e hx => ?_,I.base.tups,I.base.frzs,I.base.tbls⟩,⟨m,hn.sameBut hs (Ne.symm (cne x c B)),fun j y v' e1 e2 e3 => ?_⟩,fun y c' e => ?_,I.free,I.freeC,fun p hp => ?_,tracked ⟨oc,E3,I.freeC x c B⟩ hs,by simpa using I.len⟩ ⟨c,hs, .inr B⟩
  ·exact (hs.2 b (GW (GX (Ga e) (I.ok.cab x c O B)))).trans (I.base.keep b o e n J hx)
  ·obtain ⟨sl,e1⟩:=I.base.slot b o e n J hx;exact ⟨sl,(hs.2 b (GW (GX (Ga e) (I.ok.cab x c O B)))).trans e1⟩
  ·obtain ⟨o',e1⟩:=I.base.there b o e hx;exact ⟨o',(hs.2 b (GW (GX (Ga e) (I.ok.cab x c O B)))).trans e1⟩
  ·by_cases L:j=i
   ·subst L;rw [hi] at e1;cases e1;rw [Ik Y] at e2
    cases e2
    exact ⟨u,r, .inr ⟨.inl G,c,B,Z⟩⟩
   ·rw [Jh (Ne.symm L)] at e2;obtain ⟨u',r',q⟩:=hl j y v' e1 e2 e3;refine ⟨u',r', ?_⟩
    rcases q with q | ⟨k,c',e,z'⟩
    ·exact .inl q
    ·refine .inr ⟨k,c',e,z'.sameBut hs ?_⟩;rintro rfl;exact L (mC hN e1 (I.ok.inj _ _ _ e B ▸ hi))
  ·by_cases E5:c'=c
   ·subst E5;exact ⟨_,Z⟩
   ·obtain ⟨w2,z2⟩:=I.cell y c' e;exact ⟨w2,z2.sameBut hs E5⟩
  ·obtain ⟨e,n,ne,nf,d⟩:=I.pin p hp;refine ⟨(hs.2 p.1 ?_).trans e,n,ne,nf,d⟩;intro q;rw [q,E3] at e;have q':oc=p.2:=Ig.inj e;exact d w' (by rw [<- q'];exact E4)
theorem eO {M:Kv} {A:Hg} {E:gV->h7->Prop} {i:Nat} {x:Str} {v:V} {u:gV} {Q:Unit->h7->Prop} (I:Inv X pins σ H s) (j:X.N.Nodup) (hi:X.N[i]? = some x) (hx:Loc X.env.scope x) (r:RelV v u)
 (h:∀ s',Inv X pins (σ.set i (some v)) H s'->Q () s') (hf:X.fn x=true∨X.env.scope.names.lookup x=some .local:=by first | exact .inl rfl | exact .inr rfl | assumption):Gm M A (storeName X.env x u) Q E s :=
 sL I j hi hx r (fun s' I' _=>h s' I') hf
theorem Inv.call' {s':h7} {ch:List Addr} (I:Inv X pins σ H s) (ho:s'.os=s.os) (u:Un (frs X.stack) ch H H' s.heap s'.heap) (hok:HOk X.prog X.w H' s'.heap) (q:Mc s'.gens)
 (j:∀ b∈ch,(b∈X.ex∨X.s₀.heap.objs.size<=b)/\b≠X.env.locals/\(∀ x c,X.env.cells.lookup x=some c->c≠b) /\ ∀ p∈X.pn++pins,p.1≠b):Inv X pins σ H' s':=by
 obtain ⟨h',g',d',t',o'⟩:=s';have e:o'=s.os:=ho;subst e;exact I.call (g':=g') (t':=t') (d':=d') u hok q j
end
noncomputable abbrev XK:=gV->Option Addr->Hp->Prop
noncomputable abbrev St:=List (Option V)
noncomputable abbrev VK:=V->Hp->Prop
noncomputable abbrev TE:=St->Hp->VK->Prop
noncomputable abbrev TT:=St->Hp->(Bool->Hp->Prop)->Prop
noncomputable abbrev TA:=St->Hp->(List V->Hp->Prop)->Prop
structure bm where
 nx:St->Hp->Prop
 rt:VK
 bk:St->Hp->Prop:=fun _ _=>False
 ct:St->Hp->Prop:=fun _ _=>False
noncomputable abbrev TS:=bm->St->Hp->Prop
def EP (X:Cx) (pins:List (Addr×Obj)) (σ:St) (Q:VK) (u:gV) (s':h7):Prop := ∃ v H',Inv X pins σ H' s'/\RelV v u/\Q v H'
def TP (X:Cx) (pins:List (Addr×Obj)) (σ:St) (Q:Bool->Hp->Prop) (b:Bool) (s':h7):Prop := ∃ H',Inv X pins σ H' s'/\Q b H'
def AP (X:Cx) (pins:List (Addr×Obj)) (σ:St) (Q:List V->Hp->Prop) (us:List gV) (s':h7):Prop := ∃ vs H',Inv X pins σ H' s'/\Vals vs us/\Q vs H'
def SP (X:Cx) (pins:List (Addr×Obj)) (D:bm) (f:Flow) (s':h7):Prop :=
 match f with
 | .next => ∃ σ' H',Inv X pins σ' H' s'/\D.nx σ' H'
 | .brk => ∃ σ' H',Inv X pins σ' H' s'/\D.bk σ' H'
 | .cont => ∃ σ' H',Inv X pins σ' H' s'/\D.ct σ' H'
 | .ret u => ∃ v σ' H',Inv X pins σ' H' s'/\RelV v u/\D.rt v H'
def PE (X:Cx) (e:Expr) (t:TE):Prop :=
 ∀ (pins:List (Addr×Obj)) (s:h7) (σ:St) (H:Hp) (Q:VK),Inv X pins σ H s->t σ H Q->Gm (model X.prog X.w) X.A (eval e X.env) (EP X pins σ Q) X.xe s
def PT (X:Cx) (e:Expr) (t:TT):Prop :=
 ∀ (pins:List (Addr×Obj)) (s:h7) (σ:St) (H:Hp) (Q:Bool->Hp->Prop),Inv X pins σ H s->t σ H Q->Gm (model X.prog X.w) X.A (isTrue e X.env (eval e X.env)) (TP X pins σ Q) X.xe s
def PW (X:Cx) (e:Expr) (t:TT):Prop :=
 ∀ (whole:Sem gV) (pins:List (Addr×Obj)) (s:h7) (σ:St) (H:Hp) (Q:Bool->Hp->Prop),Inv X pins σ H s->t σ H Q->Gm (model X.prog X.w) X.A (isTrue e X.env whole) (TP X pins σ Q) X.xe s
theorem PW.pt {X:Cx} {e:Expr} {t:TT} (h:PW X e t):PT X e t:=h _
def PA (X:Cx) (es:List Expr) (t:TA):Prop :=
 ∀ (pos:Pos) (pins:List (Addr×Obj)) (s:h7) (σ:St) (H:Hp) (Q:List V->Hp->Prop),Inv X pins σ H s->t σ H Q->Gm (model X.prog X.w) X.A (spliced (KI pos (GN es X.env))) (AP X pins σ Q) X.xe s
def PS (X:Cx) (st:Stmt) (t:TS):Prop :=
 ∀ (pins:List (Addr×Obj)) (s:h7) (σ:St) (H:Hp) (D:bm),Inv X pins σ H s->t D σ H->Gm (model X.prog X.w) X.A (exec st X.env) (SP X pins D) X.xe s
def PSs (X:Cx) (st:List Stmt) (t:TS):Prop :=
 ∀ (pins:List (Addr×Obj)) (s:h7) (σ:St) (H:Hp) (D:bm),Inv X pins σ H s->t D σ H->Gm (model X.prog X.w) X.A (execs st X.env) (SP X pins D) X.xe s
theorem thn {α:Type} {t:Sem α} {Q Q' : α -> h7->Prop} {M:Kv} {A:Hg} {E:gV->h7->Prop} {s:h7} (h:Gm M A t Q E s) (j:∀ a s,Q a s->Q' a s):Gm M A t Q' E s:=HF h j fun _ _ x=>x
end
section
section
variable {X:Cx}
noncomputable def Dw (i:Nat):TE:=fun σ H Q => ∃ v, σ[i]? = some (some v)/\Q v H
noncomputable def tC (v:V):TE:=fun _ H Q=>Q v H
theorem Aw {i:Nat} {x:Str} {pos:Pos} (F:X.N[i]? = some x) (G:Vis X.env.scope x) (hd:(x==("__debug__":Str))=false:=by decide) (z:(x==("__classdict__":Str))=false:=by decide):PE X (.Name x pos) (Dw i):=by
 intro pins s σ H Q I h;obtain ⟨v,e,h⟩:=h;obtain ⟨m,J,L⟩:=I.loc;obtain ⟨u,r,l⟩:=L i x v F e G;have fin:EP X pins σ Q u s:=⟨v,H,I,r,h⟩
 rcases l with ⟨q,hm⟩ | ⟨q,c,B,j⟩
 ·exact Pt (Nl I.ok.kind q J hm fin) hd
 ·rcases q with q | q
  ·exact Pt (NM I.ok.kind q B j fin) hd
  ·exact Pt (wpAny_loadName_free I.ok.kind q B j fin z) hd
theorem Ax {i j pos}:PE X (.Constant (.int i) j pos) (tC (.int i)):=fun _ _ _ H _ I h=>wpAny_Constant_int ⟨.int i,H,I.tok _,⟨_,rfl⟩,h⟩
theorem Co {b j pos}:PE X (.Constant (.bool b) j pos) (tC (.bl b)):=fun _ _ _ H _ I h=>Constant_bool ⟨.bl b,H,I,rfl,h⟩
theorem Ay {j pos}:PE X (.Constant .none j pos) (tC .non):=fun _ _ _ H _ I h=>Constant_none ⟨.non,H,I,rfl,h⟩
def Gl (X:Cx) (x:Str):Prop:=X.env.kindOf x=some .globalImplicit
theorem pJ {E:gV->h7->Prop} {pins:List (Addr×Obj)} {s:h7} {σ:St} {H:Hp} {x:Str} {u:gV} {pos:Pos} {Q:gV->h7->Prop} (I:Inv X pins σ H s) (j:Gl X x) (hm:X.mg x=some u) (h:Q u s)
 (hd:(x==("__debug__":Str))=false:=by decide):Gm (model X.prog X.w) X.A (eval (.Name x pos) X.env) Q E s :=
 LL I.ok.kind j (Calls.loadGlobal_global (by rw [I.ok.glob];exact I.mod.glob.keeps I.bk) hm h) hd
theorem dr {E:gV->h7->Prop} {pins:List (Addr×Obj)} {s:h7} {σ:St} {H:Hp} {x:Str} {u:gV} {pos:Pos} {Q:gV->h7->Prop} (I:Inv X pins σ H s) (j:Gl X x) (hm:X.mg x=none) (q:LC x=some u) (h:Q u s)
 (z:x ≠ "__name__" := by decide) (hd:(x==("__debug__":Str))=false:=by decide):Gm (model X.prog X.w) X.A (eval (.Name x pos) X.env) Q E s:=by
 obtain ⟨mb,h1,h2⟩:=I.mod.blt;exact LL I.ok.kind j (Calls.loadGlobal_builtin (by rw [I.ok.glob];exact I.mod.glob.keeps I.bk) hm (by rw [I.ok.blt];exact h1.keeps I.bk) ((h2 x z).trans q) h) hd
variable {a b:Expr} {ta tb:TE} {pos:Pos}
variable {tA tB':TT} {rest:List Expr}
noncomputable def Dx (t u:TT):TT:=fun σ H Q=>t σ H fun c H1=>if c=true then u σ H1 Q else Q false H1
noncomputable def tOr (t u:TT):TT:=fun σ H Q=>t σ H fun c H1=>if c=true then Q true H1 else u σ H1 Q
noncomputable def Dy (t:TT):TT:=fun σ H Q=>t σ H fun c H1=>Q (!c) H1
theorem yF (j:PT X a tA):PW X (.BoolOp .And [a] pos) tA:=by
 intro wh pins s σ H Q I h;refine isTrue_and (thn (j pins s σ H Q I h) fun c s1 e => ?_)
 cases c with
 | true=>exact isTrue_and_nil e
 | false=>exact e
theorem Az (j:PT X a tA):PW X (.BoolOp .Or [a] pos) tA:=by
 intro wh pins s σ H Q I h;refine isTrue_or (thn (j pins s σ H Q I h) fun c s1 e => ?_)
 cases c with
 | false=>exact isTrue_or_nil e
 | true=>exact e
theorem AA (z:PT X a tA) (B:PW X (.BoolOp .And (b::rest) pos) tB'):PW X (.BoolOp .And (a::b::rest) pos) (Dx tA tB'):=by
 intro wh pins s σ H Q I h;refine isTrue_and (thn (z pins s σ H _ I h) fun c s1 ⟨H1,j,q⟩ => ?_)
 cases c with
 | true=>exact B wh pins s1 σ H1 Q j q
 | false=>exact ⟨H1,j,q⟩
theorem Cp (z:PT X a tA) (B:PW X (.BoolOp .Or (b::rest) pos) tB'):PW X (.BoolOp .Or (a::b::rest) pos) (tOr tA tB'):=by
 intro wh pins s σ H Q I h;refine isTrue_or (thn (z pins s σ H _ I h) fun c s1 ⟨H1,j,q⟩ => ?_)
 cases c with
 | true=>exact ⟨H1,j,q⟩
 | false=>exact B wh pins s1 σ H1 Q j q
theorem AB (j:PT X a tA):PT X (.UnaryOp .Not a pos) (Dy tA):=by
 intro pins s σ H Q I h;exact isTrue_not (j pins s σ H (fun c H1=>Q (!c) H1) I h)
noncomputable def Cq (ta tb:TE):TE:=fun σ H Q=>ta σ H fun x H1 => ∃ c,x = .bl c/\if c=true then tb σ H1 Q else Q (.bl false) H1
noncomputable def Dz (ta tb:TE):TE:=fun σ H Q=>ta σ H fun x H1 => ∃ c,x = .bl c/\if c=true then Q (.bl true) H1 else tb σ H1 Q
noncomputable def Cr (ta:TE):TE:=fun σ H Q=>ta σ H fun x H1 => ∃ c,x = .bl c/\Q (.bl (!c)) H1
theorem AC {op} {t:TE} (h:PE X a t):PE X (.BoolOp op [a] pos) t:=fun pins s σ H Q I hw=>BoolOp_one (h pins s σ H Q I hw)
theorem AD (z:PE X a ta) (B:PE X (.BoolOp .And (b::rest) pos) tb):PE X (.BoolOp .And (a::b::rest) pos) (Cq ta tb):=by
 intro pins s σ H Q I h;refine BoolOp_and (thn (z pins s σ H _ I h) fun v s1 ⟨x,H1,q,F,j⟩ => ?_);obtain ⟨c,rfl,j⟩:=j
 cases F
 refine JQ ?_
 cases c with
 | true=>exact B pins s1 σ H1 Q q j
 | false=>exact ⟨.bl false,H1,q,rfl,j⟩
theorem Ct (z:PE X a ta) (B:PE X (.BoolOp .Or (b::rest) pos) tb):PE X (.BoolOp .Or (a::b::rest) pos) (Dz ta tb):=by
 intro pins s σ H Q I h;refine BoolOp_or (thn (z pins s σ H _ I h) fun v s1 ⟨x,H1,q,F,j⟩ => ?_);obtain ⟨c,rfl,j⟩:=j
 cases F
 refine JQ ?_
 cases c with
 | false=>exact B pins s1 σ H1 Q q j
 | true=>exact ⟨.bl true,H1,q,rfl,j⟩
theorem AE (q:PE X a ta):PE X (.UnaryOp .Not a pos) (Cr ta):=by
 intro pins s σ H Q I h;refine UnaryOp_ (thn (q pins s σ H _ I h) fun v s1 ⟨x,H1,z,B,j⟩ => ?_);obtain ⟨c,rfl,j⟩:=j
 cases B
 exact not_of (JQ ⟨.bl (!c),H1,z,rfl,j⟩)
noncomputable def tIf (t:TT) (ta tb:TE):TE:=fun σ H Q=>t σ H fun c H1=>if c=true then ta σ H1 Q else tb σ H1 Q
theorem vB {c:Expr} (z:PT X c tA) (B:PE X a ta) (F:PE X b tb):PE X (.IfExp c a b pos) (tIf tA ta tb):=by
 intro pins s σ H Q I h;refine wpAny_IfExp (thn (z pins s σ H _ I h) fun d s1 ⟨H1,j,q⟩ => ?_)
 cases d with
 | true=>exact B pins s1 σ H1 Q j q
 | false=>exact F pins s1 σ H1 Q j q
end
end
section
def SqL (K:Frag) (H:Hp) (a:Addr) (xs:List V):Prop :=
 Rd H a (.lst xs) ∨
  ∃ (o:Obj) (its:Array gV) (n:Nat),K.lookup a=some o/\o.cls = .type "list" /\ o.dict=none/\o.data = .seq its n/\its.size<=Gg/\Vals xs its.toList
def SqT (K:Frag) (H:Hp) (a:Addr) (xs:List V):Prop :=
 Rd H a (.tup xs) ∨
  ∃ (o:Obj) (its:Array gV) (n:Nat),K.lookup a=some o/\o.cls = .type "tuple" /\ o.data = .seq its n/\its.size<=Gg/\Vals xs its.toList
noncomputable def DA:gV->Option V
 | .none=>some .non
 | .bool b=>some (.bl b)
 | .int i _=>some (.int i)
 | .str x _=>some (.str x)
 | .bytes b _=>some (.byt b)
 | .float b _=>some (.flt b)
 | .ref a=>some (.ref a)
 | .type n=>some (.ty n)
 | _=>none
theorem RelV.abs {x:V} {u:gV} (r:RelV x u):DA u=some x:=by
 cases x with
 | non=>cases r;rfl
 | bl _=>cases r;rfl
 | int _=>obtain ⟨t,rfl⟩:=r;rfl
 | str _=>obtain ⟨t,rfl⟩:=r;rfl
 | byt _=>obtain ⟨t,rfl⟩:=r;rfl
 | flt _=>obtain ⟨t,rfl⟩:=r;rfl
 | ref _=>cases r;rfl
 | ty _=>cases r;rfl
theorem RelV.inj {x y:V} {u:gV} (r:RelV x u) (q:RelV y u):x=y:=Ig.inj (r.abs.symm.trans q.abs)
theorem Vals.inj:∀ {xs ys:List V} {us:List gV},Vals xs us->Vals ys us->xs=ys
 | _,_,_, .nil, .nil=>rfl
 | _,_,_, .cons r t, .cons r' t'=>by rw [r.inj r',Vals.inj t t']
section
variable {X:Cx} {pins:List (Addr×Obj)} {σ:St} {H:Hp} {s:h7} {a:Addr} {xs ys:List V}
theorem SqL.of {K:Frag} (h:H a=some (.lst xs)):SqL K H a xs := .inl (.inl h)
theorem SqT.of {K:Frag} (h:H a=some (.tup xs)):SqT K H a xs := .inl (.inl h)
theorem Inv.list (I:Inv X pins σ H s) (h:SqL X.K H a xs):∃ its:List gV,Vals xs its/\PlainL s.heap a its.toArray/\xs.length<=Gg:=by
 rcases h with h | ⟨o,its,n,j,q,hd,hs,B,r⟩
 ·obtain ⟨z,its,n,r,e⟩:=h.ok I.hok;exact ⟨its,r,⟨_,n,e,rfl,rfl,rfl⟩,z⟩
 ·refine ⟨its.toList,r,⟨o,n,I.kIn a o j,q,hd,by simpa using hs⟩, ?_⟩
  have e:=r.length;simp only [GD] at e;omega
theorem Inv.tuple (I:Inv X pins σ H s) (h:SqT X.K H a xs):∃ its:List gV,Vals xs its/\IsTup s.heap a its.toArray/\xs.length<=Gg:=by
 rcases h with h | ⟨o,its,n,j,q,hs,B,r⟩
 ·obtain ⟨z,its,r,p⟩:=h.ok I.hok;exact ⟨its,r,p,z⟩
 ·refine ⟨its.toList,r,⟨o,I.kIn a o j,q,n,by simpa using hs⟩, ?_⟩
  have e:=r.length;simp only [GD] at e;omega
theorem Inv.list_inj (I:Inv X pins σ H s) (h:SqL X.K H a xs) (h':SqL X.K H a ys):xs=ys:=by
 obtain ⟨its,r,⟨o,n,e,_,_,d⟩,_⟩:=I.list h;obtain ⟨its',r',⟨o',n',e',_,_,d'⟩,_⟩:=I.list h';rw [e] at e';cases e';rw [d] at d'
 injection d' with d1 _
 have:its=its':=by simpa using congrArg MJ d1
 subst this;exact r.inj r'
theorem Inv.tuple_inj (I:Inv X pins σ H s) (h:SqT X.K H a xs) (h':SqT X.K H a ys):xs=ys:=by
 obtain ⟨its,r,⟨o,e,_,n,d⟩,_⟩:=I.tuple h;obtain ⟨its',r',⟨o',e',_,n',d'⟩,_⟩:=I.tuple h';rw [e] at e';cases e';rw [d] at d'
 injection d' with d1 _
 have:its=its':=by simpa using congrArg MJ d1
 subst this;exact r.inj r'
end
noncomputable abbrev Cx.wish (X:Cx) (E:gV->h7->Prop):Cx := { X with xe:=E }
noncomputable abbrev Cx.nox (X:Cx):Cx:=X.wish fun _ _=>False
theorem Cx.Ok.wish {X:Cx} (ok:X.Ok) (E:gV->h7->Prop):(X.wish E).Ok :=
 ⟨ok.mod,ok.kind,ok.glob,ok.blt,ok.above,ok.inj,ok.has,ok.cab,ok.hd,ok.frames,ok.stk,ok.exf,ok.bs,ok.bsz,ok.noex,ok.exfs,ok.funs,ok.frf⟩
theorem Cx.Ok.unwish {X:Cx} {E:gV->h7->Prop} (ok:(X.wish E).Ok):X.Ok :=
 ⟨ok.mod,ok.kind,ok.glob,ok.blt,ok.above,ok.inj,ok.has,ok.cab,ok.hd,ok.frames,ok.stk,ok.exf,ok.bs,ok.bsz,ok.noex,ok.exfs,ok.funs,ok.frf⟩
section
variable {X:Cx} {pins:List (Addr×Obj)} {σ:St} {H:Hp} {s:h7} {E:gV->h7->Prop}
theorem Inv.wish (I:Inv X pins σ H s) (E:gV->h7->Prop):Inv (X.wish E) pins σ H s:=⟨I.ok.wish E,I.os,I.bare,I.base,I.loc,I.cell,I.free,I.freeC,I.pin,I.hok,I.len⟩
theorem Inv.unwish (I:Inv (X.wish E) pins σ H s):Inv X pins σ H s:=⟨I.ok.unwish,I.os,I.bare,I.base,I.loc,I.cell,I.free,I.freeC,I.pin,I.hok,I.len⟩
theorem SP.unwish {D:bm} {f:Flow} {s':h7} (h:SP (X.wish E) pins D f s'):SP X pins D f s':=by
 cases f with
 | next=>obtain ⟨σ',H',I,q⟩:=h;exact ⟨σ',H',I.unwish,q⟩
 | brk=>obtain ⟨σ',H',I,q⟩:=h;exact ⟨σ',H',I.unwish,q⟩
 | cont=>obtain ⟨σ',H',I,q⟩:=h;exact ⟨σ',H',I.unwish,q⟩
 | ret u=>obtain ⟨v, σ',H',I,r,q⟩:=h;exact ⟨v, σ',H',I.unwish,r,q⟩
theorem PSs.nox {st:List Stmt} {t:TS} (h:PSs X.nox st t):PSs X st t:=fun pins s σ H D I hw =>
 HF (h pins s σ H D (I.wish _) hw) (fun _ _ q=>q.unwish) fun _ _ z=>False.elim z
end
section
variable {X:Cx} {st:Stmt} {rest:List Stmt} {t u:TS} {e:Expr} {te:TE} {pos:Pos}
noncomputable def qO:TS:=fun D σ H=>D.nx σ H
noncomputable def AF (t u:TS):TS:=fun D σ H=>t { D with nx:=u D } σ H
theorem yG:PSs X [] qO:=fun _ _ σ H _ I h=>N5 ⟨σ,H,I,h⟩
theorem vC (h1:PS X st t) (h2:PSs X rest u):PSs X (st::rest) (AF t u):=by
 intro pins s σ H D I h;refine wpAny_execs_cons (thn (h1 pins s σ H { D with nx:=u D } I h) fun f s1 q => ?_)
 cases f with
 | next =>
   obtain ⟨σ',H',I',q⟩:=q;exact h2 pins s1 σ' H' D I' q
 | ret v=>exact q
 | brk=>exact q
 | cont=>exact q
noncomputable def sM:TS:=fun D σ H=>D.bk σ H
noncomputable def xU:TS:=fun D σ H=>D.ct σ H
theorem yH:PS X (.Pass pos) qO:=fun _ _ σ H _ I h=>wpAny_Pass ⟨σ,H,I,h⟩
theorem vD:PS X (.Break pos) sM:=fun _ _ σ H _ I h=>wpAny_Break ⟨σ,H,I,h⟩
theorem pj:PS X (.Continue pos) xU:=fun _ _ σ H _ I h=>wpAny_Continue ⟨σ,H,I,h⟩
theorem Inv.quiet {pins:List (Addr×Obj)} {σ:St} {H:Hp} {s:h7} (I:Inv X pins σ H s):interactive X.env=false:=by simp [interactive,I.ok.kind]
noncomputable def xV (te:TE):TS:=fun D σ H=>te σ H fun _ H1=>D.nx σ H1
theorem yI (he:PE X e te) (hs:Kw e none pos.line X.env=pure false:=by rfl):PS X (.Expr e pos) (xV te):=by
 intro pins s σ H D I h;exact wpAny_Expr_any (thn (he pins s σ H _ I h) fun v s1 ⟨x,H1,j,z,q⟩=>⟨σ,H1,j,q⟩) I.quiet hs
noncomputable def AG (te:TE):TS:=fun D σ H=>te σ H D.rt
theorem AH (he:PE X e te):PS X (.Return (some e) pos) (AG te):=by
 intro pins s σ H D I h;exact wpAny_Return_some (thn (he pins s σ H _ I h) fun v s1 ⟨x,H1,j,q,z⟩=>⟨x, σ,H1,j,q,z⟩)
noncomputable def AI (c:TT) (t u:TS):TS:=fun D σ H=>c σ H fun b H1=>if b=true then t D σ H1 else u D σ H1
theorem Cu {c:Expr} {a b:List Stmt} {tc:TT} (z:PT X c tc) (B:PSs X a t) (F:PSs X b u):PS X (.If c a b pos) (AI tc t u):=by
 intro pins s σ H D I h;refine wpAny_If (thn (z pins s σ H _ I h) fun d s1 ⟨H1,j,q⟩ => ?_)
 cases d with
 | true=>exact B pins s1 σ H1 D j q
 | false=>exact F pins s1 σ H1 D j q
end
noncomputable abbrev TG:=V->St->Hp->(St->Hp->Prop)->Prop
noncomputable abbrev TGs:=List V->St->Hp->(St->Hp->Prop)->Prop
def PG (X:Cx) (target:Expr) (t:TG):Prop :=
 ∀ (pins:List (Addr×Obj)) (s:h7) (σ:St) (H:Hp) (v:V) (u:gV) (Q:St->Hp->Prop),Inv X pins σ H s->RelV v u->t v σ H Q ->
  Gm (model X.prog X.w) X.A (assign target X.env u) (fun _ s' => ∃ σ' H',Inv X pins σ' H' s'/\Q σ' H') X.xe s
def PGs (X:Cx) (ts:List Expr) (t:TGs):Prop :=
 ∀ (pins:List (Addr×Obj)) (s:h7) (σ:St) (H:Hp) (vs:List V) (us:List gV) (Q:St->Hp->Prop),Inv X pins σ H s->Vals vs us->t vs σ H Q ->
  Gm (model X.prog X.w) X.A (NV ((IB ts X.env).map (·.2)) us) (fun _ s' => ∃ σ' H',Inv X pins σ' H' s'/\Q σ' H') X.xe s
noncomputable abbrev jN:=V->V->V->Hp->(Hp->Prop)->Prop
def PSet (X:Cx) (t:jN):Prop :=
 ∀ (pins:List (Addr×Obj)) (s:h7) (σ:St) (H:Hp) (o i v:V) (ov iv u:gV) (Q:Hp->Prop),Inv X pins σ H s->RelV o ov->RelV i iv->RelV v u->t o i v H Q ->
  Gm (model X.prog X.w) X.A (NJ ov iv u) (fun _ s' => ∃ H',Inv X pins σ H' s'/\Q H') X.xe s
noncomputable abbrev TIp:=V->V->Hp->VK->Prop
def PIp (X:Cx) (op:JT) (t:TIp):Prop :=
 ∀ (pins:List (Addr×Obj)) (s:h7) (σ:St) (H:Hp) (x y:V) (v u:gV) (Q:VK),Inv X pins σ H s->RelV x v->RelV y u->t x y H Q ->
  Gm (model X.prog X.w) X.A (J6 op v u) (EP X pins σ Q) X.xe s
section
variable {X:Cx} {pos:Pos}
noncomputable def iM (i:Nat):TG:=fun v σ H Q=>Q (σ.set i (some v)) H
theorem pK {i:Nat} {x:Str} (j:X.N.Nodup) (hi:X.N[i]? = some x) (hx:Loc X.env.scope x) (hf:X.fn x=true∨X.env.scope.names.lookup x=some .local:=by first | exact .inl rfl | exact .inr rfl | assumption):PG X (.Name x pos) (iM i):=by
 intro pins s σ H v u Q I r h;exact wpAny_assign_Name (eO I j hi hx r (fun s' I'=>⟨_,H,I',h⟩) hf)
noncomputable def DB:TGs:=fun vs σ H Q=>vs=[]/\Q σ H
noncomputable def Cv (t:TG) (u:TGs):TGs:=fun vs σ H Q => ∃ v r,vs=v::r/\t v σ H fun σ' H'=>u r σ' H' Q
theorem yJ:PGs X [] DB:=by
 intro pins s σ H vs us Q I r h;obtain ⟨e,h⟩:=h;subst e
 cases r
 exact Oo ⟨σ,H,I,h⟩
theorem vE {e:Expr} {es:List Expr} {t:TG} {u:TGs} (h1:PG X e t) (h2:PGs X es u)
 (hs:(IB (e::es) X.env).map (·.2)=assign e X.env::(IB es X.env).map (·.2):=by rfl):PGs X (e::es) (Cv t u):=by
 intro pins s σ H vs us Q I r h;obtain ⟨v,vr,e1,h⟩:=h;subst e1
 cases r with
 | cons r rr =>
   rw [hs];refine LM (thn (h1 pins s σ H _ _ _ I r h) fun _ s1 ⟨σ1,H1,j,q⟩ => ?_);exact h2 pins s1 σ1 H1 _ _ Q j rr q
noncomputable def DC (K:Frag) (n:Nat) (t:TGs):TG:=fun v σ H Q => ∃ a xs,v = .ref a/\SqT K H a xs/\xs.length=n/\t xs σ H Q
theorem AJ {es:List Expr} {k:Nat} {t:TGs} {n:Nat} (q:X.calm=true) (h:PGs X es t)
 (z:(IB es X.env).length=n:=by rfl) (j:(IB es X.env).findIdx? (·.1)=none:=by rfl):PG X (.Tuple es k pos) (DC X.K n t):=by
 intro pins s σ H v u Q I r hw;obtain ⟨a,xs,e1,B,F,hw⟩:=hw;subst e1
 cases r
 obtain ⟨its,rv,G,L⟩:=I.tuple B;refine assign_Tuple_tuple (I.ok.hd q) G (by simp [z, <- F,rv.length]) j fun h' hx => ?_
 have J:Inv X pins σ H { s with heap:=h' }:=I.kept (t':=s.toks) fun b o e=>hx b o (GW (Ga e)) e
 exact h pins _ σ H xs _ Q J (by simpa using rv) hw
noncomputable def DD (to ti:TE) (t:jN):TG:=fun v σ H Q=>to σ H fun o H1=>ti σ H1 fun i H2=>t o i v H2 fun H3=>Q σ H3
theorem AK {o i:Expr} {to ti:TE} {t:jN} (ho:PE X o to) (hi:PE X i ti) (hs:PSet X t)
 (j:∀ v,assign (.Subscript o i pos) X.env v=(do
   let ov <- holding [v] (eval o X.env)
   let iv <- holding [v,ov] (eval i X.env)
   Md pos
   holding [v,ov,iv] (NJ ov iv v)
   release [v,ov,iv] []):=by intro _;rfl):PG X (.Subscript o i pos) (DD to ti t):=by
 intro pins s σ H v u Q I r h;rw [j];refine e6 (HB (thn (ho pins s σ H _ I h) fun ov s1 ⟨x,H1,q,z,B⟩ => ?_));refine e6 (HB (thn (hi pins s1 σ H1 _ q B) fun iv s2 ⟨y,H2,F,G,J⟩ => ?_));refine e6 (JM (e6 (HB (thn (hs pins s2 σ H2 x y v ov iv u _ F z G r J) fun _ s3 ⟨L,O,U⟩ => ?_))));exact wpAny_release ⟨σ,L,O,U⟩
noncomputable def qP (te:TE) (g:TG):TS:=fun D σ H=>te σ H fun x H1=>g x σ H1 D.nx
theorem sN {tg e:Expr} {te:TE} {g:TG} (he:PE X e te) (j:PG X tg g) (hs:Kc [tg] e pos.line X.env=pure false:=by rfl) (hw:Jp [tg] e X.env=pure none:=by rfl)
 (h1:(IB [tg] X.env).map (·.2)=[assign tg X.env]:=by rfl):PS X (.Assign [tg] e pos) (qP te g):=by
 intro pins s σ H D I h;refine wpAny_Assign_stores (thn (he pins s σ H _ I h) fun v s1 ⟨x,H1,z,B,F⟩ => ?_) hs hw;rw [h1];exact thn (j pins s1 σ H1 x v _ z B F) fun _ s2 q=>q
noncomputable def AL (i j:Nat) (ta:TA):TS:=fun D σ H=>ta σ H fun vs H1 => ∃ v w,vs=[v,w]/\D.nx ((σ.set i (some v)).set j (some w)) H1
theorem AM {i j:Nat} {x y:Str} {a b:Expr} {ta:TA} {px py pt:Pos} {kt G z} (hc:X.calm=true) (U:X.N.Nodup) (hi:X.N[i]? = some x) (hj:X.N[j]? = some y) (J:i≠j)
 (hx:X.env.scope.names.lookup x=some .local) (Y:X.env.scope.names.lookup y=some .local) (ha:PA X [a,b] ta)
 (hw:Jp [.Tuple [.Name x px, .Name y py] kt pt] (.Tuple [a,b] G z) X.env=pure (some [x,y]))
 (hs:Kc [.Tuple [.Name x px, .Name y py] kt pt] (.Tuple [a,b] G z) pos.line X.env=pure false:=by rfl) :
 PS X (.Assign [.Tuple [.Name x px, .Name y py] kt pt] (.Tuple [a,b] G z) pos) (AL i j ta):=by
 intro pins s σ H D I h;rw [exec_Assign_arm];refine e6 (JM ?_);rw [hs];refine e6 (q7 ?_);rw [if_neg (by decide)]
 refine e6 (Tuple_ (thn (ha _ pins s σ H _ I h) fun us s1 ⟨vs,H1,I1,r1,L⟩ => ?_));obtain ⟨v,w,e1,L⟩:=L;subst e1;obtain ⟨B,F,rfl,rv,rw'⟩:∃ B F,us=[B,F]/\RelV v B/\RelV w F:=by
  cases r1 with
  | cons p q =>
    cases q with
    | cons p' q' =>
      cases q'
      exact ⟨_,_,rfl,p,p'⟩
 refine I0 ?_ (by show 2<=Gg;decide)
 have I2:Inv X pins σ H1 { s1 with heap:=s1.heap.push { cls := .type "tuple",data := .seq [B,F].toArray } }:=I1.kept (t':=s1.toks) fun b o e=>h6 _ e
 rw [hw];refine e6 (q7 ?_);show Gm (model X.prog X.w) X.A (do rule "assign.swapped-stores";let items <- unpackItems (.ref s1.heap.objs.size) 2 none;NV [fun v=>Pu X.env y v,fun v=>Pu X.env x v] items.reverse;pure Flow.next) _ _ _
 refine e6 (IC (e6 (unpackItems_tuple (items := #[B,F]) (I.ok.hd hc) (L5 s1.heap _) fun h' O => ?_)));have I3:=I2.kept (h':=h') (t':=s1.toks) fun b o e=>O b o (GW (Ga e)) e;show Gm _ _ (NV [fun v=>Pu X.env y v,fun v=>Pu X.env x v] [F,B] >>= fun _=>pure Flow.next) _ _ _;refine e6 (LM (wpAny_bindName (eO I3 U hj (.inl Y) rw' (fun s2 I4 => ?_) (.inr Y))));refine LM (wpAny_bindName (eO I4 U hi (.inl hx) rv (fun s3 Z=>Oo (q7 ?_)) (.inr hx)));rw [List.set_comm _ _ (Ne.symm J)] at Z;exact ⟨_,H1,Z,L⟩
noncomputable def DE (i:Nat) (te:TE) (ti:TIp):TS:=fun D σ H => ∃ x, σ[i]? = some (some x)/\te σ H fun y H1=>ti x y H1 fun z H2=>D.nx (σ.set i (some z)) H2
theorem AN {i:Nat} {x:Str} {e:Expr} {te:TE} {op:JT} {ti:TIp} {pos':Pos} (B:X.N.Nodup) (hi:X.N[i]? = some x) (hx:Loc X.env.scope x) (he:PE X e te) (ho:PIp X op ti) (hf:X.fn x=true∨X.env.scope.names.lookup x=some .local:=by first | exact .inl rfl | exact .inr rfl | assumption) :
 PS X (.AugAssign (.Name x pos') op e pos) (DE i te ti):=by
 intro pins s σ H D I h;obtain ⟨v,e1,h⟩:=h;obtain ⟨m,F,G⟩:=I.loc;have vis:Vis X.env.scope x:=by rcases hx with k | k;exact .inl k;exact .inr (.inl k)
 obtain ⟨u,r,l⟩:=G i x v hi e1 vis;refine wpAny_AugAssign_Name ?_;have go:Gm (model X.prog X.w) X.A (eval e X.env) (fun w s₂ => Gm (model X.prog X.w) X.A (J6 op u w) (fun r s₃ => Gm (model X.prog X.w) X.A (storeName X.env x r) (fun _=>SP X pins D .next) X.xe s₃) X.xe s₂) X.xe s:=by
  refine thn (he pins s σ H _ I h) fun w s1 ⟨y,H1,J,L,O⟩ => ?_;refine thn (ho pins s1 σ H1 v y u w _ J r L O) fun z s2 ⟨zv,H2,U,Y,Z⟩ => ?_;exact eO U B hi hx Y (fun s3 I3=>⟨_,H2,I3,Z⟩) hf
 rcases l with ⟨j,hm⟩ | ⟨j,c,hc,q⟩
 ·exact Nl I.ok.kind j F hm go
 ·rcases j with j | j
  ·exact NM I.ok.kind j hc q go
  ·rcases hx with k | k
   ·have:X.env.scope.names.lookup x=some .free:=j;rw [k] at this;cases this
   ·have:X.env.scope.names.lookup x=some .free:=j;rw [k] at this;cases this
noncomputable def Cw (to ti te:TE) (tget:V->V->Hp->VK->Prop) (tip:TIp) (tset:jN):TS:=fun D σ H=>to σ H fun o H1=>ti σ H1 fun i H2=>tget o i H2 fun x H3=>te σ H3 fun y H4=>tip x y H4 fun z H5=>tset o i z H5 fun H6=>D.nx σ H6
def AO (X:Cx) (t:V->V->Hp->VK->Prop):Prop :=
 ∀ (pins:List (Addr×Obj)) (s:h7) (σ:St) (H:Hp) (o i:V) (ov iv:gV) (Q:VK),Inv X pins σ H s->RelV o ov->RelV i iv->t o i H Q ->
  Gm (model X.prog X.w) X.A (Me ov iv) (EP X pins σ Q) X.xe s
theorem yK {o i e:Expr} {to ti te:TE} {tget:V->V->Hp->VK->Prop} {tip:TIp} {tset:jN} {op:JT} {tpos:Pos} (ho:PE X o to) (hi:PE X i ti) (z:AO X tget) (he:PE X e te) (B:PIp X op tip) (hs:PSet X tset)
 (F:∀ ov iv new,augStore i ov iv new=(do holding [new,ov,iv] (NJ ov iv new);release [new,ov,iv] [];pure .next):=by intros;rfl):PS X (.AugAssign (.Subscript o i tpos) op e pos) (Cw to ti te tget tip tset):=by
 intro pins s σ H D I h;refine wpAny_AugAssign_SubscriptAny (thn (ho pins s σ H _ I h) fun ov s1 ⟨x1,H1,G,j,J⟩ => ?_) F;refine thn (hi pins s1 σ H1 _ G J) fun iv s2 ⟨x2,H2,L,q,O⟩ => ?_;refine thn (z pins s2 σ H2 x1 x2 ov iv _ L j q O) fun old s3 ⟨x3,U,Y,Z,q3⟩ => ?_;refine thn (he pins s3 σ U _ Y q3) fun v s4 ⟨x4,H4,I4,r4,q4⟩ => ?_;refine thn (B pins s4 σ H4 x3 x4 old v _ I4 Z r4 q4) fun new s5 ⟨x5,H5,I5,r5,q5⟩ => ?_;exact thn (hs pins s5 σ H5 x1 x2 x5 ov iv new _ I5 j q r5 q5) fun _ s6 ⟨H6,I6,q6⟩=>⟨σ,H6,I6,q6⟩
end
section
variable {X:Cx} {pos:Pos}
noncomputable def sP (c:TT) (tb:TS):TS:=fun D σ H => ∃ W:Nat->St->Hp->Prop,(∃ m,W m σ H) /\ ∀ m σ H,W m σ H ->
 c σ H fun b H1=>if b=true then ∃ N:St->Hp->Prop,(∀ σ' H',N σ' H' -> ∃ m',m' < m/\W m' σ' H')/\tb { D with nx:=N,ct:=N,bk:=D.nx } σ H1 else D.nx σ H1
theorem vF {c:Expr} {body:List Stmt} {tc:TT} {tb:TS} (J:PassesOwn (model X.prog X.w) X.A X.env X.xe) (U:PT X c tc) (Y:PSs X body tb):PS X (.While c body [] pos) (sP tc tb):=by
 intro pins s σ H D I h;obtain ⟨W,⟨m0,Z⟩,turn⟩:=h;refine wpAny_While (codeAny_whileLoop (fun n s' => ∃ σ' H',Inv X pins σ' H' s'/\W n σ' H') ?_ m0 ⟨σ,H,I,Z⟩);rintro n s1 ⟨σ1,H1,I1,w1⟩;refine Je J (thn (U pins s1 σ1 H1 _ I1 (turn n σ1 H1 w1)) fun b s2 ⟨H2,L,q⟩ => ?_)
 cases b with
 | true =>
   obtain ⟨N,O,q⟩:=q;rw [if_pos rfl];refine Je J (thn (Y pins s2 σ1 H2 _ L q) fun f s3 z => ?_)
   cases f with
   | next =>
     obtain ⟨σ3,j,B,F⟩:=z;obtain ⟨m',hm,G⟩:=O σ3 j F;exact ⟨m',hm, σ3,j,B,G⟩
   | cont =>
     obtain ⟨σ3,j,B,F⟩:=z;obtain ⟨m',hm,G⟩:=O σ3 j F;exact ⟨m',hm, σ3,j,B,G⟩
   | brk=>exact z
   | ret v=>exact z
 | false =>
   rw [if_neg Gb];exact N5 ⟨σ1,H2,L,q⟩
end
structure It where
 go:Nat->Hp->Prop
 yld:Nat->Hp->V->Hp->Prop
 stop:Nat->Hp->Prop
def bZ (X:Cx) (pins:List (Addr×Obj)) (H:Hp) (b:Addr):Prop :=
 H b=none/\b≠X.env.locals/\b∉X.fs/\(b∈X.ex∨X.s₀.heap.objs.size<=b)/\(∀ x c,X.env.cells.lookup x=some c->c≠b) /\ ∀ p∈X.pn++pins,p.1≠b
theorem Inv.fpOk {X:Cx} {pins:List (Addr×Obj)} {σ:St} {H H':Hp} {s:h7} {b:Addr} (I:Inv X pins σ H s) (j:s.heap.objs.size<=b) (B:H' b=none):bZ X pins H' b:=by
 refine ⟨B,HG (GX I.lt j),I.nofs j, .inr (J1 I.sz j),fun x c e z => ?_,fun p F z => ?_⟩
 ·obtain ⟨v,q⟩:=I.cell x c e;exact absurd (GX q.lt (by rw [z];exact j)) (HA _)
 ·exact absurd (GX (Ga (I.pin p F).1) (by rw [z];exact j)) (HA _)
structure fD (P:GI) (w:Hf) (K:Frag) (tg:Expr) (J:It) (fp:List Addr) (it:Addr) (tn:Nat->Heap->Prop):Prop where
 mem:it∈fp
 obj:∀ i h,tn i h -> ∀ b∈fp, ∃ o,h.get? b=some o /\ ∀ v,o.data ≠ .cell v
 keep:∀ i h h',tn i h->(∀ b∈fp, ∀ o,h.get? b=some o->h'.get? b=some o)->tn i h'
 item:∀ (X:Cx),X.prog=P->X.w=w->X.K=K->X.calm=true -> ∀ (i:Nat) (pins:List (Addr×Obj)) (s:h7) (σ:St) (H:Hp) (E:gV->h7->Prop),Inv X pins σ H s->(∀ b∈fp,bZ X pins H b)->tn i s.heap->J.go i H ->
  Gm (model P w) X.A (Jq (.ref it)) (fun r s1 => ∃ u,r=some u /\
   Gm (model P w) X.A (Lr tg (.ref it) u) (fun _ s2 => ∃ x H',Inv X pins σ H' s2/\RelV x u/\J.yld i H x H'/\tn (i+1) s2.heap /\ ∀ b∈fp,H' b=none) E s1) E s
 done:∀ (X:Cx),X.prog=P->X.w=w->X.K=K->X.calm=true -> ∀ (i:Nat) (pins:List (Addr×Obj)) (s:h7) (σ:St) (H:Hp) (E:gV->h7->Prop),Inv X pins σ H s->(∀ b∈fp,bZ X pins H b)->tn i s.heap->J.stop i H ->
  Gm (model P w) X.A (Jq (.ref it)) (fun r s1=>r=none/\Inv X pins σ H s1) E s
 self:∀ (A:Hg) (i:Nat) (s:h7) (Q:gV->h7->Prop) (E:gV->h7->Prop),tn i s.heap->Q (.ref it) s->Gm (model P w) A (Nm (.ref it)) Q E s
noncomputable abbrev TI:=St->Hp->(It->Hp->Prop)->Prop
def PIE (X:Cx) (pins:List (Addr×Obj)) (σ:St) (tg:Expr) (R:It->Hp->Prop) (itv:gV) (s2:h7):Prop :=
 ∃ (it:Addr) (fp:List Addr) (tn:Nat->Heap->Prop) (J:It) (H':Hp),itv = .ref it/\Inv X pins σ H' s2/\fD X.prog X.w X.K tg J fp it tn/\tn 0 s2.heap/\(∀ b∈fp,bZ X pins H' b)/\R J H'
def PI (X:Cx) (tg iter:Expr) (wi:TI):Prop :=
 ∀ (pins:List (Addr×Obj)) (s:h7) (σ:St) (H:Hp) (R:It->Hp->Prop),Inv X pins σ H s->wi σ H R ->
  Gm (model X.prog X.w) X.A (eval iter X.env) (fun v s1=>Gm (model X.prog X.w) X.A (Nm v) (PIE X pins σ tg R) X.xe s1) X.xe s
theorem qQ {M:Kv} {A:Hg} {E:gV->h7->Prop} {s:h7} {tg:Expr} {it:Addr} {u:gV} {o:Obj} {n:String} {vs:Array gV} {Q:Unit->h7->Prop} (ho:s.heap.get? it=some o) (q:o.cls = .type n) (hd:o.data = .fields vs)
 (z : ["enumerate", "zip", "dict_itemiterator", "dict_reverseitemiterator", "odict_iterator", "itertools.zip_longest", "itertools.pairwise"].contains n=false) (j:Q () s):Gm M A (Lr tg (.ref it) u) Q E s:=by
 unfold Lr
 cases tg <;> first
  | exact q7 j
  | (cases u <;> first
      | exact q7 j
      | (refine e6 (wpAny_load ho ?_)
         rw [q,hd];show Gm M A (if (["enumerate", "zip", "dict_itemiterator", "dict_reverseitemiterator", "odict_iterator", "itertools.zip_longest", "itertools.pairwise"].contains n&&vs[0]? == some (II _))=true then _ else _) Q E s
         rw [if_neg (by intro h;rw [z,Bool.false_and] at h;cases h)]
         exact q7 j))
noncomputable def Itl (K:Frag) (a:Addr):It :=
 ⟨fun i H => ∃ xs x,SqL K H a xs/\xs[i]? = some x,fun i H x H'=>H'=H /\ ∀ xs,SqL K H a xs->xs[i]? = some x,fun i H => ∃ xs,SqL K H a xs/\xs.length<=i⟩
noncomputable def Itt (K:Frag) (a:Addr):It :=
 ⟨fun i H => ∃ xs x,SqT K H a xs/\xs[i]? = some x,fun i H x H'=>H'=H /\ ∀ xs,SqT K H a xs->xs[i]? = some x,fun i H => ∃ xs,SqT K H a xs/\xs.length<=i⟩
noncomputable def Itr (lo:Int) (n:Nat):It:=⟨fun i _=>i < n,fun i H x H'=>H'=H/\x = .int (lo+i),fun i _=>n<=i⟩
theorem sQ {P:GI} {w:Hf} {K:Frag} {tg:Expr} (a it:Addr):fD P w K tg (Itl K a) [it] it (fun i h=>h.IsListIter it a i) where
 mem:=by simp
 obj:=fun i h st b j=>by
  have e:b=it:=by simpa using j
  subst e;obtain ⟨o,e,c,d⟩:=st;exact ⟨o,e,fun v z=>by rw [d] at z;cases z⟩
 keep:=fun i h h' st k=>st.at fun o e=>k it (by simp) o e
 item:=by
  intro X B hw F L i pins s σ H E I hf st hg;subst B hw F;obtain ⟨xs,x,q,hx⟩:=hg;obtain ⟨its,rv,p,O⟩:=I.list q;obtain ⟨u,U,ru⟩:=rv.get hx;obtain ⟨f0,f1,f2,G,f4,J⟩:=hf it (by simp)
  refine wpAny_pyNext_list_item st p.isList (x:=u) (by simpa using U) fun h' st' sb => ?_
  have Y:Inv X pins σ H { s with heap:=h' }:=I.turned (t':=s.toks) (fun b o j e=>(sb.2 b j).trans e) f0 f1 G f4 J
  obtain ⟨o,e,c,d⟩:=id st';exact ⟨u,rfl,qQ (s := { s with heap:=h' }) e c d (by decide) ⟨x,H,Y,ru,⟨rfl,fun ys Z=>by rw [I.list_inj Z q];exact hx⟩,st',fun b j=>(hf b j).1⟩⟩
 done:=by
  intro X B hw F L i pins s σ H E I hf st hg;subst B hw F;obtain ⟨xs,q,hx⟩:=hg;obtain ⟨its,rv,p,O⟩:=I.list q;obtain ⟨f0,f1,f2,G,f4,J⟩:=hf it (by simp)
  have hl:=rv.length;exact wpAny_pyNext_list_end (I.ok.hd L) st p.isList (by simp;omega) fun h' eb=>⟨rfl,I.turned (t':=s.toks) (fun b o j e=>eb b o j e) f0 f1 G f4 J⟩
 self:=fun _ _ _ _ _ st h=>wpAny_pyIter_listiter st h
theorem qR {P:GI} {w:Hf} {K:Frag} {tg:Expr} (a it:Addr):fD P w K tg (Itt K a) [it] it (fun i h=>h.IsTupleIter it a i) where
 mem:=by simp
 obj:=fun i h st b j=>by
  have e:b=it:=by simpa using j
  subst e;obtain ⟨o,e,c,d⟩:=st;exact ⟨o,e,fun v z=>by rw [d] at z;cases z⟩
 keep:=fun i h h' st k=>st.at fun o e=>k it (by simp) o e
 item:=by
  intro X B hw F L i pins s σ H E I hf st hg;subst B hw F;obtain ⟨xs,x,q,hx⟩:=hg;obtain ⟨its,rv,p,O⟩:=I.tuple q;obtain ⟨u,U,ru⟩:=rv.get hx;obtain ⟨f0,f1,f2,G,f4,J⟩:=hf it (by simp)
  refine wpAny_pyNext_tuple_item st (show s.heap.IsTuple a its.toArray from p) (x:=u) (by simpa using U) fun h' st' sb => ?_
  have Y:Inv X pins σ H { s with heap:=h' }:=I.turned (t':=s.toks) (fun b o j e=>(sb.2 b j).trans e) f0 f1 G f4 J
  obtain ⟨o,e,c,d⟩:=id st';exact ⟨u,rfl,qQ (s := { s with heap:=h' }) e c d (by decide) ⟨x,H,Y,ru,⟨rfl,fun ys Z=>by rw [I.tuple_inj Z q];exact hx⟩,st',fun b j=>(hf b j).1⟩⟩
 done:=by
  intro X B hw F L i pins s σ H E I hf st hg;subst B hw F;obtain ⟨xs,q,hx⟩:=hg;obtain ⟨its,rv,p,O⟩:=I.tuple q;obtain ⟨f0,f1,f2,G,f4,J⟩:=hf it (by simp)
  have hl:=rv.length;exact wpAny_pyNext_tuple_end (I.ok.hd L) st (show s.heap.IsTuple a its.toArray from p) (by simp;omega) fun h' eb=>⟨rfl,I.turned (t':=s.toks) (fun b o j e=>eb b o j e) f0 f1 G f4 J⟩
 self:=fun _ _ _ _ _ st h=>wpAny_pyIter_tupleiter st h
theorem qS {P:GI} {w:Hf} {K:Frag} {tg:Expr} (it:Addr) (lo:Int) (n:Nat):fD P w K tg (Itr lo n) [it] it (fun i h=>IsRangeIter h it (lo+(i:Nat)*1) ((n:Int) - (i:Nat)) 1) where
 mem:=by simp
 obj:=fun i h st b j=>by
  have e:b=it:=by simpa using j
  subst e;exact ⟨_,st,fun v z=>by
   have z':Kx _=Data.cell v:=z
   cases z'⟩
 keep:=fun i h h' st k=>k it (by simp) _ st
 item:=by
  intro X q hw B F i pins s σ H E I hf st hg;subst q hw B;obtain ⟨f0,f1,f2,G,f4,J⟩:=hf it (by simp)
  have W:=Walks.range (prog:=X.prog) (w:=X.w) (I.ok.hd F) it lo 1 n;refine W.item i s _ _ hg st fun v h' tk L st' kk => ?_;obtain ⟨t,rfl⟩:=L;have O:Inv X pins σ H { s with heap:=h',toks:=tk }:=I.turned (fun b o j e=>kk b o (by simpa using j) e) f0 f1 G f4 J
  refine ⟨_,rfl,qQ (s := { s with heap:=h',toks:=tk }) (n := "range_iterator") st' rfl rfl (by decide) ⟨.int (lo+i),H,O,⟨t, ?_⟩,⟨rfl,rfl⟩,st',fun b j=>(hf b j).1⟩⟩
  rw [Int.mul_one]
 done:=by
  intro X q hw B F i pins s σ H E I hf st hg;subst q hw B;obtain ⟨f0,f1,f2,G,f4,J⟩:=hf it (by simp)
  exact wpAny_pyNext_range_end (I.ok.hd F) st (by have:n<=i:=hg;omega) fun h' eb=>⟨rfl,I.turned (t':=s.toks) (fun b o j e=>eb b o j e) f0 f1 G f4 J⟩
 self:=fun _ _ _ _ _ st h=>wpAny_pyIter_rangeiter st h
end
section
section
variable {X:Cx} {tg:Expr}
theorem mD {pins:List (Addr×Obj)} {σ:St} {H:Hp} {s:h7} {R:It->Hp->Prop} {E:gV->h7->Prop} {lo hi:Int} {t u v:Tok} {tk:Nat} (I:Inv X pins σ H s) (h1 : -(2 ^ 62)<=lo) (h2:lo < 2 ^ 62) (z : -(2 ^ 62)<=hi) (B:hi < 2 ^ 62)
 (q:R (Itr lo (hi - lo).toNat) H):Gm (model X.prog X.w) X.A (Nm (.ref s.heap.objs.size)) (PIE X pins σ tg R) E { s with heap:=s.heap.push { cls := .type "range",data := .fields #[.int lo t, .int hi u, .int 1 v] },toks:=tk }:=by
 refine wpAny_pyIter_range (IsRange.new ..) (small_one h1 h2 z B) ?_;have j:Inv X pins σ H { s with heap:=s.heap.push { cls := .type "range",data := .fields #[.int lo t, .int hi u, .int 1 v] },toks:=tk }:=I.kept fun b o e=>h6 _ e
 refine ⟨(s.heap.push { cls := .type "range",data := .fields #[.int lo t, .int hi u, .int 1 v] }).objs.size,[(s.heap.push { cls := .type "range",data := .fields #[.int lo t, .int hi u, .int 1 v] }).objs.size],_,_,H,rfl,
  j.kept (t':=tk) fun b o e=>h6 _ e,qS _ lo (hi - lo).toNat, ?_,fun b F => ?_,q⟩
 ·have e1:lo+((0:Nat):Int)*1=lo:=by simp
  have e2:(((hi - lo).toNat:Nat):Int) - ((0:Nat):Int)=Builtin.Range.rangeSize lo hi 1:=by rw [rangeSize_one];split <;> omega
  show IsRangeIter _ _ (lo+((0:Nat):Int)*1) ((((hi - lo).toNat:Nat):Int) - ((0:Nat):Int)) 1;rw [e1,e2];exact Gh _ rfl
 ·have e:b=(s.heap.push { cls := .type "range",data := .fields #[.int lo t, .int hi u, .int 1 v] }).objs.size:=by simpa using F
  subst e;exact j.fpOk (Gi _) (j.hok.fresh (Gi _))
noncomputable def Cy (ta:TA):TI:=fun σ H R=>ta σ H fun vs H1 => ∃ j:Int,vs=[.int j] /\ -(2 ^ 62)<=j/\j < 2 ^ 62/\R (Itr 0 j.toNat) H1
noncomputable def Cz (ta:TA):TI:=fun σ H R=>ta σ H fun vs H1 => ∃ i j:Int,vs=[.int i, .int j]/\(-(2 ^ 62)<=i/\i < 2 ^ 62 /\ -(2 ^ 62)<=j/\j < 2 ^ 62)/\R (Itr i (j - i).toNat) H1
theorem sR {a:Expr} {ta:TA} {p pos:Pos} (B:Gl X "range") (hm:X.mg "range" = none) (F:PA X [a] ta) (hs:GN [a] X.env=[(false,eval a X.env)]:=by rfl):PI X tg (.Call (.Name "range" p) [a] [] pos) (Cy ta):=by
 intro pins s σ H R I h;refine Call_ (dr I B hm boot_range (Ii (thn (F pos pins s σ H _ I h) fun us s1 ⟨vs,H1,G,J,z⟩ => ?_) hs rfl));obtain ⟨j,e,z,L,q⟩:=z;subst e
 cases J with
 | cons r rr =>
   cases rr
   obtain ⟨t,rfl⟩:=r;exact call_range_1 (mD G (by omega) (by omega) z L (by simpa using q))
theorem sU {a b:Expr} {ta:TA} {p pos:Pos} (F:Gl X "range") (hm:X.mg "range" = none) (G:PA X [a,b] ta) (hs:GN [a,b] X.env=[(false,eval a X.env),(false,eval b X.env)]:=by rfl) (z:GN [b] X.env=[(false,eval b X.env)]:=by rfl) :
 PI X tg (.Call (.Name "range" p) [a,b] [] pos) (Cz ta):=by
 intro pins s σ H R I h;refine Call_ (dr I F hm boot_range (Ii (thn (G pos pins s σ H _ I h) fun us s1 ⟨vs,H1,J,L,B⟩ => ?_) (by rw [hs,z]) (by rw [z];rfl)))
 obtain ⟨i,j,e,⟨B,O,U,Y⟩,q⟩:=B;subst e
 cases L with
 | cons r rr =>
   cases rr with
   | cons r' rr =>
     cases rr
     obtain ⟨t,rfl⟩:=r;obtain ⟨t',rfl⟩:=r';exact call_range_2 (mD J B O U Y q)
noncomputable def AQ (wi:TI) (g:TG) (tb:TS):TS:=fun D σ H=>wi σ H fun J H1 => ∃ W:Nat->Nat->St->Hp->Prop,(∃ m,W 0 m σ H1) /\ ∀ i m σ H,W i m σ H ->
 (J.stop i H/\D.nx σ H)∨(J.go i H /\ ∃ N:St->Hp->Prop,(∀ σ' H',N σ' H' -> ∃ m',m' < m/\W (i+1) m' σ' H') /\ ∀ x H',J.yld i H x H'->g x σ H' fun σ2 H2=>tb { D with nx:=N,ct:=N,bk:=D.nx } σ2 H2)
noncomputable def iN (fp:List Addr) (h:Heap):List (Addr×Obj):=fp.filterMap fun b=>(h.get? b).map fun o=>(b,o)
theorem cT {fp:List Addr} {h:Heap} {b:Addr} {o:Obj} (j:b∈fp) (e:h.get? b=some o):(b,o)∈iN fp h:=Oe.mpr ⟨b,j,by rw [e];rfl⟩
theorem sV {fp:List Addr} {h:Heap} {p:Addr×Obj} (j:p∈iN fp h):p.1∈fp/\h.get? p.1=some p.2:=by
 obtain ⟨b,z,e⟩:=Oe.mp j
 cases q:h.get? b with
 | none=>rw [q] at e;cases e
 | some o =>
   rw [q] at e;have e':(b,o)=p:=Ig.inj e;subst e';exact ⟨z,q⟩
theorem Inv.pinned {pins:List (Addr×Obj)} {σ:St} {H:Hp} {s:h7} {fp:List Addr} (I:Inv X pins σ H s) (hf:∀ b∈fp,bZ X pins H b) (ho:∀ b∈fp, ∃ o,s.heap.get? b=some o /\ ∀ v,o.data ≠ .cell v):Inv X (pins++iN fp s.heap) σ H s :=
 I.pins_of fun p q=>(Gy.mp q).elim (fun z=>I.pin p (GA _ z)) fun z=>by
  obtain ⟨j,e⟩:=sV z;obtain ⟨f0,f1,f2,_⟩:=hf p.1 j;obtain ⟨o,e',d⟩:=ho p.1 j;rw [e] at e';cases e';exact ⟨e,f0,f1,f2,d⟩
theorem Inv.unpinned {pins pl:List (Addr×Obj)} {σ:St} {H:Hp} {s:h7} (I:Inv X (pins++pl) σ H s):Inv X pins σ H s:=I.pins_of fun p j=>I.pin p (GA _ (Hk _ j))
theorem AR {iter:Expr} {body:List Stmt} {wi:TI} {g:TG} {tb:TS} {pos:Pos} (G:PassesOwn (model X.prog X.w) X.A X.env X.xe) (hc:X.calm=true) (hi:PI X tg iter wi) (hg:PG X tg g) (j:PSs X body tb)
 (hs:∀ x,IP iter X.env x=pure x:=by intro _;rfl):PS X (.For tg iter body [] pos) (AQ wi g tb):=by
 intro pins s σ H D I h;refine wpAny_For (thn (hi pins s σ H _ I h) fun v s1 h1=>thn h1 fun itv s2 h2 => ?_) hs;obtain ⟨it,fp,tn,J,H2,e,I2,T,Z,f2,W,⟨m0,w0⟩,turn⟩:=h2;subst e;have stat:∀ {H':Hp},(∀ b∈fp,H' b=none) -> ∀ b∈fp,bZ X pins H' b:=fun hn b j=>⟨hn b j,(f2 b j).2⟩;refine codeAny_forLoop_any (fun n s' => ∃ i σ' H',Inv X pins σ' H' s'/\tn i s'.heap/\(∀ b∈fp,H' b=none)/\W i n σ' H') ?_ m0 ⟨0, σ,H2,I2,Z,fun b j=>(f2 b j).1,w0⟩;rintro n s3 ⟨i, σ3,Y,I3,L,O,w3⟩
 rcases turn i n σ3 Y w3 with ⟨stop,qn⟩ | ⟨go,N,hN,step⟩
 ·refine Je G (thn (T.done X rfl rfl rfl hc i pins s3 σ3 Y X.xe I3 (stat O) L stop) fun r s4 ⟨hr,I4⟩ => ?_);subst hr;exact N5 ⟨σ3,Y,I4,qn⟩
 ·refine Je G (thn (T.item X rfl rfl rfl hc i pins s3 σ3 Y X.xe I3 (stat O) L go) fun r s4 ⟨u,hr,h4⟩ => ?_);subst hr;refine Je G (thn h4 fun _ s5 ⟨x,H5,I5,r5,y5,F,E3⟩ => ?_);have E4:=I5.pinned (stat E3) (T.obj _ _ F);refine Je G (thn (hg _ s5 σ3 H5 x u _ E4 r5 (step x H5 y5)) fun _ s6 ⟨σ6,H6,I6,q6⟩ => ?_);refine Je G (thn (j _ s6 σ6 H6 _ I6 q6) fun f s7 B => ?_);have again:∀ {σ7:St} {q:Hp},Inv X (pins++iN fp s5.heap) σ7 q s7->N σ7 q -> ∃ m,m < n /\ ∃ i σ' H',Inv X pins σ' H' s7/\tn i s7.heap/\(∀ b∈fp,H' b=none)/\W i m σ' H':=fun {σ7 q} z U=>by
   obtain ⟨m',hm,w7⟩:=hN σ7 q U;refine ⟨m',hm,i+1, σ7,q,z.unpinned,T.keep _ _ _ F fun b j o e=>(z.pin (b,o) (GA _ (GA _ (cT j e)))).1,fun b j => ?_,w7⟩;obtain ⟨o,e,d⟩:=T.obj _ _ F b j;exact (z.pin (b,o) (GA _ (GA _ (cT j e)))).2.1
  cases f with
  | next=>obtain ⟨σ7,q,z,U⟩:=B;exact again z U
  | cont=>obtain ⟨σ7,q,z,U⟩:=B;exact again z U
  | brk=>obtain ⟨σ7,q,z,B⟩:=B;exact ⟨σ7,q,z.unpinned,B⟩
  | ret v=>obtain ⟨x7, σ7,q,z,r7,B⟩:=B;exact ⟨x7, σ7,q,z.unpinned,r7,B⟩
end
end
section
noncomputable abbrev R2:=V->V->Hp->VK->Prop
def OpR (X:Cx) (f:gV->gV->Sem gV) (r:R2):Prop :=
 ∀ (pins:List (Addr×Obj)) (s:h7) (σ:St) (H:Hp) (x y:V) (v u:gV) (Q:VK),Inv X pins σ H s->RelV x v->RelV y u->r x y H Q ->
  Gm (model X.prog X.w) X.A (f v u) (EP X pins σ Q) X.xe s
def UnR (X:Cx) (f:gV->Sem gV) (r:V->Hp->VK->Prop):Prop :=
 ∀ (pins:List (Addr×Obj)) (s:h7) (σ:St) (H:Hp) (x:V) (v:gV) (Q:VK),Inv X pins σ H s->RelV x v->r x H Q ->
  Gm (model X.prog X.w) X.A (f v) (EP X pins σ Q) X.xe s
def CallR (X:Cx) (f:gV) (r:List V->Hp->VK->Prop):Prop :=
 ∀ (pins:List (Addr×Obj)) (s:h7) (σ:St) (H:Hp) (xs:List V) (us:List gV) (Q:VK),Inv X pins σ H s->Vals xs us->r xs H Q ->
  Gm (model X.prog X.w) X.A (call f us) (EP X pins σ Q) X.xe s
def DG (X:Cx) (r:V->Hp->(Bool->Hp->Prop)->Prop):Prop :=
 ∀ (pins:List (Addr×Obj)) (s:h7) (σ:St) (H:Hp) (x:V) (v:gV) (Q:Bool->Hp->Prop),Inv X pins σ H s->RelV x v->r x H Q ->
  Gm (model X.prog X.w) X.A (truthy v) (TP X pins σ Q) X.xe s
noncomputable def tOp (r:R2) (ta tb:TE):TE:=fun σ H Q=>ta σ H fun x H1=>tb σ H1 fun y H2=>r x y H2 Q
noncomputable def tUn (r:V->Hp->VK->Prop) (ta:TE):TE:=fun σ H Q=>ta σ H fun x H1=>r x H1 Q
noncomputable def rI (C:Int->Int->Prop) (g:Int->Int->V):R2:=fun x y H Q => ∃ i j,x = .int i/\y = .int j/\C i j/\Q (g i j) H
noncomputable def rI0 (g:Int->Int->V):R2:=fun x y H Q => ∃ i j,x = .int i/\y = .int j/\Q (g i j) H
noncomputable def rU (g:Int->V):V->Hp->VK->Prop:=fun x H Q => ∃ i,x = .int i/\Q (g i) H
section
variable {X:Cx} {a b c:Expr} {ta tb tc:TE} {pos:Pos}
theorem vG (j:PE X a ta) (q:PE X b tb) {pins:List (Addr×Obj)} {s:h7} {σ:St} {H:Hp} {R:V->V->Hp->Prop} (I:Inv X pins σ H s)
 (h:ta σ H fun x H1=>tb σ H1 fun y H2=>R x y H2) {Q:gV->h7->Prop} {f:gV->gV->Sem gV}
 (hf:∀ v u s2 x y H2,Inv X pins σ H2 s2->RelV x v->RelV y u->R x y H2->Gm (model X.prog X.w) X.A (f v u) Q X.xe s2) :
 Gm (model X.prog X.w) X.A (eval a X.env) (fun v s₁ => Gm (model X.prog X.w) X.A (eval b X.env) (fun u s₂ => Gm (model X.prog X.w) X.A (f v u) Q X.xe s₂) X.xe s₁) X.xe s:=by
 refine thn (j pins s σ H _ I h) fun v s1 ⟨x,H1,z,B,F⟩ => ?_;refine thn (q pins s1 σ H1 _ z F) fun u s2 ⟨y,H2,G,J,L⟩ => ?_;exact hf v u s2 x y H2 G B J L
theorem CA {op:JT} {r:R2} (ho:OpR X (I9 op) r) (j:PE X a ta) (z:PE X b tb):PE X (.BinOp a op b pos) (tOp r ta tb):=by
 intro pins s σ H Q I h;exact wpAny_BinOp (vG j z I h fun v u s2 x y H2 B rx ry q=>ho pins s2 σ H2 x y v u Q B rx ry q)
theorem CB {op:UnaryOp} {r:V->Hp->VK->Prop} (ho:UnR X (unaryOp op) r) (j:PE X a ta):PE X (.UnaryOp op a pos) (tUn r ta):=by
 intro pins s σ H Q I h;exact UnaryOp_ (thn (j pins s σ H _ I h) fun v s1 ⟨x,H1,q,z,B⟩=>ho pins s1 σ H1 x v Q q z B)
theorem opI {f:gV->gV->Sem gV} {C:Int->Int->Prop} {g:Int->Int->Int}
 (rule:∀ (i j:Int) (t u:Tok) (s:h7) (Q:gV->h7->Prop) (E:gV->h7->Prop),C i j->Q (.int (g i j) s.toks) { s with toks:=s.toks+1 }->Gm (model X.prog X.w) X.A (f (.int i t) (.int j u)) Q E s) :
 OpR X f (rI C fun i j => .int (g i j)):=by
 intro pins s σ H x y v u Q I rx ry h;obtain ⟨i,j,rfl,rfl,z,q⟩:=h;obtain ⟨t,rfl⟩:=rx;obtain ⟨t',rfl⟩:=ry;exact rule i j t t' s _ _ z ⟨.int (g i j),H,I.tok _,⟨_,rfl⟩,q⟩
theorem qT {f:gV->gV->Sem gV} {g:Int->Int->Int}
 (rule:∀ (i j:Int) (t u:Tok) (s:h7) (Q:gV->h7->Prop) (E:gV->h7->Prop),Q (.int (g i j) s.toks) { s with toks:=s.toks+1 }->Gm (model X.prog X.w) X.A (f (.int i t) (.int j u)) Q E s) :
 OpR X f (rI0 fun i j => .int (g i j)):=by
 intro pins s σ H x y v u Q I rx ry h;obtain ⟨i,j,rfl,rfl,q⟩:=h;obtain ⟨t,rfl⟩:=rx;obtain ⟨t',rfl⟩:=ry;exact rule i j t t' s _ _ ⟨.int (g i j),H,I.tok _,⟨_,rfl⟩,q⟩
theorem vH {f:gV->gV->Sem gV} {g:Int->Int->Bool}
 (rule:∀ (i j:Int) (t u:Tok) (s:h7) (Q:gV->h7->Prop) (E:gV->h7->Prop),Q (.bool (g i j)) s->Gm (model X.prog X.w) X.A (f (.int i t) (.int j u)) Q E s) :
 OpR X f (rI0 fun i j => .bl (g i j)):=by
 intro pins s σ H x y v u Q I rx ry h;obtain ⟨i,j,rfl,rfl,q⟩:=h;obtain ⟨t,rfl⟩:=rx;obtain ⟨t',rfl⟩:=ry;exact rule i j t t' s _ _ ⟨.bl (g i j),H,I,rfl,q⟩
def DH (i j:Int):Prop := 0<=j/\j<=1000000/\i.natAbs < 2 ^ 64
theorem op_add:OpR X (I9 .Add) (rI0 fun i j => .int (i+j)):=qT fun _ _ _ _ _ _ _ q=>add_int q
theorem AS:OpR X (I9 .Sub) (rI0 fun i j => .int (i - j)):=qT fun _ _ _ _ _ _ _ q=>sub_int q
theorem AT:OpR X (I9 .Mod) (rI (fun _ j => 0 < j) fun i j => .int (i % j)):=opI fun i j _ _ _ _ _ z q=>by
 have h1:(0:Int) < j:=z;exact mod_int' (by omega) (by rw [Int.fmod_eq_emod_of_nonneg i (by omega)];exact q)
theorem AU:OpR X (I9 .Pow) (rI DH fun i j => .int (i ^ j.toNat)):=opI fun _ _ _ _ _ _ _ z q=>pow_int_small z.1 z.2.1 z.2.2 q
theorem yL:OpR X (J6 .Add) (rI0 fun i j => .int (i+j)):=qT fun _ _ _ _ _ _ _ q=>iadd_int q
theorem yM:OpR X (J6 .Sub) (rI0 fun i j => .int (i - j)):=qT fun _ _ _ _ _ _ _ q=>isub_int q
theorem unI {f:gV->Sem gV} {g:Int->Int}
 (rule:∀ (i:Int) (t:Tok) (s:h7) (Q:gV->h7->Prop) (E:gV->h7->Prop),Q (.int (g i) s.toks) { s with toks:=s.toks+1 }->Gm (model X.prog X.w) X.A (f (.int i t)) Q E s) :
 UnR X f (rU fun i => .int (g i)):=by
 intro pins s σ H x v Q I rx h;obtain ⟨i,rfl,q⟩:=h;obtain ⟨t,rfl⟩:=rx;exact rule i t s _ _ ⟨.int (g i),H,I.tok _,⟨_,rfl⟩,q⟩
theorem AV:UnR X (unaryOp .USub) (rU fun i => .int (-i)):=unI fun _ _ _ _ _ q=>neg_int q
end
section
variable {X:Cx} {a b c:Expr} {ta tb tc:TE} {pos:Pos}
theorem CC:OpR X (I7 .Lt) (rI0 fun i j => .bl (decide (i < j))):=vH fun _ _ _ _ _ _ _ q=>lt_int q
theorem CD:OpR X (I7 .Gt) (rI0 fun i j => .bl (decide (j < i))):=vH fun _ _ _ _ _ _ _ q=>gt_int q
theorem CF:OpR X (I7 .GtE) (rI0 fun i j => .bl (decide (j<=i))):=vH fun _ _ _ _ _ _ _ q=>ge_int q
theorem OpR.or {f:gV->gV->Sem gV} {r r':R2} (h:OpR X f r) (h':OpR X f r'):OpR X f (fun x y H Q=>r x y H Q∨r' x y H Q):=by
 intro pins s σ H x y v u Q I rx ry q
 rcases q with q | q
 ·exact h pins s σ H x y v u Q I rx ry q
 ·exact h' pins s σ H x y v u Q I rx ry q
theorem yN {op:CmpOp} {r:R2} (ho:OpR X (I7 op) r) (j:PE X a ta) (z:PE X b tb) (hm:Kd op b=false):PE X (.Compare a [op] [b] pos) (tOp r ta tb):=by
 intro pins s σ H Q I h;exact wpAny_Compare1 (vG j z I h fun v u s2 x y H2 B rx ry q=>ho pins s2 σ H2 x y v u Q B rx ry q) hm
noncomputable def xW (t:TE):TT:=fun σ H Q=>t σ H fun x H' => ∃ k,x = .bl k/\Q k H'
theorem yO {op:CmpOp} {r:R2} (ho:OpR X (I7 op) r) (j:PE X a ta) (q:PE X b tb) (hm:Kd op b=false):PT X (.Compare a [op] [b] pos) (xW (tOp r ta tb)):=by
 intro pins s σ H Q I h;refine wpAny_isTrue_Compare1 (thn (j pins s σ H _ I h) fun v s1 ⟨x,H1,B,F,G⟩=>thn (q pins s1 σ H1 _ B G) fun u s2 ⟨y,H2,J,L,O⟩ =>
  thn (ho pins s2 σ H2 x y v u _ J F L O) fun c s3 ⟨z,U,Y,Z,k,e,q3⟩ => ?_) hm
 subst e
 cases Z
 exact JQ ⟨U,Y,q3⟩
def vI (K:Frag) (x:V) (H:Hp) (k:Bool):Prop :=
 match x with
 | .non=>k=false
 | .bl b=>k=b
 | .int i=>k=(i != 0)
 | .str y=>y.length<=Gg/\k=((y.length:Int) != 0)
 | .byt y=>y.size<=Gg/\k=((y.size:Int) != 0)
 | .ref p=>(∃ xs,SqL K H p xs/\k = !xs.isEmpty)∨(∃ xs,SqT K H p xs/\k = !xs.isEmpty) ∨ ∃ kvs,H p=some (.dK kvs)/\k = !kvs.isEmpty
 | _=>False
theorem qU {κ:Type} {kvs:List (κ × V)} {vs:List (κ × gV)} (r:KV kvs vs):(!vs.isEmpty) = !kvs.isEmpty:=by
 cases r <;> rfl
theorem iP {xs:List V} {its:List gV} (r:Vals xs its):(!its.toArray.isEmpty) = !xs.isEmpty:=by
 cases r <;> simp
theorem eB:(Gg:Nat) < 2 ^ 63:=by rw [Gd];decide
theorem AW:DG X (fun x H Q => ∃ k,vI X.K x H k/\Q k H):=by
 intro pins s σ H x v Q I rx h;obtain ⟨k,e,q⟩:=h;have F:=eB;have hs:Gg=16777216:=Gd
 cases x with
 | non =>
   cases rx
   have e':k=false:=e;subst e';exact truthy_none ⟨H,I,q⟩
 | bl b =>
   cases rx
   have e':k=b:=e;subst e';exact JQ ⟨H,I,q⟩
 | int i =>
   obtain ⟨t,rfl⟩:=rx;have e':k=(i != 0):=e;subst e';exact PySem.P.truthy_int ⟨H,I,q⟩
 | str y =>
   obtain ⟨t,rfl⟩:=rx;obtain ⟨z,e'⟩:y.length<=Gg/\k=((y.length:Int) != 0):=e;subst e';exact PySem.P.truthy_str (by omega) ⟨H,I.tok _,q⟩
 | byt y =>
   obtain ⟨t,rfl⟩:=rx;obtain ⟨z,e'⟩:y.size<=Gg/\k=((y.size:Int) != 0):=e;subst e';exact PySem.W.truthy_bytes (by omega) ⟨H,I.tok _,q⟩
 | ref p =>
   cases rx
   have e':(∃ xs,SqL X.K H p xs/\k = !xs.isEmpty)∨(∃ xs,SqT X.K H p xs/\k = !xs.isEmpty) ∨ ∃ kvs,H p=some (.dK kvs)/\k = !kvs.isEmpty:=e
   rcases e' with ⟨xs,hx,e'⟩ | ⟨xs,hx,e'⟩ | ⟨kvs,hx,e'⟩
   ·subst e';obtain ⟨its,r,pl,j⟩:=I.list hx;have hlen:=r.length;exact wpAny_truthy_list pl.isList (by simp only [Gf];omega) ⟨H,I.tok _,by rw [iP r];exact q⟩
   ·subst e';obtain ⟨its,r,pl,j⟩:=I.tuple hx;have hlen:=r.length;exact truthy_tuple pl (by simp only [Gf];omega) ⟨H,I.tok _,by rw [iP r];exact q⟩
   ·subst e';obtain ⟨j,B,vs,r,m⟩:kvs.length<=Gg/\(p==IS)=false /\ ∃ vs,KV kvs vs/\s.heap.DictOf (aJ X.prog X.w) p vs:=I.hok p _ hx;have hlen:kvs.length=vs.length:=Kb r;exact wpAny_truthy_dict B m (by omega) ⟨H,I.tok _,by rw [qU r];exact q⟩
 | _=>exact (show False from e).elim
theorem vJ (j:PE X a ta) (he:∀ whole,isTrue a X.env whole=(do let v <- whole;Md a.pos;holding [v] (truthy v))) :
 PT X a (fun σ H Q=>ta σ H fun x H' => ∃ k,vI X.K x H' k/\Q k H'):=by
 intro pins s σ H Q I h;exact isTrue_plain (thn (j pins s σ H _ I h) fun v s1 ⟨x,H1,q,z,B⟩=>AW pins s1 σ H1 x v Q q z B) (he _)
theorem qV:OpR X (I9 .Add) (fun x y H Q => ∃ i j,x = .str i/\y = .str j/\i.length+j.length<=Gg/\Q (.str (i++j)) H):=by
 intro pins s σ H x y v u Q I rx ry h;obtain ⟨i,j,rfl,rfl,z,q⟩:=h;obtain ⟨t,rfl⟩:=rx;obtain ⟨t',rfl⟩:=ry;exact add_str (fun t' tk=>⟨.str (i++j),H,I.tok _,⟨_,rfl⟩,q⟩) z
theorem dM {x:V} {us:List gV} (r:Vals [x] us):∃ u,us=[u]/\RelV x u:=by
 cases r with
 | cons j q=>cases q;exact ⟨_,rfl,j⟩
theorem CG {x y:V} {us:List gV} (r:Vals [x,y] us):∃ u w',us=[u,w']/\RelV x u/\RelV y w':=by
 cases r with
 | cons j q =>
   cases q with
   | cons z B=>cases B;exact ⟨_,_,rfl,j,z⟩
theorem vK:CallR X (.builtin "abs") (fun xs H Q => ∃ i,xs=[.int i]/\Q (.int (if i < 0 then -i else i)) H):=by
 intro pins s σ H xs us Q I r h;obtain ⟨i,rfl,q⟩:=h;obtain ⟨u,rfl,t,rfl⟩:=dM r;exact call_abs_int fun u tk=>⟨.int (if i < 0 then -i else i),H,I.tok _,⟨_,rfl⟩,q⟩
theorem sW (B:X.calm=true):CallR X (.builtin "min") (fun xs H Q => ∃ i j,xs=[.int i, .int j]/\Q (.int (if j < i then j else i)) H):=by
 intro pins s σ H xs us Q I r h;obtain ⟨i,j,rfl,q⟩:=h;obtain ⟨u,w',rfl,⟨t,rfl⟩,⟨t',rfl⟩⟩:=CG r;refine min_two_ints (I.ok.hd B) fun h' tk k=>⟨_,H,I.kept k, ?_,q⟩
 by_cases z:j < i
 ·rw [if_pos z,if_pos z];exact ⟨_,rfl⟩
 ·rw [if_neg z,if_neg z];exact ⟨_,rfl⟩
theorem sX:CallR X (.type "int") (fun xs H Q=>(∃ i,xs=[.int i]/\Q (.int i) H) ∨ ∃ k,xs=[.bl k]/\Q (.int (if k then 1 else 0)) H):=by
 intro pins s σ H xs us Q I r h
 rcases h with ⟨i,rfl,q⟩ | ⟨k,rfl,q⟩
 ·obtain ⟨u,rfl,t,rfl⟩:=dM r;exact call_int_int ⟨.int i,H,I,⟨_,rfl⟩,q⟩
 ·obtain ⟨u,rfl,j⟩:=dM r
  cases j
  exact call_int_bool ⟨.int (if k then 1 else 0),H,I.tok _,⟨_,rfl⟩,q⟩
def DI (K:Frag) (x:V) (H:Hp) (n:Nat):Prop :=
 match x with
 | .str y=>y.length<=Gg/\n=y.length
 | .byt y=>y.size<=Gg/\n=y.size
 | .ref p=>(∃ xs,SqL K H p xs/\n=xs.length) ∨ ∃ xs,SqT K H p xs/\n=xs.length
 | _=>False
theorem vL:CallR X (.builtin "len") (fun xs H Q => ∃ x n,xs=[x]/\DI X.K x H n/\Q (.int n) H):=by
 intro pins s σ H xs us Q I r h;obtain ⟨x,n,rfl,e,q⟩:=h;obtain ⟨u,rfl,rx⟩:=dM r;have B:=eB;have hs:Gg=16777216:=Gd
 cases x with
 | str y =>
   obtain ⟨t,rfl⟩:=rx;obtain ⟨j,e'⟩:y.length<=Gg/\n=y.length:=e;subst e';exact len_str (by omega) ⟨.int _,H,I.tok _,⟨_,rfl⟩,q⟩
 | byt y =>
   obtain ⟨t,rfl⟩:=rx;obtain ⟨j,e'⟩:y.size<=Gg/\n=y.size:=e;subst e';exact PySem.W.len_bytes (by omega) ⟨.int _,H,I.tok _,⟨_,rfl⟩,q⟩
 | ref p =>
   cases rx
   have e':(∃ xs,SqL X.K H p xs/\n=xs.length) ∨ ∃ xs,SqT X.K H p xs/\n=xs.length:=e
   rcases e' with ⟨xs,hx,e'⟩ | ⟨xs,hx,e'⟩
   ·subst e';obtain ⟨its,r',pl,z⟩:=I.list hx;have hlen:=r'.length;exact Calls.call_len_list pl.isList (by simp only [Gf];omega) ⟨.int xs.length,H,I.tok _,⟨_,by simp only [Gf];rw [hlen]⟩,q⟩
   ·subst e';obtain ⟨its,r',pl,z⟩:=I.tuple hx;have hlen:=r'.length;exact len_tuple pl (by simp only [Gf];omega) ⟨.int xs.length,H,I.tok _,⟨_,by simp only [Gf];rw [hlen]⟩,q⟩
 | _=>exact (show False from e).elim
end
end
section
theorem Qj {v:V} {o:Option gV} (r:RelO (some v) o):∃ u,o=some u/\RelV v u:=by
 cases o with
 | none=>exact (show False from r).elim
 | some u=>exact ⟨u,rfl,r⟩
end
section
structure Room (k:Nat) (A:Hg):Prop where
 hd:A.handled=none
 dp:A.depth+3*k+5 < recursionLimit
 un:A.units+16*k+200 < Ij
theorem Room.deeper {k:Nat} {A:Hg} (r:Room (k+1) A) (env:Env):Room k (A.deeper env) :=
 ⟨r.hd,by have:=r.dp;show A.depth+1+3*k+5 < _;omega,by have:=r.un;show A.units+3+16*k+200 < _;omega⟩
theorem Room.depth {k:Nat} {A:Hg} (r:Room k A):A.depth < recursionLimit:=by have:=r.dp;omega
theorem Room.units {k:Nat} {A:Hg} (r:Room k A):A.units+64 < Ij:=by have:=r.un;omega
noncomputable def AX:TA:=fun _ H Q=>Q [] H
noncomputable def xX (ta:TE) (tr:TA):TA:=fun σ H Q=>ta σ H fun x H1=>tr σ H1 fun xs H2=>Q (x::xs) H2
section
variable {X:Cx} {e:Expr} {es:List Expr} {te:TE} {t:TA} {pos:Pos}
theorem AY:PA X [] AX:=fun _ _ _ _ H Q I h=>Mf ⟨[],H,I, .nil,h⟩
theorem yP (j:PE X e te) (q:PA X es t) (hs:GN (e::es) X.env=(false,eval e X.env)::GN es X.env:=by rfl):PA X (e::es) (xX te t):=by
 intro pos pins s σ H Q I h;rw [hs];show Gm _ _ (spliced ((false,eval e X.env)::KI pos (GN es X.env))) _ _ s;refine Kn (thn (j pins s σ H _ I h) fun u s1 ⟨x,H1,z,B,F⟩ => ?_);exact thn (q pos pins s1 σ H1 _ z F) fun us s2 ⟨xs,H2,G,J,L⟩=>⟨x::xs,H2,G, .cons B J,L⟩
noncomputable def DJ (t:TA):TE:=fun σ H Q=>t σ H fun xs H1=>xs.length<=Gg /\ ∀ p,H1 p=none->Q (.ref p) (upd H1 p (.tup xs))
noncomputable def DK (t:TA):TE:=fun σ H Q=>t σ H fun xs H1=>xs.length<=Gg /\ ∀ p,H1 p=none->Q (.ref p) (upd H1 p (.lst xs))
theorem AZ {x1} (h:PA X es t):PE X (.Tuple es x1 pos) (DJ t):=by
 intro pins s σ H Q I hq;refine wpAny_Tuple_spliced (thn (h pos pins s σ H _ I hq) fun us s1 ⟨xs,H1,j,r,z,q⟩=>⟨by rw [<- r.length];exact z, ?_⟩)
 have hf:H1 s1.heap.objs.size=none:=j.hok.fresh (Gi _);refine ⟨.ref s1.heap.objs.size,upd H1 s1.heap.objs.size (.tup xs),j.laid (t':=s1.toks) (fun b u e=>h6 _ e) (Gi _) ?_,rfl,q _ hf⟩;exact ⟨z,us,r,⟨_,Gh _ rfl,rfl,_,rfl⟩⟩
theorem B0 (h:PA X es t):PE X (.List es pos) (DK t):=by
 intro pins s σ H Q I hq;refine wpAny_List_spliced (thn (h pos pins s σ H _ I hq) fun us s1 ⟨xs,H1,j,r,z,q⟩=>⟨by rw [<- r.length];exact z, ?_⟩)
 have hf:H1 s1.heap.objs.size=none:=j.hok.fresh (Gi _);refine ⟨.ref s1.heap.objs.size,upd H1 s1.heap.objs.size (.lst xs),j.laid (t':=s1.toks) (fun b u e=>h6 _ e) (Gi _) ?_,rfl,q _ hf⟩;exact ⟨z,us,0,r,Gh _ rfl⟩
end
noncomputable abbrev Sp:=List V->Hp->VK->XK->Prop
noncomputable abbrev CXT:=List Env->Hp->h7->XK->gV->h7->Prop
structure qW (P:GI) (w:Hf) (K:Frag) (mg:Str->Option gV) (base:Heap) (A:Hg) (outer:List Env) (s:h7) (H:Hp):Prop where
 frames:A.frames=some outer
 mod:Mod K mg base
 bs:∀ b o,base.get? b=some o->s.heap.get? b=some o/\H b=none
 bsz:base.objs.size<=s.heap.objs.size
 funs:s.heap.FunFrames base outer
 frf:∀ b∈frs outer,H b=none
 hok:HOk P w H s.heap
 bare:Mc s.gens
def CE (outer:List Env) (P:GI) (w:Hf) (H:Hp) (s:h7) (Q:VK) (u:gV) (s':h7):Prop :=
 ∃ v H',s'.os=s.os/\Mc s'.gens/\Un (frs outer) [] H H' s.heap s'.heap/\HOk P w H' s'.heap/\RelV v u/\Q v H'
def CR (CX:CXT) (outer:List Env) (P:GI) (w:Hf) (H:Hp) (s:h7) (Q:VK) (E:XK) (r:Result) (s':h7):Prop :=
 match r with
 | .ok (.ret u)=>CE outer P w H s Q u s'
 | .ok _=>False
 | .error e=>CX outer H s E e s'
structure dv (P:GI) (w:Hf) (K:Frag) (mg:Str->Option gV) (base:Heap) (CX:CXT) (k:Nat) (f:Addr) (fd:JU) (ps:List Str) (sp:Sp):Prop where
 len:∀ vs H Q E,sp vs H Q E->vs.length=ps.length
 run:∀ (A:Hg) (outer:List Env) (s:h7) (H:Hp) (args:Args) (us:List gV) (vs:List V) (Q:VK) (E:XK),Room k A->qW P w K mg base A outer s H->Oq s fd args (ps.zip us)->Vals vs us->sp vs H Q E ->
  Lf (model P w) A (.call (.ref f) args) (CR CX outer P w H s Q E) s
section
variable {X:Cx} {pins:List (Addr×Obj)} {σ:St} {H:Hp} {s s':h7}
theorem Inv.env0 (I:Inv X pins σ H s):qW X.prog X.w X.K X.mg X.base X.A X.stack s H :=
 ⟨I.ok.frames,I.ok.mod,I.bs,J1 I.ok.bsz I.sz,I.stack,I.stkFree,I.hok,I.bare⟩
theorem Inv.after {Q:VK} {u:gV} (I:Inv X pins σ H s) (h:CE X.stack X.prog X.w H s Q u s'):EP X pins σ Q u s':=by
 obtain ⟨v,H',os,bare,un,hok,r,q⟩:=h;obtain ⟨j,g,d,t,os'⟩:=s';obtain rfl:os'=s.os:=os;exact ⟨v,H',I.call (h':=j) (g':=g) (d':=d) (t':=t) (ch := []) un hok bare (fun b z=>absurd z (by simp)),r,q⟩
end
noncomputable def xY (sp:Sp) (dvs:List V) (E:XK) (t:TA):TE:=fun σ H Q=>t σ H fun vs H1=>sp (vs++dvs) H1 Q E
def Binds (K:Frag) (fd:JU) (ps:List Str) (ds:List gV):Prop :=
 ∀ (s:h7) (us:List gV),K.In s.heap->(us++ds).length=ps.length->Oq s fd ⟨us,[]⟩ (ps.zip (us++ds))
theorem Binds.all {K:Frag} {fd:JU} {ps:List Str} (h:∀ us:List gV,us.length=ps.length->bindArgs fd ⟨us,[]⟩=pure (ps.zip us)):Binds K fd ps []:=fun s us _ j=>by
 rw [HU] at j ⊢;exact .of_eq (h us j)
def iQ (CX:CXT) (X:Cx) (E:XK):Prop := ∀ (pins:List (Addr×Obj)) (σ:St) (H:Hp) (s:h7) (e:gV) (s':h7),Inv X pins σ H s->CX X.stack H s E e s'->X.xe e s'
section
variable {X:Cx} {CX:CXT} {k:Nat} {f C:Addr} {fd:JU} {ps:List Str} {sp:Sp} {dvs:List V} {ds:List gV} {E:XK} {x m:Str} {p pos apos:Pos} {e o:Expr} {es:List Expr} {ta:TE} {t:TA}
theorem sY {pins:List (Addr×Obj)} {σ:St} {H:Hp} {s:h7} {Q:VK} {us:List gV} {vs:List V} (F:dv X.prog X.w X.K X.mg X.base CX k f fd ps sp) (z:Room k X.A) (B:Binds X.K fd ps ds) (hd:Vals dvs ds) (hx:iQ CX X E)
 (I:Inv X pins σ H s) (r:Vals vs us) (h:sp (vs++dvs) H Q E):Gm (model X.prog X.w) X.A (call (.ref f) us) (EP X pins σ Q) X.xe s:=by
 have q:Vals (vs++dvs) (us++ds):=r.append hd;have G:(us++ds).length=ps.length:=by rw [<- q.length];exact F.len _ _ _ _ h
 refine Pw (KJ (F.run X.A X.stack s H ⟨us,[]⟩ (us++ds) (vs++dvs) Q E z I.env0 (B s us I.kIn G) q h) fun r s' j => ?_)
 cases r with
 | error e=>exact hx pins σ H s e s' I j
 | ok fl =>
   cases fl with
   | ret u=>exact I.after j
   | next=>exact False.elim j
   | brk=>exact False.elim j
   | cont=>exact False.elim j
theorem yQ (F:dv X.prog X.w X.K X.mg X.base CX k f fd ps sp) (G:Room k X.A) (J:Gl X x) (hm:X.mg x=some (.ref f)) (L:JV X.K (.ref f)=true) (O:Binds X.K fd ps ds) (hd:Vals dvs ds) (hx:iQ CX X E)
 (U:PA X (e::es) t) (j:(x==("__debug__":Str))=false:=by decide) (he:GN (e::es) X.env=(false,eval e X.env)::GN es X.env:=by rfl) (z:(KI pos (GN es X.env)).any (·.1)=false:=by rfl) :
 PE X (.Call (.Name x p) (e::es) [] pos) (xY sp dvs E t):=by
 intro pins s σ H Q I h;refine JD (pJ I J hm ?_ j);refine PySem.W.callWith_K (h₀ := X.base) I.ok.mod.kin L (thn (U pos pins s σ H _ I h) fun us s1 ⟨vs,H1,B,r,q⟩=>⟨B.kIn, ?_⟩) he z;exact sY F G O hd hx B r q
theorem vM (F:dv X.prog X.w X.K X.mg X.base CX k f fd ps sp) (q:Room k X.A) (z:Gl X x) (hm:X.mg x=some (.ref f)) (B:JV X.K (.ref f)=true) (G:Binds X.K fd ps ds) (hd:Vals dvs ds) (hx:iQ CX X E)
 (j:(x==("__debug__":Str))=false:=by decide):PE X (.Call (.Name x p) [] [] pos) (xY sp dvs E AX):=by
 intro pins s σ H Q I h;refine JD (pJ I z hm ?_ j);exact PySem.W.callWith_K0 I.kIn B (sY (us := []) F q G hd hx I .nil h)
end
structure gw (N P:List Str) (sc:Scope):Prop where
 kind:sc.kind = .function
 co:sc.isCoroutine=false
 gen:sc.isGenerator=false
 nd:N.Nodup
 pre:N.take P.length=P
 par:∀ x∈P,sc.names.lookup x=some .local∨sc.names.lookup x=some .cell
 nofree:∀ y∈sc.names,y.2 ≠ .free
theorem kE {HY:Str->Option Jw} {x:Str}:∀ {binds:List (Str×gV)} {m:Str->Option gV},(∀ v,(x,v)∉binds)->Px HY binds m x=m x
 | [],_,_=>rfl
 | (n,v)::r,m,h=>by
  unfold Px;rw [kE fun w hw=>h w (GP _ hw)]
  split
  ·have:x≠n:=by rintro rfl;exact h v HP
   simp [this]
  ·rfl
theorem kF {HY:Str->Option Jw} {x:Str}:∀ {binds:List (Str×gV)} {m:Str->Option gV},(∀ v,(x,v)∉binds)->Py HY binds m x=m x
 | [],_,_=>rfl
 | (n,v)::r,m,h=>by
  unfold Py;rw [kF fun w hw=>h w (GP _ hw)]
  split
  ·rfl
  ·have:x≠n:=by rintro rfl;exact h v HP
   simp [this]
theorem kG {HY:Str->Option Jw} {x:Str} {v:gV}:∀ {P:List Str} {vs:List gV} {i:Nat} {m:Str->Option gV},P.Nodup->P[i]? = some x->vs[i]? = some v->HY x=some .local ->
 Px HY (P.zip vs) m x=some v
 | [],_,_,_,_,h,_,_=>by simp at h
 | _::_,[],_,_,_,_,h,_=>by simp at h
 | p::P,w::vs,0,m,nd,h1,h2,j=>by
   simp at h1 h2;subst h1;subst h2;show Px HY ((p,w)::P.zip vs) m p=_;unfold Px;rw [kE fun v q=>(HV.mp nd).1 (Kk q).1,if_pos j];simp
 | p::P,w::vs,i+1,m,nd,h1,h2,j=>by
   show Px HY ((p,w)::P.zip vs) m x=_;unfold Px;exact kG (i:=i) (HV.mp nd).2 (by simpa using h1) (by simpa using h2) j
theorem kH {HY:Str->Option Jw} {x:Str} {v:gV}:∀ {P:List Str} {vs:List gV} {i:Nat} {m:Str->Option gV},P.Nodup->P[i]? = some x->vs[i]? = some v->HY x≠some .local ->
 Py HY (P.zip vs) m x=some v
 | [],_,_,_,_,h,_,_=>by simp at h
 | _::_,[],_,_,_,_,h,_=>by simp at h
 | p::P,w::vs,0,m,nd,h1,h2,j=>by
   simp at h1 h2;subst h1;subst h2;show Py HY ((p,w)::P.zip vs) m p=_;unfold Py;rw [kF fun v q=>(HV.mp nd).1 (Kk q).1,if_neg j];simp
 | p::P,w::vs,i+1,m,nd,h1,h2,j=>by
   show Py HY ((p,w)::P.zip vs) m x=_;unfold Py;exact kH (i:=i) (HV.mp nd).2 (by simpa using h1) (by simpa using h2) j
noncomputable def cC (N:List Str) (vs:List V):St:=vs.map some++D1 (N.length - vs.length) none
noncomputable def ik (CX:CXT) (P:GI) (w:Hf) (K:Frag) (mg:Str->Option gV) (base:Heap) (N:List Str) (qual:Str) (scope:Scope) (f:Addr) (cd:gV) (A:Hg) (outer:List Env) (s:h7) (H:Hp) (E:XK):Cx where
 prog:=P
 w:=w
 K:=K
 mg:=mg
 base:=base
 A:=A.deeper (Np qual scope s.heap.objs.size f cd)
 N:=N
 s₀ := s
 H₀ := H
 env:=Np qual scope s.heap.objs.size f cd
 outer:=outer
 stack:=Np qual scope s.heap.objs.size f cd::outer
 ex := []
 calm:=true
 fn:=fun _=>true
 pn := []
 xe:=fun e s'=>Gm (model P w) (A.deeper (Np qual scope s.heap.objs.size f cd)) (leaving (Np qual scope s.heap.objs.size f cd) e) (fun _ s''=>CX outer H s E e s'') (fun e' s''=>CX outer H s E e' s'') s'
theorem mF {sc:Scope} {n:Nat} {x:Str} (h:sc.names.lookup x=some .cell):∃ c,(IQ n sc.names []).lookup x=some c:=by
 have q:=KL sc.names n [] (.inl h);exact Jr.mp q
theorem sZ {CX:CXT} {P:GI} {w:Hf} {K:Frag} {mg:Str->Option gV} {base:Heap} {N ps:List Str} {qual:Str} {scope:Scope} {f:Addr} {cd:gV} {A:Hg} {outer:List Env} {s s1:h7} {H:Hp} {E:XK} {us:List gV} {vs:List V}
 (S:gw N ps scope) (hd:A.handled=none) (e0:qW P w K mg base A outer s H) (O:vs.length=ps.length) (r:Vals vs us)
 (x:InCallC s s.heap.objs.size (Px (Np qual scope s.heap.objs.size f cd).kindOf (ps.zip us) fun _=>none) (IQ (s.heap.objs.size+1) scope.names []) (Py (Np qual scope s.heap.objs.size f cd).kindOf (ps.zip us) fun _=>none) s1) :
 Inv (ik CX P w K mg base N qual scope f cd A outer s H E) [] (cC N vs) H s1:=by
 have J:ps.length<=N.length:=by have:=congrArg Kz S.pre;rw [GZ] at this;omega
 obtain ⟨h1,tk,rfl,F⟩:=x.done;have noA:∀ b:Addr,b∉(ik CX P w K mg base N qual scope f cd A outer s H E).ex:=fun b z=>absurd (show b∈([]:List Addr) from z) (by simp)
 refine ⟨⟨e0.mod,S.kind,rfl,rfl,Gi _,fun y z c h1 h2 => ?_,fun y j => ?_,fun y c _ h => ?_,fun _=>hd,Around.frames_deeper e0.frames, .inr ⟨rfl,rfl⟩,fun b z=>absurd z (noA b),e0.bs,e0.bsz,fun b _ _=>noA b,fun b z=>absurd z (noA b),e0.funs,e0.frf⟩,
  rfl,e0.bare,Un.kept F,⟨_,x.toInCall.ns,fun i y v h1 h2 U => ?_⟩,fun y c h=>⟨_,x.cell y c h⟩,e0.hok.fresh (Gi _),fun y c h => ?_,fun p B=>absurd (show p∈([]:List (Addr×Obj)) from B) (by simp),e0.hok.kept F, ?_⟩
 ·exact name_of_addr x.apart (HZ h1) (HZ h2)
 ·have j:scope.names.lookup y=some .cell∨scope.names.lookup y=some .free:=j
  rcases j with j | j
  ·exact mF j
  ·exact absurd rfl (S.nofree _ (HZ j))
 ·exact JY (x.above y c (HZ h))
 ·have hi:i < vs.length:=by
   unfold cC at h2
   by_cases hi:i < vs.length
   ·exact hi
   ·rw [z4 (by simpa using hi)] at h2
    rw [Mr] at h2
    split at h2 <;> cases h2
  have L:vs[i]? = some v:=by
   unfold cC at h2;rw [Gs (by simpa using hi),GH] at h2
   cases e:vs[i]? with
   | none=>rw [e] at h2;cases h2
   | some a=>rw [e] at h2;cases h2;rfl
  obtain ⟨u,G,rv⟩:=r.get L;have B:ps[i]? = some y:=by
   rw [<- S.pre,Ke (by omega)];exact h1
  have ndP:ps.Nodup:=by rw [<- S.pre];exact S.nd.sublist (List.take_sublist _ _)
  refine ⟨u,rv, ?_⟩
  rcases S.par y (Hc B) with k | k
  ·exact .inl ⟨k,kG ndP B G k⟩
  ·obtain ⟨c,e⟩:=mF (n:=s.heap.objs.size+1) k;refine .inr ⟨.inl k,c,e, ?_⟩;have q:=x.cell y c e;rw [kH ndP B G (by show scope.names.lookup y≠_;rw [k];decide)] at q
   exact q
 ·exact e0.hok.fresh (JY (x.above y c (HZ h)))
 ·unfold cC;show _=N.length;rw [D2,r3,List.length_replicate];omega
theorem CH {CX:CXT} {P:GI} {w:Hf} {K:Frag} {mg:Str->Option gV} {base:Heap} {k:Nat} {f:Addr} {name qual:Str} {params:Arguments} {body:List Stmt} {scope:Scope} {dV kV doc pm cdv ct oc:gV} {an od:Option Addr}
 {osl:Array (Option gV)} {N ps:List Str} {sp:Sp} (lk:K.lookup f=some ⟨oc,od, .func (JE name qual params body scope dV kV doc pm an cdv ct),osl⟩) (F:LN K cdv qual=true) (S:gw N ps scope)
 (len:∀ vs H Q E,sp vs H Q E->vs.length=ps.length)
 (j:∀ (A:Hg) (outer:List Env) (s:h7) (H:Hp) (vs:List V) (Q:VK) (E:XK),Room k (A.deeper (Np qual scope s.heap.objs.size f cdv))->sp vs H Q E ->
   ∃ t,PSs (ik CX P w K mg base N qual scope f cdv A outer s H E) body t/\t { nx:=fun _ H'=>Q .non H',rt:=Q } (cC N vs) H) :
 dv P w K mg base CX (k+1) f (JE name qual params body scope dV kV doc pm an cdv ct) ps sp:=by
 refine ⟨len,fun A outer s H args us vs Q E G e0 L r B => ?_⟩;have O:=len _ _ _ _ B;have KX:K.In s.heap:=e0.mod.kin.keeps fun b o e=>(e0.bs b o e).1;have lim:s.heap.NoLimit:=e0.mod.nolimit.keeps fun b o e=>(e0.bs b o e).1;have z:∀ y∈ps.zip us,scope.names.lookup y.1=some .local∨(scope.names.lookup y.1=some .cell/\((IQ (s.heap.objs.size+1) scope.names []).lookup y.1).isSome=true):=fun ⟨n,v⟩ hy=>by
  rcases S.par n (Kk hy).1 with q | q
  ·exact .inl q
  ·exact .inr ⟨q,KL _ _ _ (.inl q)⟩
 refine codeAny_call_function G.depth (KX _ _ lk) rfl S.co S.gen rfl (PySem.W.codeRec_of KX F) (L _ _ _ _ ?_);refine wpAny_newFunctionEnv_cells S.kind z fun env he s1 x => ?_;subst he;refine ⟨lim.keeps x.toInCall.keep,codeAny_func ?_⟩;obtain ⟨t,U,Y⟩:=j A outer s H vs Q E (G.deeper _) B;have I:Inv (ik CX P w K mg base N qual scope f cdv A outer s H E) [] (cC N vs) H s1:=sZ S G.hd e0 O r x;refine HF (U [] s1 (cC N vs) H _ I Y) (fun fl s' hs => ?_) fun e s' hs=>hs;have fin:∀ {σ':St} {H':Hp} {v:V} {u:gV},Inv (ik CX P w K mg base N qual scope f cdv A outer s H E) [] σ' H' s'->RelV v u->Q v H'->CE outer P w H s Q u s' :=
  fun {σ' H' v u} J rv q=>⟨v,H',J.os,J.bare,J.base,J.hok,rv,q⟩
 cases fl with
 | ret u =>
   obtain ⟨v, σ',H',J,rv,q⟩:=hs;exact fin J rv q
 | next =>
   obtain ⟨σ',H',J,q⟩:=hs;exact fin (v:=V.non) (u:=JS) J rfl q
 | brk =>
   obtain ⟨_,_,_,q⟩:=hs;exact False.elim q
 | cont =>
   obtain ⟨_,_,_,q⟩:=hs;exact False.elim q
end
section
section
variable {X:Cx} {x:Str} {p pos:Pos} {e:Expr} {es:List Expr} {t:TA} {id T:String} {r:List V->Hp->VK->Prop}
noncomputable def tCB (r:List V->Hp->VK->Prop) (t:TA):TE:=fun σ H Q=>t σ H fun vs H1=>r vs H1 Q
theorem cl (z:CallR X (.builtin id) r) (B:Gl X x) (hm:X.mg x=none) (F:LC x=some (.builtin id)) (G:PA X (e::es) t) (J:x ≠ "__name__" := by decide) (j:(x==("__debug__":Str))=false:=by decide)
 (he:GN (e::es) X.env=(false,eval e X.env)::GN es X.env:=by rfl) (q:(KI pos (GN es X.env)).any (·.1)=false:=by rfl):PE X (.Call (.Name x p) (e::es) [] pos) (tCB r t):=by
 intro pins s σ H Q I h;refine JD (dr I B hm F ?_ J j);exact L6 (thn (G pos pins s σ H _ I h) fun us s1 ⟨vs,H1,L,O,U⟩=>z pins s1 σ H1 vs us Q L O U) he q
theorem kI (z:CallR X (.type T) r) (B:Gl X x) (hm:X.mg x=none) (F:LC x=some (.type T)) (G:PA X (e::es) t) (J:x ≠ "__name__" := by decide) (j:(x==("__debug__":Str))=false:=by decide)
 (he:GN (e::es) X.env=(false,eval e X.env)::GN es X.env:=by rfl) (q:(KI pos (GN es X.env)).any (·.1)=false:=by rfl):PE X (.Call (.Name x p) (e::es) [] pos) (tCB r t):=by
 intro pins s σ H Q I h;refine JD (dr I B hm F ?_ J j);exact Ii (thn (G pos pins s σ H _ I h) fun us s1 ⟨vs,H1,L,O,U⟩=>z pins s1 σ H1 vs us Q L O U) he q
end
end
end L2
namespace HT
open PySem PyProof.Rows
noncomputable def lexLt:List Int->List Int->Bool
 | [],[] => false
 | [],_::_=>true
 | _::_,[] => false
 | x::xs,y::ys=>if x=y then lexLt xs ys else decide (x < y)
theorem lexLt_cons (x y:Int) (xs ys:List Int):lexLt (x::xs) (y::ys)=if x=y then lexLt xs ys else decide (x < y):=rfl
section
variable {prog:GI} {w:Hf} {A:Hg} {E:gV->h7->Prop} {s:h7}
theorem cat_tup {t b:Addr} {vs ws:List gV} {Q:gV->h7->Prop} (U:IsTup s.heap t vs.toArray) (Y:IsTup s.heap b ws.toArray) (G:vs≠[])
 (h1:ws=[]->Q (.ref t) s) (h2:ws≠[]->Q (.ref s.heap.objs.size) { s with heap:=s.heap.push { cls := .type "tuple",data := .seq (vs++ws).toArray } })
 (hsz:vs.length+ws.length<=Gg):Gm (model prog w) A (I9 .Add (.ref t) (.ref b)) Q E s:=by
 obtain ⟨⟨cls,dd,data,sl⟩,ho,J,n,hd⟩:=id U;obtain ⟨⟨L,q,data2,z⟩,j,B,O,hd2⟩:=id Y;simp only at J hd B hd2;subst J hd B hd2;have e:vs.toArray++ws.toArray=(vs++ws).toArray:=by simp
 by_cases hw:ws=[]
 ·exact Ot ⟨_,ho,rfl⟩ ⟨_,j,rfl⟩ Ms NW KN KA (Kf _ _)
   (tuple_addW1 t b vs.toArray ws.toArray n O dd q sl z (by simpa using G) (by simp [hw])) ⟨ho,j,h1 hw⟩
 ·refine Ot ⟨_,ho,rfl⟩ ⟨_,j,rfl⟩ Ms NW KN KA (Kf _ _)
   (tuple_addW2 t b vs.toArray ws.toArray n O dd q sl z (by simpa using G) (by simpa using hw) (by rw [Gf,Gf];exact hsz)) ⟨ho,j, ?_⟩
  rw [e];exact h2 hw
noncomputable def sIx (n d:Nat):Option Int->Nat
 | none=>d
 | some v=>if v < 0 then (v+(n:Int)).toNat else min v.toNat n
theorem sIx_none (n d:Nat):sIx n d none=d:=rfl
theorem sIx_nat (n d k:Nat):sIx n d (some (k:Int))=min k n:=by
 show (if (k:Int) < 0 then ((k:Int)+(n:Int)).toNat else min (k:Int).toNat n)=min k n
 rw [if_neg (by omega),Gq]
theorem B1 (n d:Nat) (hd:d<=n) (o:Option Int):sIx n d o<=n:=by
 cases o with
 | none=>exact hd
 | some v =>
   show (if v < 0 then (v+(n:Int)).toNat else min v.toNat n)<=n
   by_cases hv:v < 0
   ·rw [if_pos hv];omega
   ·rw [if_neg hv];exact Nat.min_le_right _ _
theorem pL (v:Int) (n d:Nat):(if v < 0 then max (v+(n:Int)) 0 else min v (n:Int))=((sIx n d (some v):Nat):Int):=by
 show (if v < 0 then max (v+(n:Int)) 0 else min v (n:Int))=(((if v < 0 then (v+(n:Int)).toNat else min v.toNat n):Nat):Int)
 by_cases hv:v < 0
 ·simp only [if_pos hv];omega
 ·simp only [if_neg hv];omega
theorem qX (lo hi:Option Int) (n:Nat):K9 lo hi 1 (n:Int)=(((sIx n 0 lo:Nat):Int),((sIx n n hi:Nat):Int)):=by
 have h1 : ¬ ((1:Int) < 0):=by omega
 unfold K9;simp only [h1,if_false];refine Pz ?_ ?_
 ·cases lo with
  | none=>rfl
  | some v=>exact pL v n 0
 ·cases hi with
  | none=>rfl
  | some v=>exact pL v n n
theorem qY (i j:Nat):Jd (i:Int) (j:Int) 1=j - i:=by
 unfold Jd;have h1:(1:Int) > 0:=by omega
 simp only [h1,if_true,Int.ediv_one]
 split <;> omega
theorem iR {v:gV} {o:Option Int} {Q:Option Int->h7->Prop} (p:MK v o) (h:Q o s):Gm (model prog w) A (Builtin.Slice.slicePartIndex v) Q E s:=by
 cases p with
 | none=>exact slicePart_none h
 | int i t=>exact slicePart_int h
theorem dw {sl:Addr} {vl vu:gV} {lo hi:Option Int} {n:Nat} {Q:Int×Int×Nat->h7->Prop} (hs:s.heap.IsSliceOf sl vl vu .none) (pl:MK vl lo) (pu:MK vu hi)
 (h:Q (((sIx n 0 lo:Nat):Int),1,sIx n n hi - sIx n 0 lo) s):Gm (model prog w) A (LO (.ref sl) (pure (n:Int))) Q E s:=by
 obtain ⟨os,j,z,q⟩:=id hs;unfold LO Builtin.Slice.sliceFields;refine e6 (e6 (GU j q (x:=vl) rfl (e6 (GU j q (x:=vu) rfl (e6 (GU j q (x := .none) rfl (q7 ?_)))))));refine e6 (slicePart_none ?_);show Gm _ _ (if ((1:Int)==0)=true then _ else _) _ _ s
 rw [if_neg (by decide)]
 refine e6 (iR pl (e6 (iR pu (e6 (q7 ?_)))));show Gm _ _ (match K9 lo hi 1 (n:Int) with | (lo,hi)=>pure (lo,(1:Int),Jd lo hi 1)) _ _ s
 rw [qX lo hi n];show Gm _ _ (pure (((sIx n 0 lo:Nat):Int),(1:Int),Jd ((sIx n 0 lo:Nat):Int) ((sIx n n hi:Nat):Int) 1)) _ _ s;rw [qY];exact q7 h
theorem vN (xs:Array gV) (i k:Nat):((D0 k).filterMap fun (m:Nat)=>xs[((i:Int)+(m:Int)*1).toNat]?).toArray=((xs.toList.drop i).take k).toArray:=by
 have e:(fun (m:Nat)=>xs[((i:Int)+(m:Int)*1).toNat]?)=fun m=>xs[i+m]? := by
  funext m
  have:((i:Int)+(m:Int)*1).toNat=i+m:=by omega
  rw [this]
 rw [e];have:=pick_run xs i k;rw [List.filterMap_map] at this;have e2:((fun x=>xs[x]?) ∘ fun x=>i+x)=fun m=>xs[i+m]? := rfl;rw [e2] at this;rw [this]
theorem getItem_tuple_cut {t sl:Addr} {items:Array gV} {vl vu:gV} {lo hi:Option Int} {Q:gV->h7->Prop} (z:IsTup s.heap t items) (hs:s.heap.IsSliceOf sl vl vu .none) (pl:MK vl lo) (pu:MK vu hi)
 (hw : ¬ (sIx items.size 0 lo=0/\sIx items.size items.size hi=items.size))
 (h:Q (.ref s.heap.objs.size) { s with heap:=s.heap.push { cls := .type "tuple",data := .seq ((items.toList.drop (sIx items.size 0 lo)).take (sIx items.size items.size hi - sIx items.size 0 lo)).toArray } })
 (hsz:items.size<=Gg):Gm (model prog w) A (Me (.ref t) (.ref sl)) Q E s:=by
 have j:sizeOk (.seq ((items.toList.drop (sIx items.size 0 lo)).take (sIx items.size items.size hi - sIx items.size 0 lo)).toArray):=by
  show ((items.toList.drop (sIx items.size 0 lo)).take (sIx items.size items.size hi - sIx items.size 0 lo)).toArray.size<=Gg;rw [Gf,GZ,L7,GD];omega
 have O:sIx items.size items.size hi<=items.size:=B1 _ _ (Gi _) hi;obtain ⟨os,B,F,L⟩:=id hs;have G:s.TypeIs (.ref sl) "slice" := ⟨os,B,F⟩;unfold Me
 try with_reducible refine HB ?_
 first | refine e6 (q7 ?_) | skip
 refine e6 (Ou z.typeIs (by decide) ?_)
 refine e6 (H0 (name:=Il "__getitem__") z.typeIs Iy
  (H8 Iy z.typeIs NN ?_ (Of _ _)))
 show Gm _ _ (LP (.ref t) >>= _) _ _ s;refine e6 (tupleItemsOf_ z ?_);refine e6 (KO G ?_);rw [if_pos (by decide)]
 refine e6 (dw hs pl pu ?_);have J : ¬ ((((sIx items.size 0 lo:Nat):Int)==0&&(1:Int)==1&&(sIx items.size items.size hi - sIx items.size 0 lo)==items.size)=true):=by
  intro q;rw [hH,hH] at q;have U:((sIx items.size 0 lo:Nat):Int)=0:=Jx q.1.1;have Y:sIx items.size items.size hi - sIx items.size 0 lo=items.size:=Jx q.2;exact hw ⟨by omega,by omega⟩
 show Gm _ _ (if (((sIx items.size 0 lo:Nat):Int)==0&&(1:Int)==1&&(sIx items.size items.size hi - sIx items.size 0 lo)==items.size)=true then _ else _) _ _ s
 rw [if_neg J,vN]
 first
  | exact e6 (m:=Js _) (I0 (q7 ⟨_,rfl,q7 h⟩) j)
  | exact e6 (m:=Js _) (I0 (e6 (q7 (q7 ⟨_,rfl,q7 h⟩))) j)
  | exact e6 (e6 (m:=Js _) (I0 (q7 (q7 ⟨_,rfl,q7 h⟩)) j))
  | exact e6 (e6 (m:=Js _) (I0 (q7 ⟨_,rfl,q7 h⟩) j))
end
end HT
namespace L2
open PySem PySem.Spec PyProof.Rows
section
noncomputable abbrev TO:=St->Hp->(Option Int->Hp->Prop)->Prop
def PO (X:Cx) (e:Option Expr) (t:TO):Prop :=
 ∀ (pins:List (Addr×Obj)) (s:h7) (σ:St) (H:Hp) (Q:Option Int->Hp->Prop),Inv X pins σ H s->t σ H Q ->
  Gm (model X.prog X.w) X.A (evalPart e X.env) (fun u s' => ∃ o H',Inv X pins σ H' s'/\MK u o/\Q o H') X.xe s
noncomputable def yR:TO:=fun _ H Q=>Q none H
noncomputable def CI (t:TE):TO:=fun σ H Q=>t σ H fun x H1 => ∃ i,x = .int i/\Q (some i) H1
theorem qZ {ns:List Int}:∀ {us:List gV},Vals (ns.map V.int) us->JZ us ns:=by
 induction ns with
 | nil=>intro us r;rw [Ji] at r;cases r;exact .nil
 | cons n ns ih =>
   intro us r;rw [Gr] at r
   cases r with
   | cons j q =>
     obtain ⟨t,e⟩:=j;subst e;exact .cons n t (ih q)
section
variable {X:Cx} {e:Expr} {te:TE} {lo hi:Option Expr} {tl th:TO} {pos p2:Pos}
theorem yS:PO X none yR:=by
 intro pins s σ H Q I h;rw [evalPart_none];exact q7 ⟨none,H,I, .none,h⟩
theorem yT (h:PE X e te):PO X (some e) (CI te):=by
 intro pins s σ H Q I hw;rw [evalPart_some];refine thn (h pins s σ H _ I hw) fun u s1 ⟨x,H1,j,z,B⟩ => ?_;obtain ⟨i,rfl,q⟩:=B;obtain ⟨t,rfl⟩:=z;exact ⟨some i,H1,j, .int i t,q⟩
def SlR (X:Cx) (r:V->Option Int->Option Int->Hp->VK->Prop):Prop :=
 ∀ (pins:List (Addr×Obj)) (s:h7) (σ:St) (H:Hp) (x:V) (v vl vu:gV) (lo hi:Option Int) (sl:Addr) (Q:VK),Inv X pins σ H s->RelV x v->s.heap.IsSliceOf sl vl vu .none->MK vl lo->MK vu hi->r x lo hi H Q ->
  ∃ T id,PD (.type T) "__getitem__" = pure (some (.builtin id))/\s.TypeIs v T/\Gm (model X.prog X.w) X.A (Me v (.ref sl)) (EP X pins σ Q) X.xe s
theorem SlR.or {r r':V->Option Int->Option Int->Hp->VK->Prop} (h:SlR X r) (h':SlR X r'):SlR X (fun x lo hi H Q=>r x lo hi H Q∨r' x lo hi H Q):=by
 intro pins s σ H x v vl vu lo hi sl Q I rx hs pl pu q
 rcases q with q | q
 ·exact h pins s σ H x v vl vu lo hi sl Q I rx hs pl pu q
 ·exact h' pins s σ H x v vl vu lo hi sl Q I rx hs pl pu q
noncomputable def tSl (r:V->Option Int->Option Int->Hp->VK->Prop) (te:TE) (tl th:TO):TE:=fun σ H Q=>te σ H fun x H1=>tl σ H1 fun l H2=>th σ H2 fun u H3=>r x l u H3 Q
theorem vO {r:V->Option Int->Option Int->Hp->VK->Prop} (z:SlR X r) (he:PE X e te) (B:PO X lo tl) (F:PO X hi th):PE X (.Subscript e (.Slice lo hi none p2) pos) (tSl r te tl th):=by
 intro pins s σ H Q I h;refine Subscript_ (thn (he pins s σ H _ I h) fun v s1 ⟨x,H1,G,J,L⟩ => ?_);refine wpAny_Slice (thn (B pins s1 σ H1 _ G L) fun vl s2 ⟨l,H2,O,pl,U⟩=>thn (F pins s2 σ H2 _ O U) fun vu s3 ⟨u,j,Y,pu,Z⟩ => ?_);rw [evalPart_none];refine q7 ?_;have I4:Inv X pins σ j { s3 with heap:=s3.heap.push { cls := .type "slice",data := .fields #[vl,vu, .none] } }:=Y.kept (t':=s3.toks) fun b ob q=>h6 _ q
 obtain ⟨T,id,hT,ht,hg⟩:=z pins { s3 with heap:=s3.heap.push { cls := .type "slice",data := .fields #[vl,vu, .none] } } σ j x v vl vu l u s3.heap.objs.size Q I4 J (Heap.IsSliceOf.new ..) pl pu Z
 show Gm (model X.prog X.w) X.A (subscriptTail e (.Slice lo hi none p2) v (.ref s3.heap.objs.size)) (EP X pins σ Q) X.xe { s3 with heap:=s3.heap.push { cls := .type "slice",data := .fields #[vl,vu, .none] } }
 exact tail_any (ops := [.ref s3.heap.objs.size,v]) ht hT hg (by with_unfolding_all rfl)
noncomputable def fE (xs:List V) (lo hi:Option Int):List V:=(xs.drop (HT.sIx xs.length 0 lo)).take (HT.sIx xs.length xs.length hi - HT.sIx xs.length 0 lo)
theorem hW (xs:List V) (lo hi:Option Int):(fE xs lo hi).length<=xs.length:=by
 unfold fE;rw [GZ,L7];omega
noncomputable def DL (K:Frag):V->Option Int->Option Int->Hp->VK->Prop:=fun x lo hi H Q => ∃ a xs,x = .ref a/\SqT K H a xs /\
 ¬ (HT.sIx xs.length 0 lo=0/\HT.sIx xs.length xs.length hi=xs.length) /\ ∀ p,H p=none->Q (.ref p) (upd H p (.tup (fE xs lo hi)))
theorem sl_tup:SlR X (DL X.K):=by
 intro pins s σ H x v vl vu lo hi sl Q I rx hs pl pu h;obtain ⟨a,xs,rfl,hx,hw,q⟩:=h
 cases rx
 obtain ⟨its,r,j,z⟩:=I.tuple hx;have hlen:its.toArray.size=xs.length:=by rw [Gf];exact r.length.symm
 refine ⟨"tuple",_,PyProof.Rows.slot_tuple_getitem.lookup,j.typeIs, ?_⟩;refine HT.getItem_tuple_cut j hs pl pu (by rw [hlen];exact hw) ?_ (by rw [hlen];exact z)
 rw [hlen];refine ⟨.ref s.heap.objs.size,_,I.laid (t':=s.toks) (o := .tup (fE xs lo hi)) (fun b ob q=>h6 _ q) (Gi _) ?_,rfl,q _ (I.hok.fresh (Gi _))⟩;exact ⟨J1 (hW xs lo hi) z,_,(r.drop (HT.sIx xs.length 0 lo)).take (HT.sIx xs.length xs.length hi - HT.sIx xs.length 0 lo),L5 _ _⟩
noncomputable def xZ (K:Frag):R2:=fun x y H Q => ∃ a b xs ys,x = .ref a/\y = .ref b/\SqT K H a xs/\SqT K H b ys/\xs≠[]/\xs.length+ys.length<=Gg /\
 (ys=[]->Q (.ref a) H)/\(ys≠[] -> ∀ p,H p=none->Q (.ref p) (upd H p (.tup (xs++ys))))
theorem Vals.nil_iff {xs:List V} {us:List gV} (r:Vals xs us):us=[]↔xs=[]:=by
 cases r with
 | nil=>simp
 | cons _ _=>simp
theorem op_catT:OpR X (I9 .Add) (xZ X.K):=by
 intro pins s σ H x y v u Q I rx ry h;obtain ⟨a,b,xs,ys,rfl,rfl,J,L,hx,F,O,U⟩:=h
 cases rx
 cases ry
 obtain ⟨its,B,Y,_⟩:=I.tuple J;obtain ⟨G,j,p2,_⟩:=I.tuple L;refine HT.cat_tup Y p2 (fun z=>hx (B.nil_iff.mp z)) (fun z=>⟨.ref a,H,I,rfl,O (j.nil_iff.mp z)⟩) (fun z => ?_) (by rw [<- B.length, <- j.length];exact F)
 refine ⟨.ref s.heap.objs.size,_,I.laid (t':=s.toks) (o := .tup (xs++ys)) (fun b ob q=>h6 _ q) (Gi _) ?_,rfl,U (fun w=>z (j.nil_iff.mpr w)) _ (I.hok.fresh (Gi _))⟩;exact ⟨by rw [D2];exact F,_,B.append j,L5 _ _⟩
end
end
section
noncomputable def ixN (n:Nat) (i:Int):Option Nat:=if 0<=i then (if i < n then some i.toNat else none) else if -(n:Int)<=i then some (i+n).toNat else none
noncomputable def atI {α:Type} (xs:List α) (i:Int):Option α := (ixN xs.length i).bind fun j=>xs[j]?
theorem pM {n:Nat} {i:Int} {j:Nat} (h:ixN n i=some j):seqIndex? i n=some j/\j < n /\ -(n:Int)<=i/\i < n:=by
 unfold ixN at h
 by_cases h0 : 0<=i
 ·rw [if_pos h0] at h
  by_cases h1:i < n
  ·rw [if_pos h1] at h;have e:i.toNat=j:=Ig.inj h;exact ⟨by rw [Nq h0 h1,e],by omega,by omega,h1⟩
  ·rw [if_neg h1] at h;cases h
 ·rw [if_neg h0] at h
  by_cases h1 : -(n:Int)<=i
  ·rw [if_pos h1] at h;have e:(i+n).toNat=j:=Ig.inj h;exact ⟨by rw [MM (by omega) h1,e],by omega,h1,by omega⟩
  ·rw [if_neg h1] at h;cases h
theorem jO {α:Type} {xs:List α} {i:Int} {v : α} (h:atI xs i=some v):∃ j,seqIndex? i xs.length=some j/\xs[j]? = some v/\j < xs.length /\ -(xs.length:Int)<=i/\i < xs.length:=by
 unfold atI at h
 cases e:ixN xs.length i with
 | none=>rw [e] at h;cases h
 | some j =>
   rw [e] at h;obtain ⟨h1,h2,q,z⟩:=pM e;exact ⟨j,h1,h,h2,q,z⟩
def jP (b:Expr):Prop := ∀ o i,subscripted b false o i=operate [o,i] (Me o i)
def IxR (X:Cx) (r:R2):Prop :=
 ∀ (value slice:Expr) (pins:List (Addr×Obj)) (s:h7) (σ:St) (H:Hp) (x y:V) (v u:gV) (Q:VK),Inv X pins σ H s->RelV x v->RelV y u->r x y H Q ->
  subscripted slice false v u=operate [v,u] (Me v u)->Gm (model X.prog X.w) X.A (subscriptTail value slice v u) (EP X pins σ Q) X.xe s
def MtR (X:Cx) (id:String) (r:V->List V->Hp->VK->Prop):Prop :=
 ∀ (pins:List (Addr×Obj)) (s:h7) (σ:St) (H:Hp) (x:V) (xs:List V) (v:gV) (us:List gV) (Q:VK),Inv X pins σ H s->RelV x v->Vals xs us->r x xs H Q ->
  Gm (model X.prog X.w) X.A (call (.builtin id) (v::us)) (EP X pins σ Q) X.xe s
section
variable {X:Cx} {a b:Expr} {ta tb:TE} {pos:Pos}
theorem IxR.or {r r':R2} (h:IxR X r) (h':IxR X r'):IxR X (fun x y H Q=>r x y H Q∨r' x y H Q):=by
 intro value slice pins s σ H x y v u Q I rx ry q hs
 rcases q with q | q
 ·exact h value slice pins s σ H x y v u Q I rx ry q hs
 ·exact h' value slice pins s σ H x y v u Q I rx ry q hs
theorem CJ {r:R2} (j:IxR X r) (z:PE X a ta) (B:PE X b tb) (hs:jP b):PE X (.Subscript a b pos) (tOp r ta tb):=by
 intro pins s σ H Q I h;exact Subscript_ (vG z B I h fun v u s2 x y H2 F rx ry q=>j a b pins s2 σ H2 x y v u Q F rx ry q (hs _ _))
noncomputable def DM (K:Frag):R2:=fun x y H Q => ∃ p xs i v,x = .ref p/\y = .int i/\SqL K H p xs/\atI xs i=some v/\Q v H
noncomputable def DN (K:Frag):R2:=fun x y H Q => ∃ p xs i v,x = .ref p/\y = .int i/\SqT K H p xs/\atI xs i=some v/\Q v H
theorem ix_list:IxR X (DM X.K):=by
 intro value slice pins s σ H x y v u Q I rx ry h hs;obtain ⟨p,xs,i,z,rfl,rfl,F,he,q⟩:=h
 cases rx
 obtain ⟨t,rfl⟩:=ry;obtain ⟨its,r,pl,O⟩:=I.list F;obtain ⟨j,h1,h2,U,G,J⟩:=jO he;obtain ⟨w,ew,rw'⟩:=r.get h2;have L:=r.length;have Y:=eB;have fin:EP X pins σ Q w s:=⟨z,H,I,rw',q⟩
 by_cases h0 : 0<=i
 ·have B:i.toNat=j:=by
   rw [Nq h0 J] at h1;exact Ig.inj h1
  exact item_listR pl.isList h0 (by omega) (by rw [B];simpa using ew) fin hs
 ·have B:(i+(its.toArray.size:Int)).toNat=j:=by
   rw [MM (by omega) G] at h1
   rw [Gf, <- L];exact Ig.inj h1
  exact MN (x:=w) pl.isList.typeIs slot_list_getitem.lookup
   (MP (Q:=fun r s'=>r=w/\EP X pins σ Q r s') pl.isList (by omega) (by rw [Gf] <;> omega) (by omega) (by rw [B];simpa using ew) ⟨rfl,fin⟩) hs
theorem ix_tup:IxR X (DN X.K):=by
 intro value slice pins s σ H x y v u Q I rx ry h hs;obtain ⟨p,xs,i,z,rfl,rfl,B,he,q⟩:=h
 cases rx
 obtain ⟨t,rfl⟩:=ry;obtain ⟨its,r,pl,G⟩:=I.tuple B;obtain ⟨j,h1,h2,J,L,O⟩:=jO he;obtain ⟨w,ew,rw'⟩:=r.get h2;have F:=r.length;have U:=eB;have fin:EP X pins σ Q w s:=⟨z,H,I,rw',q⟩;exact MN (x:=w) pl.typeIs slot_tuple_getitem.lookup
  (getItem_tuple (j:=j) (Q:=fun r s'=>r=w/\EP X pins σ Q r s') pl (by omega) (by omega) (by rw [Gf, <- F];exact h1) (by simpa using ew) ⟨rfl,fin⟩) hs
theorem r0 (its:List gV) (n j:Nat) (u:gV):Ja (·.setIfInBounds j u) { cls := .type "list",data := .seq its.toArray n } = { cls := .type "list",data := .seq (its.set j u).toArray n }:=by
 simp [Ja]
theorem Inv.lst {pins:List (Addr×Obj)} {σ:St} {H:Hp} {s:h7} {p:Addr} {xs:List V} (I:Inv X pins σ H s) (h:H p=some (.lst xs)) :
 ∃ (its:List gV) (n:Nat),Vals xs its/\s.heap.get? p=some { cls := .type "list",data := .seq its.toArray n }/\xs.length<=Gg:=by
 obtain ⟨z,its,n,r,e⟩:=I.hok p _ h;exact ⟨its,n,r,e,z⟩
theorem Inv.lstUpd {pins:List (Addr×Obj)} {σ:St} {H:Hp} {s:h7} {p:Addr} {xs ys:List V} {its its':List gV} {n n':Nat} {f:Obj->Obj} (I:Inv X pins σ H s) (h:H p=some (.lst xs))
 (ho:s.heap.get? p=some { cls := .type "list",data := .seq its.toArray n }) (hf:f { cls := .type "list",data := .seq its.toArray n } = { cls := .type "list",data := .seq its'.toArray n' }) (r:Vals ys its') (j:ys.length<=Gg) (t:Nat) :
 Inv X pins σ (upd H p (.lst ys)) { s with heap:=s.heap.update p f,toks:=t }:=by
 have e:(s.heap.update p f).get? p=some { cls := .type "list",data := .seq its'.toArray n' }:=by
  rw [Ng f ho (by rw [hf] <;> rfl),hf]
 refine I.write (x:=p) (e:=p) (by rw [h];trivial) (.inl rfl) (fun b u z q=>(MQ _ _ (Ne.symm z)).trans q) ⟨_,e⟩ ?_
 exact ⟨j,its',n',r,e⟩
noncomputable def y7:V->V->V->Hp->(Hp->Prop)->Prop:=fun o i v H Q => ∃ p xs k j,o = .ref p/\i = .int k/\H p=some (.lst xs)/\ixN xs.length k=some j/\Q (upd H p (.lst (xs.set j v)))
theorem mG:PSet X y7:=by
 intro pins s σ H o i v ov iv u Q I ro ri rv h;obtain ⟨p,xs,k,j,rfl,rfl,F,L,q⟩:=h
 cases ro
 obtain ⟨t,rfl⟩:=ri;obtain ⟨its,n,r,ho,O⟩:=I.lst F;obtain ⟨h1,h2,G,J⟩:=pM L;have z:=r.length;have U:=eB;have I':Inv X pins σ (upd H p (.lst (xs.set j v))) { s with heap:=s.heap.update p (Ja (·.setIfInBounds j u)) } :=
  I.lstUpd F ho (r0 its n j u) (r.set rv j) (by rw [N6];exact O) s.toks
 by_cases h0 : 0<=k
 ·have B:k.toNat=j:=by
   rw [Nq h0 J] at h1;exact Ig.inj h1
  exact PySem.W.ki_setAt ho h0 (by omega) (by rw [Gf, <- z];exact J) (by rw [B];exact ⟨_,I',q⟩)
 ·have B:(k+(its.toArray.size:Int)).toNat=j:=by
   rw [MM (by omega) G] at h1
   rw [Gf, <- z];exact Ig.inj h1
  exact PySem.W.ki_setBack ho (by omega) (by rw [Gf, <- z];exact G) (by omega) (by rw [B];exact ⟨_,I',q⟩)
theorem mH (lo hi:Option Int) (n:Nat):(KD lo hi none n).1=((HT.sIx n 0 lo:Nat):Int)/\(KD lo hi none n).2.1=((HT.sIx n n hi:Nat):Int)/\(KD lo hi none n).2.2=1:=by
 refine ⟨?_, ?_,rfl⟩
 ·cases lo with
  | none=>simp [KD,HT.sIx]
  | some i =>
    simp only [KD,HT.sIx,OL,show (1:Int) > 0 by decide,if_true]
    by_cases h:i < 0
    ·simp only [h,if_true] <;> omega
    ·simp only [h,if_false] <;> omega
 ·cases hi with
  | none=>simp [KD,HT.sIx]
  | some i =>
    simp only [KD,HT.sIx,OL,show (1:Int) > 0 by decide,if_true]
    by_cases h:i < 0
    ·simp only [h,if_true] <;> omega
    ·simp only [h,if_false] <;> omega
theorem lQ (its:List gV) (lo hi:Option Int):slicePick its.toArray lo hi none=((its.drop (HT.sIx its.length 0 lo)).take (HT.sIx its.length its.length hi - HT.sIx its.length 0 lo)).toArray:=by
 obtain ⟨h1,h2,j⟩:=mH lo hi its.toArray.size;unfold slicePick;rw [h1,h2,j];simp only [sliceRange_one,pick_run,Gf] <;> rfl
noncomputable def DO (K:Frag):V->Option Int->Option Int->Hp->VK->Prop:=fun x lo hi H Q => ∃ a xs,x = .ref a/\SqL K H a xs /\ ∀ p,H p=none->Q (.ref p) (upd H p (.lst (fE xs lo hi)))
theorem sl_list:SlR X (DO X.K):=by
 intro pins s σ H x v vl vu lo hi sl Q I rx hs pl pu h;obtain ⟨a,xs,rfl,hx,q⟩:=h
 cases rx
 obtain ⟨its,r,j,z⟩:=I.list hx;have hlen:=r.length;refine ⟨"list",_,slot_list_getitem.lookup,j.isList.typeIs, ?_⟩;refine wpAny_getItem_list_slice j.isList hs pl pu .none (by simp) ?_ (by rw [Gf] <;> omega)
 rw [lQ, <- hlen];refine ⟨.ref s.heap.objs.size,_,I.laid (t':=s.toks) (o := .lst (fE xs lo hi)) (fun b ob q=>h6 _ q) (Gi _) ?_,rfl,q _ (I.hok.fresh (Gi _))⟩;exact ⟨J1 (hW xs lo hi) z,_,0,(r.drop (HT.sIx xs.length 0 lo)).take (HT.sIx xs.length xs.length hi - HT.sIx xs.length 0 lo),Gh _ rfl⟩
noncomputable def cU:V->Bool
 | .non=>true
 | .bl _=>true
 | .int _=>true
 | .str _=>true
 | _=>false
noncomputable def eqV:V->V->Bool
 | .non, .non=>true
 | .bl a, .bl b=>a==b
 | .bl a, .int b=>(if a then 1 else 0)==b
 | .int a, .bl b=>a==(if b then 1 else 0)
 | .int a, .int b=>a==b
 | .str a, .str b=>a==b
 | _,_=>false
theorem B2 {A:Hg} {s:h7} {y x:V} {u v:gV} (ry:RelV y u) (rx:RelV x v) (fy:cU y=true) (fx:cU x=true):SeqAt.EqAt A s u v (eqV y x):=by
 cases y with
 | non =>
   cases ry
   cases x with
   | non=>cases rx;exact SeqAt.EqAt.same _
   | bl b=>cases rx;exact SeqAt.EqAt.none_bool b
   | int b=>obtain ⟨t,rfl⟩:=rx;exact SeqAt.EqAt.none_int b t
   | str b=>obtain ⟨t,rfl⟩:=rx;exact SeqAt.EqAt.none_str b t
   | _=>exact absurd (show false=true from fx) Gb
 | bl a =>
   cases ry
   cases x with
   | non=>cases rx;exact SeqAt.EqAt.bool_none a
   | bl b=>cases rx;exact SeqAt.EqAt.bool_bool a b
   | int b=>obtain ⟨t,rfl⟩:=rx;exact SeqAt.EqAt.bool_int a b t
   | str b=>obtain ⟨t,rfl⟩:=rx;exact SeqAt.EqAt.bool_str a b t
   | _=>exact absurd (show false=true from fx) Gb
 | int a =>
   obtain ⟨t',rfl⟩:=ry
   cases x with
   | non=>cases rx;exact SeqAt.EqAt.int_none a t'
   | bl b=>cases rx;exact SeqAt.EqAt.int_bool a t' b
   | int b=>obtain ⟨t,rfl⟩:=rx;exact SeqAt.EqAt.int_int a t' b t
   | str b=>obtain ⟨t,rfl⟩:=rx;exact Oc a t' b t
   | _=>exact absurd (show false=true from fx) Gb
 | str a =>
   obtain ⟨t',rfl⟩:=ry
   cases x with
   | non=>cases rx;exact SeqAt.EqAt.str_none a t'
   | bl b=>cases rx;exact SeqAt.EqAt.str_bool a t' b
   | int b=>obtain ⟨t,rfl⟩:=rx;exact Od a t' b t
   | str b=>obtain ⟨t,rfl⟩:=rx;exact SeqAt.EqAt.str_str a t' b t
   | _=>exact absurd (show false=true from fx) Gb
 | _=>exact absurd (show false=true from fy) Gb
noncomputable def eqU (x:V) (u:gV):Bool:=match u with
 | .none=>eqV .non x
 | .bool b=>eqV (.bl b) x
 | .int i _=>eqV (.int i) x
 | .str z _=>eqV (.str z) x
 | _=>false
theorem t5 {x y:V} {u:gV} (r:RelV y u) (f:cU y=true):eqU x u=eqV y x:=by
 cases y with
 | non=>cases r;rfl
 | bl b=>cases r;rfl
 | int i=>obtain ⟨t,rfl⟩:=r;rfl
 | str z=>obtain ⟨t,rfl⟩:=r;rfl
 | _=>exact absurd (show false=true from f) Gb
theorem jQ {x:V}:∀ {xs:List V} {us:List gV},Vals xs us->xs.all cU=true->us.any (eqU x)=xs.any fun y=>eqV y x
 | _,_, .nil,_=>rfl
 | y::xs,u::us, .cons r t,f=>by
   rw [JN,hH] at f;rw [IF,IF,t5 r f.1,jQ t f.2]
theorem il {A:Hg} {s:h7} {x:V} {v:gV} (rx:RelV x v) (fx:cU x=true):∀ {xs:List V} {us:List gV},Vals xs us->xs.all cU=true -> ∀ u∈us,SeqAt.EqAt A s u v (eqU x u)
 | _,_, .nil,_=>fun u j=>by cases j
 | y::xs,u::us, .cons r t,f=>fun u' j=>by
   rw [JN,hH] at f
   rcases Gj.mp j with rfl | j
   ·rw [t5 r f.1];exact B2 r rx f.1 fx
   ·exact il rx fx t f.2 u' j
noncomputable def inV (x:V) (xs:List V):Bool:=xs.any fun y=>eqV y x
noncomputable def rIn (K:Frag) (neg:Bool):R2:=fun x y H Q => ∃ p xs,y = .ref p/\(SqL K H p xs∨SqT K H p xs)/\cU x=true/\xs.all cU=true/\Q (.bl (if neg then !inV x xs else inV x xs)) H
theorem t6:OpR X (I7 .In) (rIn X.K false):=by
 intro pins s σ H x y v u Q I rx ry h;obtain ⟨p,xs,rfl,j,fx,fs,q⟩:=h
 cases ry
 rcases j with j | j
 ·obtain ⟨its,r,pl,z⟩:=I.list j;refine SeqAt.in_listAt (eqU x) pl.isList (fun w hw=>il rx fx r fs w (by simpa using hw)) ⟨.bl _,H,I,rfl, ?_⟩
  rw [show its.toArray.any (eqU x)=its.any (eqU x) by simp,jQ r fs]
  exact q
 ·obtain ⟨its,r,pl,z⟩:=I.tuple j;refine SeqAt.in_tupleAt (eqU x) pl (fun w hw=>il rx fx r fs w (by simpa using hw)) ⟨.bl _,H,I,rfl, ?_⟩
  rw [show its.toArray.any (eqU x)=its.any (eqU x) by simp,jQ r fs]
  exact q
theorem lU:CallR X (.type "tuple") (fun xs H Q => ∃ p ys,xs=[.ref p]/\((SqL X.K H p ys /\ ∀ l,H l=none->Q (.ref l) (upd H l (.tup ys)))∨(SqT X.K H p ys/\Q (.ref p) H))):=by
 intro pins s σ H xs us Q I r h;obtain ⟨p,ys,rfl,h⟩:=h;obtain ⟨u,rfl,rx⟩:=dM r
 cases rx
 rcases h with ⟨j,q⟩ | ⟨j,q⟩
 ·obtain ⟨its,r',pl,z⟩:=I.list j;have hlen:=r'.length;refine call_tuple_list pl.isList (fun h' kp => ?_) (by simp only [Gf] <;> omega)
  have B:Inv X pins σ H { s with heap:=h' }:=I.kept (t':=s.toks) kp
  have F:Inv X pins σ (upd H h'.objs.size (.tup ys)) { s with heap:=h'.push { cls := .type "tuple",data := .seq its.toArray } } :=
   B.laid (t':=s.toks) (fun b o e=>h6 _ e) (Gi _) (show ObjOk X.prog X.w _ _ _ (.tup ys) from ⟨z,its,r',L5 _ _⟩)
  exact ⟨.ref h'.objs.size,_,F,rfl,q _ (B.hok.fresh (Gi _))⟩
 ·obtain ⟨its,r',pl,z⟩:=I.tuple j;exact call_tuple_same pl ⟨.ref p,H,I,rfl,q⟩
def tyV (K:Frag) (T:String) (x:V) (H:Hp):Prop:=match x with
 | .str _=>T = "str"
 | .int _=>T = "int"
 | .ref p=>(T = "list" /\ ∃ xs,SqL K H p xs)∨(T = "tuple" /\ ∃ o,K.lookup p=some o/\o.cls = .type "tuple" /\ o.dict=none) ∨
  (T = "dict" /\ ((∃ kvs,H p=some (.dK kvs)) ∨ ∃ kvs,H p=some (.dT kvs)))∨(T = "set" /\ ∃ S n,H p=some (.set S n))
 | _=>False
theorem t7 {pins:List (Addr×Obj)} {σ:St} {H:Hp} {s:h7} {T:String} {x:V} {v:gV} (I:Inv X pins σ H s) (r:RelV x v) (ty:tyV X.K T x H) :
 s.TypeIs v T /\ ∀ a,v = .ref a -> ∃ ob,s.heap.get? a=some ob/\ob.dict=none:=by
 cases x with
 | str z =>
   obtain ⟨t,rfl⟩:=r
   cases (show T = "str" from ty)
   exact ⟨typeIs_str s z t,fun _ e=>nomatch e⟩
 | int i =>
   obtain ⟨t,rfl⟩:=r
   cases (show T = "int" from ty)
   exact ⟨MR s i t,fun _ e=>nomatch e⟩
 | ref p =>
   cases r
   rcases ty with ⟨rfl,xs,q⟩ | ⟨rfl,o,j,B,hd⟩ | ⟨rfl,j⟩ | ⟨rfl,S,n,j⟩
   ·obtain ⟨its,_,pl,_⟩:=I.list q;refine ⟨pl.isList.typeIs,fun a e => ?_⟩
    cases e
    obtain ⟨o,n,e,c,hd,_⟩:=pl;exact ⟨o,e,hd⟩
   ·refine ⟨⟨o,I.kIn p o j,B⟩,fun a e => ?_⟩
    cases e
    exact ⟨o,I.kIn _ o j,hd⟩
   ·have z:∃ o,s.heap.get? p=some o/\o.ExactDict:=by
     rcases j with ⟨kvs,j⟩ | ⟨kvs,j⟩
     ·obtain ⟨_,_,_,_,o,_,_,e,ex,_⟩:=I.hok p _ j;exact ⟨o,e,ex⟩
     ·obtain ⟨_,_,_,_,o,_,_,e,ex,_⟩:=I.hok p _ j;exact ⟨o,e,ex⟩
    obtain ⟨o,e,ex⟩:=z;refine ⟨⟨o,e,ex.1⟩,fun a e2 => ?_⟩
    cases e2
    exact ⟨o,e,ex.2.1⟩
   ·obtain ⟨o,_,_,_,e,ex,_⟩:=I.hok p _ j;refine ⟨⟨o,e,ex.1⟩,fun a e2 => ?_⟩
    cases e2
    exact ⟨o,e,ex.2.1⟩
 | _=>exact False.elim ty
noncomputable def B3 (K:Frag) (T:String) (r:V->List V->Hp->VK->Prop) (to:TE):TE:=fun σ H Q=>to σ H fun x H1=>tyV K T x H1/\r x [] H1 Q
noncomputable def tBM (K:Frag) (T:String) (r:V->List V->Hp->VK->Prop) (to:TE) (t:TA):TE:=fun σ H Q=>to σ H fun x H1=>tyV K T x H1/\t σ H1 fun xs H2=>r x xs H2 Q
variable {o e:Expr} {es:List Expr} {to:TE} {t:TA} {name:Str} {apos cpos:Pos} {T id:String} {r:V->List V->Hp->VK->Prop}
theorem t8 (pa:PlainAttrs T) (slot:Slot T name id) (z:typeOf (.builtin id)=pure (.type "method_descriptor")) (hm:MtR X id r) (ho:PE X o to)
 (j:Kg o name X.env (eval o X.env)=eval o X.env:=by rfl) (q:(apos.endLine==cpos.line)=true:=by rfl):PE X (.Call (.Attribute o name apos) [] [] cpos) (B3 X.K T r to):=by
 intro pins s σ H Q I h;refine KG j q (thn (ho pins s σ H _ I h) fun v s1 ⟨x,H1,B,F,ty,G⟩ => ?_);obtain ⟨h1,h2⟩:=t7 B F ty;exact ⟨T,id,pa,slot,z,h1,h2,J2 rfl (LB (hm pins s1 σ H1 x [] v [] Q B F .nil G))⟩
theorem CK (pa:PlainAttrs T) (slot:Slot T name id) (F:typeOf (.builtin id)=pure (.type "method_descriptor")) (hm:MtR X id r) (ho:PE X o to) (O:PA X (e::es) t)
 (q:Kg o name X.env (eval o X.env)=eval o X.env:=by rfl)
 (B:((KI cpos (GN (e::es) X.env)).all (fun x => !x.1)&&(backToKw cpos (P4 [] X.env)).all (fun x=>x.1.isSome)
   && decide ((e::es).length+([]:List MU).length+(if ([]:List MU).isEmpty then 0 else 1) < 30))=true:=by rfl)
 (z:(apos.endLine==cpos.line)=true:=by rfl) (hs:GN (e::es) X.env=(false,eval e X.env)::GN es X.env:=by rfl) (j:(KI cpos (GN es X.env)).any (·.1)=false:=by rfl) :
 PE X (.Call (.Attribute o name apos) (e::es) [] cpos) (tBM X.K T r to t):=by
 intro pins s σ H Q I h;refine wpAny_Call_method_late q B z rfl (thn (ho pins s σ H _ I h) fun v s1 ⟨x,H1,G,J,ty,U⟩ => ?_);obtain ⟨h1,h2⟩:=t7 G J ty;refine ⟨T,id,pa,slot,F,h1,h2, ?_⟩;have L:=O cpos pins s1 σ H1 _ G U;rw [hs] at L ⊢;refine J2 (by show (false || (KI cpos (GN es X.env)).any (·.1))=false;rw [j] <;> rfl) (Nr ?_)
 exact thn L fun us s2 ⟨vs,H2,Y,Z,q2⟩=>hm pins s2 σ H2 x vs v us Q Y J Z q2
end
end
section
def MtM (X:Cx) (id:String) (r:V->List V->Hp->VK->Prop):Prop :=
 ∀ (pins:List (Addr×Obj)) (s:h7) (σ:St) (H:Hp) (x:V) (xs:List V) (v:gV) (us:List gV) (Q:VK),Inv X pins σ H s->RelV x v->Vals xs us->r x xs H Q ->
  Gm (model X.prog X.w) X.A (call (.builtin id) (v::us)) (EP X pins σ Q) X.xe s
theorem Vals.one:∀ {x:V} {us:List gV},Vals [x] us -> ∃ u,us=[u]/\RelV x u
 | _,_, .cons r .nil=>⟨_,rfl,r⟩
theorem Vals.zero:∀ {us:List gV},Vals [] us->us=[]
 | _, .nil=>rfl
theorem Vals.dropLast {xs:List V} {us:List gV} (h:Vals xs us):Vals xs.dropLast us.dropLast:=by
 induction h with
 | nil=>exact .nil
 | cons r t ih =>
   cases t with
   | nil=>exact .nil
   | cons q t'=>exact .cons r ih
theorem Vals.rep {xs:List V} {us:List gV} (h:Vals xs us):∀ k:Nat,Vals (D1 k xs).flatten (D1 k us).flatten
 | 0 => .nil
 | k+1=>by
   rw [Hq,Hq,Hv,Hv];exact Vals.append h (Vals.rep h k)
theorem r6 {α:Type} (l:List α):l.eraseIdx (l.length - 1)=l.dropLast:=by
 induction l with
 | nil=>rfl
 | cons a r ih =>
   cases r with
   | nil=>rfl
   | cons b r =>
     have e:(a::b::r).length - 1=((b::r).length - 1)+1:=by
      have h1:(a::b::r).length=r.length+2:=rfl;have h2:(b::r).length=r.length+1:=rfl;omega
     rw [e,List.eraseIdx_cons_succ,ih]
     all_goals rfl
theorem fF (its:List gV):∀ (k:Nat) (acc:List gV),
 L8 (fun x1 x2=>x1++x2) acc.toArray (D1 k its.toArray)=(acc++(D1 k its).flatten).toArray
 | 0,acc=>by simp
 | k+1,acc=>by
   have e:acc.toArray++its.toArray=(acc++its).toArray:=by simp
   have e2:(acc++its)++(D1 k its).flatten=acc++(D1 (k+1) its).flatten:=by
    rw [Hq,Hv,Gu]
   rw [<- e2, <- fF its k (acc++its), <- e,Hq,N7]
section
variable {X:Cx} {pins:List (Addr×Obj)} {σ:St} {H:Hp} {s:h7} {l b:Addr} {xs ys zs:List V}
theorem Inv.lset {its its':List gV} {n:Nat} {f:Array gV->Array gV} {t':Nat} (I:Inv X pins σ H s) (j:H l=some (.lst xs))
 (e:s.heap.get? l=some { cls := .type "list",data := .seq its.toArray n }) (hf:f its.toArray=its'.toArray) (z:Vals ys its') (B:ys.length<=Gg) :
 Inv X pins σ (upd H l (.lst ys)) { s with heap:=s.heap.update l (Ja f),toks:=t' }:=by
 have q:=PySem.IsL.update e f;rw [hf] at q;refine I.write (x:=l) (e:=l) (by rw [j];exact trivial) (.inl rfl) (fun b' u F G=>(MQ s.heap (Ja f) (Ne.symm F)).trans G) ⟨_,q⟩ ?_
 exact ⟨B,its',_,z,q⟩
theorem Inv.lnew {its:List gV} {t':Nat} (I:Inv X pins σ H s) (j:Vals ys its) (z:ys.length<=Gg) :
 Inv X pins σ (upd H s.heap.objs.size (.lst ys)) { s with heap:=s.heap.push { cls := .type "list",data := .seq its.toArray },toks:=t' } :=
 I.laid (fun _ _ q=>h6 _ q) (Gi _) ⟨z,its,0,j,Gh _ rfl⟩
theorem Inv.fresh (I:Inv X pins σ H s):H s.heap.objs.size=none:=I.hok.fresh (Gi _)
theorem Inv.lstM (I:Inv X pins σ H s) (j:H l=some (.lst xs)):xs.length<=Gg /\ ∃ (its:List gV) (n:Nat),Vals xs its/\xs.length=its.length/\s.heap.get? l=some { cls := .type "list",data := .seq its.toArray n }:=by
 obtain ⟨z,its,n,r,e⟩:=I.hok l _ j;exact ⟨z,its,n,r,r.length,e⟩
theorem mJ {n:Nat} (h:n<=Gg):Jt n=false:=by
 unfold Jt;exact decide_eq_false (by omega)
end
section
variable {X:Cx}
noncomputable def pN:V->List V->Hp->VK->Prop:=fun x vs H Q => ∃ l xs y,x = .ref l/\vs=[y]/\H l=some (.lst xs)/\xs.length < Gg/\Q .non (upd H l (.lst (xs++[y])))
theorem kJ:MtM X "list.append" pN:=by
 intro pins s σ H x vs v us Q I rx rv h;obtain ⟨l,xs,y,rfl,rfl,j,B,q⟩:=h
 cases rx
 obtain ⟨u,rfl,ru⟩:=rv.one;obtain ⟨z,its,n,r,G,e⟩:=I.lstM j;refine JW F.slot_list_append ⟨_,e,rfl⟩ F.entry_list_append (F.args_list_append_2 _ _) (PySem.list_append l its.toArray n u (by rw [Gf];omega)) ⟨e, ?_⟩
 refine ⟨.non,_,I.lset (its':=its++[u]) j e (by simp) (r.append (.cons ru .nil)) ?_,rfl,q⟩
 rw [D2,I8];omega
noncomputable def B4:V->List V->Hp->VK->Prop:=fun x vs H Q => ∃ l xs y,x = .ref l/\vs=[]/\H l=some (.lst xs)/\xs[xs.length - 1]? = some y/\Q y (upd H l (.lst xs.dropLast))
theorem B5:MtM X "list.pop" B4:=by
 intro pins s σ H x vs v us Q I rx rv h;obtain ⟨l,xs,y,rfl,rfl,G,J,q⟩:=h
 cases rx
 have j:=rv.zero;subst j;obtain ⟨z,its,n,r,L,e⟩:=I.lstM G;obtain ⟨u,O,ru⟩:=r.get J;have B:its.toArray[its.toArray.size - 1]? = some u:=by
  show its.toArray[its.length - 1]? = some u;rw [<- GC, <- L];exact O
 refine JW F.slot_list_pop ⟨_,e,rfl⟩ F.entry_list_pop (F.args_list_pop_1 _) (MeetsSeq.list_pop_last l its.toArray n u B (by rw [Gf];omega)) ⟨e, ?_⟩
 refine ⟨y,_,I.lset (its':=its.dropLast) G e ?_ r.dropLast ?_,ru,q⟩
 ·show its.toArray.eraseIdxIfInBounds (its.toArray.size - 1)=its.dropLast.toArray;rw [Gf,List.eraseIdxIfInBounds_toArray,r6]
 ·rw [List.length_dropLast];omega
noncomputable def t9:V->List V->Hp->VK->Prop:=fun x vs H Q => ∃ l xs,x = .ref l/\vs=[]/\H l=some (.lst xs)/\Q .non (upd H l (.lst []))
theorem vP:MtM X "list.clear" t9:=by
 intro pins s σ H x vs v us Q I rx rv h;obtain ⟨l,xs,rfl,rfl,B,q⟩:=h
 cases rx
 have j:=rv.zero;subst j;obtain ⟨z,its,n,r,G,e⟩:=I.lstM B;refine JW F.slot_list_clear ⟨_,e,rfl⟩ F.entry_list_clear (F.args_list_clear_1 _) (AutoSeq1.list_clear_list_0 l its.toArray n (by rw [Gf];omega)) ⟨e, ?_⟩
 exact ⟨.non,_,I.lset (its' := []) (ys := []) B e rfl .nil (Ih _),rfl,q⟩
noncomputable def DP:R2:=fun x y H Q => ∃ l b xs zs,x = .ref l/\y = .ref b/\H l=some (.lst xs)/\H b=some (.lst zs)/\xs.length+zs.length<=Gg /\ ∀ p,H p=none->Q (.ref p) (upd H p (.lst (xs++zs)))
theorem op_cat:OpR X (I9 .Add) DP:=by
 intro pins s σ H x y v u Q I rx ry h;obtain ⟨l,b,xs,zs,rfl,rfl,B,F,L,q⟩:=h
 cases rx
 cases ry
 obtain ⟨z,its,n,r,O,e⟩:=I.lstM B;obtain ⟨U,j,Y,G,J,e2⟩:=I.lstM F;refine PySem.P.add_list e e2 ?_ (by rw [Gf,Gf];omega)
 have ea:its.toArray++j.toArray=(its++j).toArray:=by simp
 rw [ea];exact ⟨.ref _,_,I.lnew (t':=s.toks) (r.append G) (by rw [D2];omega),rfl,q _ I.fresh⟩
noncomputable def DQ:R2:=fun x y H Q => ∃ l k xs,x = .ref l/\y = .int k/\H l=some (.lst xs) /\ -(2 ^ 63)<=k/\k < 2 ^ 63/\xs.length*k.toNat<=Gg /\
 ∀ p,H p=none->Q (.ref p) (upd H p (.lst (D1 k.toNat xs).flatten))
theorem pO {α:Type} (xs:List α) (k:Nat):(D1 k xs).flatten.length=k*xs.length:=by
 induction k with
 | zero=>simp
 | succ k ih=>rw [Hq,Hv,D2,ih,Jj,Nat.add_comm]
theorem op_rep:OpR X (I9 .Mult) DQ:=by
 intro pins s σ H x y v u Q I rx ry h;obtain ⟨l,k,xs,rfl,rfl,O,h1,h2,L,q⟩:=h
 cases rx
 obtain ⟨t,rfl⟩:=ry;obtain ⟨z,its,n,r,Y,e⟩:=I.lstM O;have hlen:its.toArray.size*k.toNat<=Gg:=by rw [Gf, <- Y];exact L
 have B : ¬ its.toArray.size*k.toNat > (2 ^ 63 - 1) / 8:=by
  have:(Gg:Nat)<=(2 ^ 63 - 1) / 8:=by decide
  omega
 have G : ¬ (!Builtin.List.listFitsIndex k)=true:=by
  rw [fitsIndex_both h1 h2];exact Gb
 have j : ¬ Jt (its.toArray.size*k.toNat)=true:=by
  rw [mJ hlen];exact Gb
 have J:L8 (fun x1 x2=>x1++x2) #[] (D1 (if its.toArray.isEmpty=true then 0 else k.toNat) its.toArray)=(D1 k.toNat its).flatten.toArray:=by
  have f0:∀ m:Nat,L8 (fun x1 x2=>x1++x2) #[] (D1 m its.toArray)=(D1 m its).flatten.toArray:=fun m=>by
   have:=fF its m [];rw [Ls] at this;exact this
  rw [f0]
  cases its with
  | nil=>simp
  | cons a r'=>rw [if_neg (by simp)]
 refine LZ (T := "list") (U := "int") (by decide) ⟨_,e,rfl⟩ (fun s'=>MR s' k t) noFill_list_mul Pc Lu repeat_list F.slot_int_index.lookup
  (JW Lu (MR s k t) OM (Ov _ _) (int___rmul___int_list k t l its.toArray n)
    ⟨e,rfl,⟨_,e,rfl⟩,JW F.slot_list_mul ⟨_,e,rfl⟩ F.entry_list_mul (F.args_list_mul_2 _ _) (AutoListH.list___mul___list_int_3 l its.toArray n k t G B j) ⟨e, ?_⟩⟩)
 rw [J];exact ⟨.ref _,_,I.lnew (t':=s.toks) (r.rep k.toNat) (by rw [pO,Nat.mul_comm];exact L),rfl,q _ I.fresh⟩
end
end
end L2
namespace Att
open PySem PySem.W PySem.Calls PyProof.Rows
theorem iS {P:Params} {h:Heap}:∀ (ns:List Int) (vs:List gV),WellAll P h vs (ns.map WData.int)->JZ vs ns:=by
 intro ns
 induction ns with
 | nil =>
   intro vs w;rw [Ji] at w
   cases w
   exact .nil
 | cons n ns ih =>
   intro vs w;rw [Gr] at w
   cases w with
   | cons a b =>
     cases a
     exact .cons _ _ (ih _ b)
theorem tf {l:OpenLaw} {n:Nat} (O:l.most=some n) {P:Params} {h:Heap} {args:List WData} {vals:List gV}
 (j:l.row.toRowW.claim.pre args=true) (G:WellAll P h vals args) :
 ∃ a vs ns,vals=[GJ a]/\args=[WData.list (ns.map WData.int)]/\h.get? a=some { cls := .type "list",data := .seq vs.toArray }/\JZ vs ns/\ns.length<=n:=by
 have J:WShape.hasAll [] args [.list .int]=true:=(pre_splitW j).1;have L:l.pre.holds [] { args:=args }=true:=(pre_splitW j).2;obtain ⟨d,r,rfl,h1,h2⟩:=hasAllW_cons J;obtain rfl:=hasAllW_nil h2;obtain ⟨xs,rfl,U⟩:=hasW_list h1;obtain ⟨ns,rfl⟩:=items_int U;have hlen:ns.length<=n:=by
  unfold OpenLaw.pre at L;have B:(WTm.not (.lt (.lit (.int (n:Int))) (.len (.arg 0)))).holds [] { args := [.list (ns.map .int)] }=true:=by
   have B:=(holds_andW L).1;rw [O] at B;exact B
  have F:=condW_of B (w_not (w_lt w_lit (w_len_list (w_arg rfl))));rw [r3] at F;refine Nat.le_of_not_lt fun q => ?_;have q':(n:Int) < ((ns.length:Nat):Int):=by omega
  first
   | (rw [decide_eq_true q'] at F;exact absurd F (by decide))
   | (simp at F;omega)
 cases G with
 | cons Y Z =>
   cases Z
   cases Y with
   | list ho z=>exact ⟨_,_,ns,rfl,rfl,ho,iS ns _ z,hlen⟩
theorem tj (l:OpenLaw) (args:List WData):l.row.toRowW.claim.post args (.bool true) args=true :=
 postW_of (r:=l.row.toRowW) (X:=(true==true))
  (show WShape.has [] (.bool true) .bool=true by first | rfl | decide | simp [WShape.has,WShape.arms,WShape.armsAll])
  (show (WTm.eq .res (.lit (.bool true))).value [] { args:=args,res:=some (.bool true),after:=args }=some (.bool (true==true)) from w_eq_bool (w_res rfl) w_lit) rfl
theorem attach_call {l:OpenLaw} {n:Nat} {q:GI} {loose:List Str} {XP:(Str->Option gV)->Heap->Prop} {YP:Hf->Heap->Prop} {d:DefRec}
 (Z:l.most=some n) (B:d.params.defaults=[])
 (call:∀ (w:Hf) (s₀ s₁:h7) (mg mb:Str->Option gV) (fa:Addr) (o:Obj) (pm cd doc:gV) (a:Addr) (vs:List gV) (ns:List Int),
   Ground q loose [] XP w s₀ mg mb s₁.heap->YP w s₁.heap ->
   s₁.heap.get? fa=some o->o.data = .func (docDef d.name d.params d.body d.scope pm cd doc)->s₁.heap.CodeRec cd d.name->mg d.name=some (.ref fa) ->
   s₁.heap.get? a=some { cls := .type "list",data := .seq vs.toArray }->JZ vs ns->ns.length<=n->s₁.gens = #[] ->
   Lf (model l.prog w) NK (.call (.ref fa) ⟨[.ref a],[]⟩) (fun r s'=>r = .ok (.ret (.bool true))/\OldK s₁.heap s'.heap/\s'.os=s₁.os/\Mc s'.gens) s₁) :
 WalkO q loose XP YP l.row.toRowW d [] (fun f vs=>PF f vs):=by
 intro w s₀ s₁ mg mb G Y fa o pm cd doc dV kV ho hd F O J hg args vals as j U E3 L E4;obtain rfl:dV = .none:=Dflts.none O B;obtain rfl:kV = .none:=Dflts.noKw O;obtain ⟨a,vs,ns,rfl,rfl,z,hints,hlen⟩:=tf Z j L;refine enter_call (KJ (call w s₀ s₁ mg mb fa o pm cd doc a vs ns G Y ho (fd_plain hd) F J z hints hlen hg) fun r s' hq => ?_);obtain ⟨rfl,h2,h3,h4⟩:=hq;exact ⟨.inl ⟨.bool true, .bool true,[],rfl,fun _=>rfl, .bool true,tj l _,fun _=>⟨Mg,fun _ hm=>(nomatch hm)⟩⟩,h2,h3,h4⟩
section
variable {prog:GI} {w:Hf} {A:Hg} {E:gV->h7->Prop} {s:h7} {K:Frag}
noncomputable def E2 (h:Heap) (L d:Addr):List (Addr×Obj):=(D0 h.objs.size).filterMap fun a=>if a=L∨a=d then none else (h.get? a).map fun o=>(a,o)
end
end Att
namespace L2
open PySem PySem.Spec PyProof.Rows
section
theorem kK:∀ {vs:List gV} {ns:List Int},JZ vs ns->Vals (ns.map V.int) vs
 | _,_, .nil => .nil
 | _,_, .cons n t h => .cons ⟨t,rfl⟩ (kK h)
def r8 (H:Hp):Prop := ∀ b,H b=none ∨ ∃ o xs,H b=some (.frz o (.lst xs))
theorem vQ {P:GI} {w:Hf} {K:Frag} {mg mb:Str->Option gV} {CX:CXT} {k:Nat} {fa a:Addr} {fd:JU} {x:Str} {sp:Sp} {s₁:h7} {vs:List gV} {ns:List Int}
 (KX:K.In s₁.heap) (G:s₁.heap.Ns HK mg) (j:s₁.heap.Ns Pq mb) (Y:∀ x:Str,x ≠ "__name__" -> mb x=LC x) (J:s₁.heap.NoLimit) (hg:s₁.gens = #[])
 (U:s₁.heap.get? a=some { cls := .type "list",data := .seq vs.toArray }) (hi:JZ vs ns) (hl:ns.length<=Gg) (hr:Room k NK)
 (F:∀ base:Heap,K.In base->base.Ns HK mg->dv P w K mg base CX k fa fd [x] sp) (B:∀ (s:h7) (u:gV),Oq s fd ⟨[u],[]⟩ [(x,u)])
 (Z:∀ H:Hp,r8 H->SqL K H a (ns.map V.int)->sp [.ref a] H (fun v _=>v = .bl true) fun _ _ _=>False)
 (E3:∀ H e s',CX [] H s₁ (fun _ _ _=>False) e s'->False) :
 Lf (model P w) NK (.call (.ref fa) ⟨[.ref a],[]⟩) (fun r s'=>r = .ok (.ret (.bool true))/\OldK s₁.heap s'.heap/\s'.os=s₁.os/\Mc s'.gens) s₁ := by
 have rv:=kK hi;have lenV:=hi.length;have core:∀ H:Hp,r8 H->SqL K H a (ns.map V.int)->HOk P w H s₁.heap->(∀ b,H b≠none->b=a)->(H a≠none->K.lookup a=none) ->
  Lf (model P w) NK (.call (.ref fa) ⟨[.ref a],[]⟩) (fun r s'=>r = .ok (.ret (.bool true))/\OldK s₁.heap s'.heap/\s'.os=s₁.os/\Mc s'.gens) s₁ := by
  intro H hO hS hok hA hK;have base_of:∀ {b:Addr} {o:Obj},s₁.heap.get? b=some o->H b=none->(eN s₁.heap H).get? b=some o:=fun e n=>vA e n;have noA:∀ {b:Addr} {o:Obj} {es:Array HI} {ep:Nat},s₁.heap.get? b=some o->o.data = .dict es ep->H b=none:=fun {b o es ep} e d=>by
   cases q:H b with
   | none=>rfl
   | some u =>
     have e':b=a:=hA b (by rw [q];simp)
     subst e';rw [U] at e;cases e;have d':Jk vs.toArray _=Data.dict es ep:=d
     cases d'
  have nsK:∀ {b:Addr} {m:Str->Option gV},s₁.heap.Ns b m->(eN s₁.heap H).Ns b m:=fun {b m} ⟨o,es,ep,e,d,r⟩=>⟨o,es,ep,base_of e (noA e d),d,r⟩;have L:K.In (eN s₁.heap H):=fun b o e=>base_of (KX b o e) (by
   cases q:H b with
   | none=>rfl
   | some u =>
     have e':b=a:=hA b (by rw [q];simp)
     subst e';rw [hK (by rw [q];simp)] at e;cases e)
  have hM:Mod K mg (eN s₁.heap H):=⟨L,nsK G,⟨mb,nsK j,Y⟩,let ⟨mc,h1,h2⟩:=J; ⟨mc,nsK h1,h2⟩⟩;have e0:qW P w K mg (eN s₁.heap H) NK [] s₁ H:=⟨rfl,hM,fun b o e=>yD e,Nat.le_of_eq (sK _ _),trivial,fun b j=>absurd (show b∈([]:List Addr) from j) (by simp),hok, .of_eq hg⟩
  refine KJ ((F _ L (nsK G)).run NK [] s₁ H ⟨[.ref a],[]⟩ [.ref a] [.ref a] _ _ hr e0 (B s₁ (.ref a)) (.cons rfl .nil) (Z H hO hS)) fun r s' h => ?_
  cases r with
  | error e=>exact (E3 H e s' h).elim
  | ok fl =>
    cases fl with
    | next=>exact False.elim h
    | brk=>exact False.elim h
    | cont=>exact False.elim h
    | ret u =>
      obtain ⟨v,H',os,bare,un,O,r',q⟩:=h;have q':v = .bl true:=q;subst q';obtain rfl:u=Pp true:=r';refine ⟨rfl,OldK.of_keep fun b o e => ?_,os,bare⟩
      cases q:H b with
      | none=>exact un.keep b o e q (by intro z;exact absurd (show b∈([]:List Addr) from z) (by simp)) (by simp)
      | some u =>
        rcases hO b with z | ⟨ob,xs,z⟩
        ·rw [q] at z;cases z
        ·have z2:=un.frzs b ob _ z;obtain ⟨e1,_⟩:=hok b _ z;obtain ⟨e2,_⟩:=O b _ z2;rw [e] at e1;cases e1;exact e2
 cases hk:K.lookup a with
 | some o =>
   have e:=KX a o hk;rw [U] at e
   cases e
   refine core (fun _=>none) (fun _ => .inl rfl) (.inr ⟨_,vs.toArray,_,hk,rfl,rfl,rfl,by rw [Gf,lenV];exact hl,by simpa using rv⟩) (fun b u z=>by have z':(none:Option HO)=some u:=z;cases z') (fun b z=>absurd rfl z) fun z=>absurd rfl z
 | none =>
   refine core (fun b=>if b=a then some (.frz { cls := .type "list",data := .seq vs.toArray } (.lst (ns.map V.int))) else none) (fun b => ?_) (.inl (.inr ⟨{ cls := .type "list",data := .seq vs.toArray },if_pos rfl⟩)) (fun b u z => ?_) (fun b z => ?_) fun _=>hk
   ·by_cases j:b=a
    ·exact .inr ⟨_,_,if_pos j⟩
    ·exact .inl (if_neg j)
   ·by_cases j:b=a
    ·have z':=(if_pos j).symm.trans z
     cases z'
     subst j;exact ⟨U,by rw [r3];exact hl,vs,_,rv,U⟩
    ·have z':=(if_neg j).symm.trans z
     cases z'
   ·by_cases j:b=a
    ·exact j
    ·exact absurd (if_neg j) z
end
section
theorem walk_of {l:N8} {n k:Nat} {q:GI} {loose:List Str} {XP:(Str->Option gV)->Heap->Prop} {YP:Hf->Heap->Prop} {d:DefRec} {K:Params->Frag} {CX:Hf->CXT} {sp:Hf->Sp} {x:Str}
 (U:l.most=some n) (z:n<=Gg) (B:d.params.defaults=[]) (Z:Room k NK)
 (hY:∀ (w:Hf) (h:Heap),YP w h->(K w.params).In h)
 (F:∀ (w:Hf) (mg:Str->Option gV) (fa:Addr) (h:Heap),(K w.params).In h->h.Ns HK mg->mg d.name=some (.ref fa) ->
   ∃ fd:JU,(∀ (s:h7) (u:gV),Oq s fd ⟨[u],[]⟩ [(x,u)]) /\
    ∀ base:Heap,(K w.params).In base->base.Ns HK mg->dv l.prog w (K w.params) mg base (CX w) k fa fd [x] (sp w))
 (J:∀ (w:Hf) (H:Hp) (a:Addr) (ns:List Int),ns.length<=n->r8 H->SqL (K w.params) H a (ns.map V.int)->sp w [.ref a] H (fun v _=>v = .bl true) fun _ _ _=>False)
 (L:∀ (w:Hf) (H:Hp) (s:h7) (e:gV) (s':h7),CX w [] H s (fun _ _ _=>False) e s'->False) :
 PySem.W.WalkO q loose XP YP l.row.toRowW d [] (fun f vs=>PF f vs):=by
 refine Att.attach_call U B fun w s₀ s₁ mg mb fa o pm cd doc a vs ns G Y ho hd E3 O j hints hlen hg => ?_;have KX:=hY w _ Y;obtain ⟨fd,hb,hF⟩:=F w mg fa _ KX G.T.g O;exact vQ KX G.T.g G.T.b G.T.builtins G.T.nolimit hg j hints (J1 hlen z) Z hF hb (fun H hO hS=>J w H a ns hlen hO hS) fun H e s'=>L w H s₁ e s'
end
section
noncomputable def df (s:Stmt):Arguments:=match s with
 | .FunctionDef _ a _ _ _ _ _ _ _ _=>a
 | _ => { posonlyargs := [],args := [],vararg:=none,kwonlyargs := [],kw_defaults := [],kwarg:=none,defaults := [] }
noncomputable def bH (s:Stmt):List Stmt:=match s with
 | .FunctionDef _ _ b _ _ _ _ _ _ _=>b
 | _ => []
noncomputable def aw (s:Stmt):Scope:=match s with
 | .FunctionDef _ _ _ _ _ _ sc _ _ _=>sc
 | _ => { kind := .function,names := [],isGenerator:=false,isCoroutine:=false }
noncomputable abbrev CX0:CXT:=fun _ _ _ _ _ _=>False
noncomputable abbrev E0:XK:=fun _ _ _=>False
theorem y8 {X:Cx}:iQ CX0 X E0:=fun _ _ _ _ _ _ _ h=>h.elim
structure Fun (K:Frag) (x qual:Str) (st:Stmt) (f:Addr) (fd:JU):Prop where
 ex:∃ (oc:gV) (od:Option Addr) (kV doc pm:gV) (an:Option Addr) (cdv ct:gV) (osl:Array (Option gV)),
  fd=JE x qual (df st) (bH st) (aw st) .none kV doc pm an cdv ct/\K.lookup f=some ⟨oc,od, .func fd,osl⟩/\LN K cdv qual=true
 kp:JV K (.ref f)=true
section
variable {P:GI} {w:Hf} {K:Frag} {mg:Str->Option gV} {base:Heap}
theorem Fun.ok {x qual:Str} {st:Stmt} {f:Addr} {fd:JU} {N ps:List Str} {k:Nat} {sp:Sp} (F:Fun K x qual st f fd) (S:gw N ps (aw st)) (len:∀ vs H Q E,sp vs H Q E->vs.length=ps.length)
 (j:∀ (cdv:gV) (A:Hg) (outer:List Env) (s:h7) (H:Hp) (vs:List V) (Q:VK) (E:XK),Room k (A.deeper (Np qual (aw st) s.heap.objs.size f cdv))->sp vs H Q E ->
   ∃ t,PSs (ik CX0 P w K mg base N qual (aw st) f cdv A outer s H E).nox (bH st) t/\t { nx:=fun _ H'=>Q .non H',rt:=Q } (cC N vs) H):dv P w K mg base CX0 (k+1) f fd ps sp:=by
 obtain ⟨oc,od,kV,doc,pm,an,cdv,ct,osl,rfl,lk,z⟩:=F.ex;refine CH lk z S len fun A outer s H vs Q E G B => ?_;obtain ⟨t,h,q⟩:=j cdv A outer s H vs Q E G B;exact ⟨t,h.nox,q⟩
theorem Fun.binds {x qual:Str} {st:Stmt} {f:Addr} {fd:JU} {ps:List Str} (F:Fun K x qual st f fd)
 (h:∀ (kV doc pm:gV) (an:Option Addr) (cdv ct:gV) (us:List gV),us.length=ps.length->bindArgs (JE x qual (df st) (bH st) (aw st) .none kV doc pm an cdv ct) ⟨us,[]⟩=pure (ps.zip us)):Binds K fd ps []:=by
 obtain ⟨oc,od,kV,doc,pm,an,cdv,ct,osl,rfl,lk,j⟩:=F.ex;exact .all (h kV doc pm an cdv ct)
theorem ah {x qual:Str} {st:Stmt} {f:Addr} {oc:gV} {od an:Option Addr} {osl:Array (Option gV)} {kV doc pm cdv ct:gV} (l:K.lookup f=some ⟨oc,od, .func (JE x qual (df st) (bH st) (aw st) .none kV doc pm an cdv ct),osl⟩)
 (c:LN K cdv qual=true) (k:JV K (.ref f)=true):Fun K x qual st f (JE x qual (df st) (bH st) (aw st) .none kV doc pm an cdv ct):=⟨⟨oc,od,kV,doc,pm,an,cdv,ct,osl,rfl,l,c⟩,k⟩
end
end
end L2
namespace HT
open PySem PySem.Spec PyProof.Rows
section
variable {prog:GI} {w:Hf} {A:Hg} {E:gV->h7->Prop} {s:h7}
theorem getItem_tuple_whole {t sl:Addr} {items:Array gV} {vl vu:gV} {lo hi:Option Int} {Q:gV->h7->Prop} (j:IsTup s.heap t items) (hs:s.heap.IsSliceOf sl vl vu .none) (pl:MK vl lo) (pu:MK vu hi)
 (hw:sIx items.size 0 lo=0/\sIx items.size items.size hi=items.size) (h:Q (.ref t) s):Gm (model prog w) A (Me (.ref t) (.ref sl)) Q E s:=by
 obtain ⟨os,q,z,G⟩:=id hs;have B:s.TypeIs (.ref sl) "slice" := ⟨os,q,z⟩;unfold Me
 try with_reducible refine HB ?_
 first | refine e6 (q7 ?_) | skip
 refine e6 (Ou j.typeIs (by decide) ?_)
 refine e6 (H0 (name:=Il "__getitem__") j.typeIs Iy
  (H8 Iy j.typeIs NN ?_ (Of _ _)))
 show Gm _ _ (LP (.ref t) >>= _) _ _ s;refine e6 (tupleItemsOf_ j ?_);refine e6 (KO B ?_);rw [if_pos (by decide)]
 refine e6 (dw hs pl pu ?_);have F:(((sIx items.size 0 lo:Nat):Int)==0&&(1:Int)==1&&(sIx items.size items.size hi - sIx items.size 0 lo)==items.size)=true:=by
  rw [hw.1,hw.2];simp
 show Gm _ _ (if (((sIx items.size 0 lo:Nat):Int)==0&&(1:Int)==1&&(sIx items.size items.size hi - sIx items.size 0 lo)==items.size)=true then _ else _) _ _ s
 rw [if_pos F];refine e6 (m:=LQ (.ref t)) ?_;unfold LQ;refine e6 (KO j.typeIs (q7 ?_));show Gm _ _ (if true=true then _ else _) _ _ s
 rw [if_pos rfl];exact e6 (IC (q7 ⟨_,rfl,q7 h⟩))
end
end HT
namespace L2
open PySem PySem.Spec PyProof.Rows
section
section
variable {X:Cx}
noncomputable def DR (K:Frag):V->Option Int->Option Int->Hp->VK->Prop:=fun x lo hi H Q => ∃ a xs,x = .ref a/\SqT K H a xs/\(HT.sIx xs.length 0 lo=0/\HT.sIx xs.length xs.length hi=xs.length)/\Q x H
theorem vR:SlR X (DR X.K):=by
 intro pins s σ H x v vl vu lo hi sl Q I rx hs pl pu h;obtain ⟨a,xs,rfl,hx,hw,q⟩:=h
 cases rx
 obtain ⟨its,r,j,z⟩:=I.tuple hx;have hlen:=r.length;refine ⟨"tuple",_,slot_tuple_getitem.lookup,j.typeIs, ?_⟩;refine HT.getItem_tuple_whole j hs pl pu (by rw [Gf, <- hlen];exact hw) ⟨.ref a,H,I,rfl,q⟩
end
end
section
section
variable {κ:Type} [DecidableEq κ]
noncomputable def bA (kvs:List (κ × V)) (k : κ):Option V:=(kvs.find? fun kv=>decide (kv.1=k)).map (·.2)
noncomputable def bN (kvs:List (κ × V)) (k : κ) (v:V):List (κ × V) :=
 if (kvs.any fun kv=>decide (kv.1=k))=true then kvs.map (fun kv=>if kv.1=k then (kv.1,v) else kv) else kvs++[(k,v)]
theorem eP {p : κ × V} {r:List (κ × V)} {k : κ} (e:p.1=k):bA (p::r) k=some p.2:=by simp [bA,HW,e]
theorem eQ {p : κ × V} {r:List (κ × V)} {k : κ} (e : ¬ p.1=k):bA (p::r) k=bA r k:=by simp [bA,HW,e]
theorem mK (k : κ):∀ kvs:List (κ × V),(kvs.any fun kv=>decide (kv.1=k))=(bA kvs k).isSome
 | [] => rfl
 | p::r=>by
   rw [IF]
   by_cases e:p.1=k
   ·simp only [eP e,decide_eq_true e,Bool.true_or,Og]
   ·rw [eQ e,decide_eq_false e,Lg];exact mK k r
theorem i3 (kvs:List (κ × V)) (k : κ) (v:V):(bN kvs k v).length<=kvs.length+1:=by
 unfold bN
 split
 ·rw [r3];omega
 ·rw [D2,HJ,Jf];omega
theorem RelO.isSome_eq {o:Option V} {u:Option gV} (r:RelO o u):o.isSome=u.isSome:=by
 cases o with
 | none=>cases u with
   | none=>rfl
   | some _=>exact (show False from r).elim
 | some _=>cases u with
   | none=>exact (show False from r).elim
   | some _=>rfl
theorem RelO.getD {o:Option V} {u:Option gV} {d:V} {d':gV} (r:RelO o u) (rd:RelV d d'):RelV (o.getD d) (u.getD d'):=by
 cases o with
 | none=>cases u with
   | none=>exact rd
   | some _=>exact (show False from r).elim
 | some _=>cases u with
   | none=>exact (show False from r).elim
   | some _=>exact r
theorem KV.val {kvs:List (κ × V)} {vs:List (κ × gV)} (r:KV kvs vs) (k : κ):RelO (bA kvs k) (NL vs k):=by
 unfold KV at r
 induction r with
 | nil=>exact MV
 | @cons p q ps qs h t ih =>
  obtain ⟨h1,h2⟩:=h
  by_cases e:p.1=k
  ·have e':q.1=k:=h1.symm.trans e;have b:NL (q::qs) k=some q.2:=by simp [NL,HW,e']
   rw [eP e,b];exact h2
  ·have e' : ¬ q.1=k:=fun z=>e (h1.trans z);have b:NL (q::qs) k=NL qs k:=by simp [NL,HW,e']
   rw [eQ e,b];exact ih
theorem KV.any {kvs:List (κ × V)} {vs:List (κ × gV)} (r:KV kvs vs) (k : κ):(kvs.any fun kv=>decide (kv.1=k))=vs.any fun kv=>decide (kv.1=k):=by
 unfold KV at r
 induction r with
 | nil=>rfl
 | cons h t ih=>rw [IF,IF,ih,h.1]
theorem KV.repl {kvs:List (κ × V)} {vs:List (κ × gV)} (r:KV kvs vs) (k : κ) {y:V} {u:gV} (ry:RelV y u) :
 KV (kvs.map fun kv=>if kv.1=k then (kv.1,y) else kv) (vs.map fun kv=>if kv.1=k then (kv.1,u) else kv):=by
 unfold KV at r ⊢
 induction r with
 | nil=>exact .nil
 | @cons p q ps qs h t ih =>
  rw [Gr,Gr];refine .cons ?_ ih;obtain ⟨h1,h2⟩:=h
  by_cases e:p.1=k
  ·rw [if_pos e,if_pos (h1.symm.trans e)];exact ⟨h1,ry⟩
  ·rw [if_neg e,if_neg (fun z=>e (h1.trans z))];exact ⟨h1,h2⟩
theorem KV.put {kvs:List (κ × V)} {vs:List (κ × gV)} (r:KV kvs vs) (k : κ) {y:V} {u:gV} (ry:RelV y u):KV (bN kvs k y) (stored vs k u):=by
 unfold bN stored;rw [r.any k]
 by_cases e:(vs.any fun kv=>decide (kv.1=k))=true
 ·rw [if_pos e,if_pos e];exact r.repl k ry
 ·rw [if_neg e,if_neg e];exact Paired.snoc r ⟨rfl,ry⟩
theorem KV.length {kvs:List (κ × V)} {vs:List (κ × gV)} (r:KV kvs vs):kvs.length=vs.length:=Kb r
end
theorem iT {P:GI} {w:Hf} {k:Key} {u:gV} (r:RelV (kV k) u):(aJ P w).is k u=true:=by
 cases k with
 | inl i=>obtain ⟨t,e⟩:=(show ∃ t,u=PX i t from r);subst e;exact ph P w i t
 | inr x=>obtain ⟨t,e⟩:=(show ∃ t,u=PY x t from r);subst e;exact pi P w x t
theorem kL {P:GI} {w:Hf}:∀ {ks:List Key} {us:List gV},Vals (ks.map kV) us->ItemsAre (aJ P w) ks us
 | [],_,r=>by rw [Ji] at r;cases r;exact .nil
 | k::ks,_,r=>by
   rw [Gr] at r
   cases r with
   | cons h t=>exact .cons (iT h) (kL t)
noncomputable abbrev KT (H:Hp):List (List Key×V)->List (List Key×Addr×gV)->Prop:=HD fun p q=>p.1=q.1/\H q.2.1=some (.tup (p.1.map kV))/\RelV p.2 q.2.2
theorem KT.val {H:Hp} {kvs:List (List Key×V)} {xs:List (List Key×Addr×gV)} (r:KT H kvs xs) (k:List Key):RelO (bA kvs k) ((P5 xs k).map (·.2)):=by
 induction r with
 | nil=>exact MV
 | @cons p q ps qs h t ih =>
  obtain ⟨h1,_,h2⟩:=h
  by_cases e:p.1=k
  ·have e':q.1=k:=h1.symm.trans e;have b:P5 (q::qs) k=some q.2:=by simp [P5,HW,e']
   rw [eP e,b];exact h2
  ·have e' : ¬ q.1=k:=fun z=>e (h1.trans z);have b:P5 (q::qs) k=P5 qs k:=by simp [P5,HW,e']
   rw [eQ e,b];exact ih
theorem KT.repl {H:Hp} {kvs:List (List Key×V)} {xs:List (List Key×Addr×gV)} (r:KT H kvs xs) (k:List Key) {y:V} {u:gV} (ry:RelV y u) :
 KT H (kvs.map fun kv=>if kv.1=k then (kv.1,y) else kv) (xs.map (putAt k u)):=by
 induction r with
 | nil=>exact .nil
 | @cons p q ps qs h t ih =>
  rw [Gr,Gr];refine .cons ?_ ih;obtain ⟨h1,h2,j⟩:=h;unfold putAt
  by_cases e:p.1=k
  ·rw [if_pos e,if_pos (h1.symm.trans e)];exact ⟨h1,h2,ry⟩
  ·rw [if_neg e,if_neg (fun z=>e (h1.trans z))];exact ⟨h1,h2,j⟩
theorem KT.put {H:Hp} {kvs:List (List Key×V)} {xs:List (List Key×Addr×gV)} (r:KT H kvs xs) (k:List Key) {b:Addr} {y:V} {u:gV} (j:H b=some (.tup (k.map kV))) (ry:RelV y u) :
 KT H (bN kvs k y) (storedH xs k b u):=by
 have e:(kvs.any fun kv=>decide (kv.1=k))=(P5 xs k).isSome:=by
  rw [mK,(r.val k).isSome_eq,Ow]
 unfold bN storedH;rw [e]
 by_cases q:(P5 xs k).isSome=true
 ·rw [if_pos q,if_pos q];exact r.repl k ry
 ·rw [if_neg q,if_neg q];exact Paired.snoc r ⟨rfl,j,ry⟩
theorem KT.keeps {H H':Hp} {kvs:List (List Key×V)} {xs:List (List Key×Addr×gV)} (r:KT H kvs xs) (j:∀ b ys,H b=some (.tup ys)->H' b=some (.tup ys)):KT H' kvs xs :=
 Qa r fun _ _ z=>⟨z.1,j _ _ z.2.1,z.2.2⟩
section
variable {P:GI} {w:Hf} {H:Hp} {h:Heap} {a:Addr}
theorem y9 {u:HO} (ok:HOk P w H h) (e:Rd H a u):ObjOk P w H h a u:=e.ok ok
theorem iU {kvs:List (Key×V)} (ok:HOk P w H h) (e:Rd H a (.dK kvs)):kvs.length<=Gg/\(a==IS)=false /\ ∃ vs,KV kvs vs/\h.DictOf (aJ P w) a vs :=
 show ObjOk P w H h a (.dK kvs) from y9 ok e
theorem CL {kvs:List (Key×V)} (ok:HOk P w H h) (e:H a=some (.dK kvs)):kvs.length<=Gg/\(a==IS)=false /\ ∃ vs,KV kvs vs/\h.DictOf (aJ P w) a vs:=iU ok (.inl e)
theorem fG {ks:List Key} (ok:HOk P w H h) (e:H a=some (.tup (ks.map kV))):(LK (aJ P w)).is h ks a:=by
 obtain ⟨_,its,r,o,h1,h2,n,j⟩:=(show ObjOk P w H h a (.tup (ks.map kV)) from ok a _ e);exact ⟨o,its.toArray,n,h1,h2,j,by simpa using kL r⟩
theorem iV {kvs:List (List Key×V)} (ok:HOk P w H h) (e:Rd H a (.dT kvs)):kvs.length<=Gg/\(a==IS)=false /\
 ∃ xs,KT H kvs xs/\h.DictOfH (LK (aJ P w)) a xs:=by
 obtain ⟨z,y,xs,r,o,es,ep,h1,h2,j,B,F⟩:=(show ObjOk P w H h a (.dT kvs) from y9 ok e);refine ⟨z,y,xs,r,o,es,ep,h1,h2,j,B,fun x hx => ?_,F⟩;have all:∀ {l:List (List Key×V)} {m:List (List Key×Addr×gV)},KT H l m -> ∀ x∈m,(LK (aJ P w)).is h x.1 x.2.1:=by
  intro l m q
  induction q with
  | nil=>intro x hx;exact nomatch hx
  | @cons p q ps qs hq t ih =>
   intro x hx
   rcases Gj.mp hx with e | hx
   ·subst e;exact fG ok (by rw [<- hq.1];exact hq.2.1)
   ·exact ih x hx
 exact all r x hx
theorem CM {kvs:List (List Key×V)} (ok:HOk P w H h) (e:H a=some (.dT kvs)):kvs.length<=Gg/\(a==IS)=false /\
 ∃ xs,KT H kvs xs/\h.DictOfH (LK (aJ P w)) a xs:=iV ok (.inl e)
end
def DGet (H:Hp) (a:Addr) (y:V) (r:Option V):Prop :=
 (∃ kvs k,Rd H a (.dK kvs)/\y=kV k/\r=bA kvs k) ∨ ∃ kvs k b,Rd H a (.dT kvs)/\y = .ref b/\H b=some (.tup (k.map kV))/\r=bA kvs k
def DPut (H:Hp) (a:Addr) (y v:V) (H':Hp):Prop :=
 (∃ kvs k,H a=some (.dK kvs)/\y=kV k/\kvs.length < Gg/\H'=upd H a (.dK (bN kvs k v))) ∨
 ∃ kvs k b,H a=some (.dT kvs)/\y = .ref b/\H b=some (.tup (k.map kV))/\kvs.length < Gg/\H'=upd H a (.dT (bN kvs k v))
theorem DGet.k {H:Hp} {a:Addr} {kvs:List (Key×V)} {k:Key} (e:H a=some (.dK kvs)):DGet H a (kV k) (bA kvs k) := .inl ⟨kvs,k, .inl e,rfl,rfl⟩
theorem DPut.k {H:Hp} {a:Addr} {kvs:List (Key×V)} {k:Key} {v:V} (e:H a=some (.dK kvs)) (j:kvs.length < Gg):DPut H a (kV k) v (upd H a (.dK (bN kvs k v))) := .inl ⟨kvs,k,e,rfl,j,rfl⟩
theorem DPut.t {H:Hp} {a b:Addr} {kvs:List (List Key×V)} {k:List Key} {v:V} (e:H a=some (.dT kvs)) (eb:H b=some (.tup (k.map kV))) (j:kvs.length < Gg) :
 DPut H a (.ref b) v (upd H a (.dT (bN kvs k v))) := .inr ⟨kvs,k,b,e,rfl,eb,j,rfl⟩
section
variable {X:Cx} {pins:List (Addr×Obj)} {σ:St} {H:Hp} {s:h7} {a:Addr} {y v:V} {u r:gV} {o:Option V} {A:Hg} {E:gV->h7->Prop}
theorem Inv.big (I:Inv X pins σ H s):IS < s.heap.objs.size:=by
 have h:HK < s.heap.objs.size:=(I.mod.glob.keeps I.bk).lt;exact Nat.lt_trans (by decide) h
theorem tq {Q:gV->h7->Prop} (q:A.units+1 < Ij) (I:Inv X pins σ H s) (g:DGet H a y (some v)) (ry:RelV y u) (h:∀ w' s',Inv X pins σ H s'->RelV v w'->Q w' s') :
 Gm (model X.prog X.w) A (Me (.ref a) u) Q E s:=by
 rcases g with ⟨kvs,k,e,ey,l⟩ | ⟨kvs,k,b,e,ey,eb,l⟩
 ·subst ey;obtain ⟨z,hd,vs,rel,dd⟩:=iU I.hok e;obtain ⟨w',hw,rw'⟩:=Qj (v:=v) (o:=NL vs k) (by rw [l];exact rel.val k)
  exact wpAny_getItem_of (iT ry) dd.mapOf hw (h w' _ (I.tok _) rw')
 ·subst ey
  cases (show u=GJ b from ry)
  obtain ⟨z,hd,xs,rel,dd⟩:=iV I.hok e;obtain ⟨w',hw,rw'⟩:=Qj (v:=v) (o:=(P5 xs k).map (·.2)) (by rw [l];exact rel.val k)
  obtain ⟨p,B,j⟩:=Option.map_eq_some_iff.mp hw;refine wpAny_getItem_heap (Ko q) (fG I.hok eb) dd B ?_;rw [j];exact h w' _ (I.tok _) rw'
theorem yU {Q:gV->h7->Prop} (j:A.units+1 < Ij) (I:Inv X pins σ H s) (g:DGet H a y o) (ry:RelV y u) (h:∀ s',Inv X pins σ H s'->Q (.bool (!o.isSome)) s') :
 Gm (model X.prog X.w) A (I7 .NotIn u (.ref a)) Q E s:=by
 rcases g with ⟨kvs,k,e,ey,l⟩ | ⟨kvs,k,b,e,ey,eb,l⟩
 ·subst ey;obtain ⟨z,hd,vs,rel,dd⟩:=iU I.hok e;refine wpAny_notIn_of (iT ry) hd dd.mapOf ?_;rw [<- (rel.val k).isSome_eq, <- l];exact h _ (I.tok _)
 ·subst ey
  cases (show u=GJ b from ry)
  obtain ⟨z,hd,xs,rel,dd⟩:=iV I.hok e;refine wpAny_notIn_heap (Ko j) (fG I.hok eb) hd dd ?_;have q:=(rel.val k).isSome_eq;rw [Ow] at q;rw [<- q, <- l];exact h _ (I.tok _)
theorem pP {h':Heap} {t':Nat} {ob:HO} (I:Inv X pins σ H s) (mu:Mut (H a)) (hs:Ib a s.heap h') (he:∃ q,h'.get? a=some q) (new:ObjOk X.prog X.w (upd H a ob) h' a ob) :
 Inv X pins σ (upd H a ob) { s with heap:=h',toks:=t' } :=
 I.write (x:=a) (e:=a) mu (.inl rfl) (fun b q j z=>(hs.2 b j).trans z) he new
theorem B6 {P:GI} {w:Hf} {H':Hp} {h':Heap} {kvs:List (Key×V)} {vs:List (Key×gV)} (z:kvs.length<=Gg) (hd:(a==IS)=false) (rel:KV kvs vs) (dd:h'.DictOf (aJ P w) a vs) :
 ObjOk P w H' h' a (.dK kvs):=⟨z,hd,vs,rel,dd⟩
theorem tt {H':Hp} {Q:Unit->h7->Prop} (G:A.units+1 < Ij) (I:Inv X pins σ H s) (g:DPut H a y v H') (ry:RelV y u) (rv:RelV v r) (h:∀ s',Inv X pins σ H' s'->Q () s') :
 Gm (model X.prog X.w) A (NJ (.ref a) u r) Q E s:=by
 rcases g with ⟨kvs,k,e,ey,l,eH⟩ | ⟨kvs,k,b,e,ey,eb,l,eH⟩
 ·subst ey eH;obtain ⟨z,hd,vs,rel,dd⟩:=CL I.hok e;have B:vs.length<=Gg:=by rw [<- rel.length];exact z
  have F:(bN kvs k v).length<=Gg:=by have:=i3 kvs k v;omega
  refine wpAny_setItem_pairs (hsz:=B) (iT ry) dd fun h' dd' hs=>h _ ?_;have he:∃ q,h'.get? a=some q:=let ⟨q,_,_,j,_⟩:=dd'; ⟨q,j⟩;exact pP I (by rw [e];exact MV) hs he (B6 F hd (rel.put k rv) dd')
 ·subst ey eH
  cases (show u=GJ b from ry)
  obtain ⟨z,hd,xs,rel,dd⟩:=CM I.hok e;have B:xs.length<=Gg:=by rw [<- Kb rel];exact z
  have F:(bN kvs k v).length<=Gg:=by have:=i3 kvs k v;omega
  refine wpAny_setItem_heap (hsz:=B) (Ko G) (fG I.hok eb) dd fun h' dd' hs=>h _ ?_;obtain ⟨q,es,ep,j,h2,J,L,_,O⟩:=dd';refine pP I (by rw [e];exact MV) hs ⟨q,j⟩ ⟨F,hd,_,(rel.put k eb rv).keeps fun c ys ec => ?_,q,es,ep,j,h2,J,L,O⟩
  rw [aj (Cn ec e (fun z=>nomatch z))];exact ec
end
theorem vS {P:GI} {w:Hf} {H:Hp} (h:Heap) (j:IS < h.objs.size):ObjOk P w H (h.push { cls := .type "dict",data := .dict #[] }) h.objs.size (.dK []) :=
 ⟨Ih _,beq_eq_false_iff_ne.mpr (Ne.symm (GW j)),[], .nil,Heap.DictOf.new h⟩
theorem vT {P:GI} {w:Hf} {H:Hp} (h:Heap) (j:IS < h.objs.size):ObjOk P w H (h.push { cls := .type "dict",data := .dict #[] }) h.objs.size (.dT []) :=
 ⟨Ih _,beq_eq_false_iff_ne.mpr (Ne.symm (GW j)),[], .nil,_, #[],0,Gh _ rfl,⟨rfl,rfl,rfl⟩,rfl,rfl,List.nodup_nil⟩
noncomputable def B7:TE:=fun _ H Q => ∀ p,H p=none->Q (.ref p) (upd H p (.dK []))
noncomputable def B8:TE:=fun _ H Q => ∀ p,H p=none->Q (.ref p) (upd H p (.dT []))
section
variable {X:Cx} {pos:Pos}
theorem vU:PE X (.Dict [] [] pos) B7:=fun pins s σ H Q I h =>
 ON ⟨.ref s.heap.objs.size,_,I.laid (a:=s.heap.objs.size) (o := .dK []) (t':=s.toks) (fun _ _ q=>h6 _ q) (Gi _) (vS s.heap I.big),rfl,h _ (I.hok.fresh (Gi _))⟩
theorem vW:PE X (.Dict [] [] pos) B8:=fun pins s σ H Q I h =>
 ON ⟨.ref s.heap.objs.size,_,I.laid (a:=s.heap.objs.size) (o := .dT []) (t':=s.toks) (fun _ _ q=>h6 _ q) (Gi _) (vT s.heap I.big),rfl,h _ (I.hok.fresh (Gi _))⟩
end
structure M2 (X:Cx) (o:Expr) (m:Str) (apos:Pos) (e f:Expr) (cpos:Pos):Prop where
 base:Kg o m X.env (eval o X.env)=eval o X.env
 few:((KI cpos (GN [e,f] X.env)).all (fun x => !x.1)&&(backToKw cpos (P4 [] X.env)).all (fun x=>x.1.isSome)
  && decide (([e,f]:List Expr).length+([]:List MU).length+(if ([]:List MU).isEmpty then 0 else 1) < 30))=true
 line:(apos.endLine==cpos.line)=true
 trees:KI cpos (GN [e,f] X.env)=[(false,eval e X.env),(false,eval f X.env)]
def IsD (H:Hp) (a:Addr):Prop:=(∃ kvs,Rd H a (.dK kvs)) ∨ ∃ kvs,Rd H a (.dT kvs)
theorem iW {X:Cx} {pins:List (Addr×Obj)} {σ:St} {H:Hp} {s:h7} {a:Addr} (I:Inv X pins σ H s) (d:IsD H a) :
 s.TypeIs (.ref a) "dict" /\ (∀ b,GJ a = .ref b -> ∃ ob,s.heap.get? b=some ob/\ob.dict=none)/\(a==IS)=false:=by
 rcases d with ⟨kvs,e⟩ | ⟨kvs,e⟩
 ·obtain ⟨_,hd,vs,_,dd⟩:=iU I.hok e;refine ⟨dd.typeIs,fun b q => ?_,hd⟩
  cases q
  obtain ⟨ob,_,_,h1,h2,_⟩:=dd;exact ⟨ob,h1,h2.2.1⟩
 ·obtain ⟨_,hd,xs,_,dd⟩:=iV I.hok e;refine ⟨dd.typeIs,fun b q => ?_,hd⟩
  cases q
  obtain ⟨ob,_,_,h1,h2,_⟩:=dd;exact ⟨ob,h1,h2.2.1⟩
section
variable {X:Cx} {pins:List (Addr×Obj)} {σ:St} {H:Hp} {s:h7} {a:Addr} {y d:V} {u r:gV} {o:Option V} {A:Hg} {E:gV->h7->Prop}
theorem B9 {Q:gV->h7->Prop} (j:A.units+1 < Ij) (I:Inv X pins σ H s) (g:DGet H a y o) (ry:RelV y u) (rd:RelV d r) (h:∀ w' s',Inv X pins σ H s'->RelV (o.getD d) w'->Q w' s') :
 Gm (model X.prog X.w) A (call (.builtin "dict.get") [.ref a,u,r]) Q E s:=by
 rcases g with ⟨kvs,k,e,ey,l⟩ | ⟨kvs,k,b,e,ey,eb,l⟩
 ·subst ey;obtain ⟨z,hd,vs,rel,dd⟩:=iU I.hok e;refine call_meetsIn L4 dd.typeIs MW (Mt _ _ _) (meets_dict_get_default (aJ X.prog X.w) a (iT ry) hd r) ⟨_,dd.mapOf,h _ _ (I.tok _) ?_⟩;rw [l];exact (rel.val k).getD rd
 ·subst ey
  cases (show u=GJ b from ry)
  obtain ⟨z,hd,xs,rel,dd⟩:=iV I.hok e;refine call_meetsIn L4 dd.typeIs MW (Mt _ _ _) (meetsH_dict_get_default (LK (aJ X.prog X.w)) a b hd r) ⟨Ko j,k,xs,fG I.hok eb,dd,h _ _ (I.tok _) ?_⟩;rw [l];exact (rel.val k).getD rd
end
noncomputable def Ba (td ty tx:TE):TE:=fun σ H Q=>td σ H fun x H1 => ∃ a,x = .ref a/\IsD H1 a/\ty σ H1 fun y H2=>tx σ H2 fun z H3 => ∃ o,DGet H3 a y o/\Q (o.getD z) H3
section
variable {X:Cx} {o e f:Expr} {apos cpos:Pos} {td ty tx:TE}
theorem vX (q:X.A.units+1 < Ij) (ho:PE X o td) (he:PE X e ty) (hf:PE X f tx) (m:M2 X o "get" apos e f cpos):PE X (.Call (.Attribute o "get" apos) [e,f] [] cpos) (Ba td ty tx):=by
 intro pins s σ H Q I h;refine wpAny_Call_method m.base m.few m.line PySem.F.plainAttrs_dict L4 PySem.F.type_dict_get (thn (ho pins s σ H _ I h) fun u s1 ⟨x,H1,j,rx,a,ex,d,B⟩ => ?_);subst ex;obtain rfl:u=GJ a:=rx;obtain ⟨t1,G,_⟩:=iW j d;refine ⟨t1,G, ?_⟩;rw [m.trees];refine J2 rfl (Nr (Kn (thn (he pins s1 σ H1 _ j B) fun iv s2 ⟨y,H2,J,ry,L⟩ =>
  Kn (thn (hf pins s2 σ H2 _ J L) fun fv s3 ⟨z,O,U,rz,ov,g,Y⟩=>Mf ?_))))
 exact B9 q U g ry rz fun w' s4 Z rw'=>⟨_,O,Z,rw',Y⟩
end
end
section
noncomputable def aW (elt:Expr) (gens:List Hr) (scope:Scope) (pos:Pos) (d:Nat) (acc:gV) (env:Env) (k:Sem Fin):Sem Fin :=
 match gens[d+1]? with
 | some g'=>eval g'.iter env >>= fun x=>Md g'.iter.pos >>= fun _=>IP g'.iter env x >>= fun x=>holding [x] (Nm x) >>= fun it' =>
    runOwn (.compStart (.ListComp elt gens scope pos) (d+1) it' acc env) env >>= fun _=>k
 | none=>(eval elt env >>= fun x=>call (.builtin "list.append") [acc,x] >>= fun _=>pure ()) >>= fun _=>k
noncomputable def ba (ifs:List Expr) (env:Env):Sem Bool :=
 forIn ifs true fun c r=>if r=true then do let ok <- isTrue c env (eval c env);pure (JH ok) else pure (JH r)
theorem mL (elt target iter:Expr) (ifs:List Expr) (gens:List Hr) (scope:Scope) (pos:Pos) (d:Nat) (it acc:gV) (env:Env)
 (hd:gens[d]? = some ⟨target,iter,ifs,0⟩) (j:∀ g',gens[d+1]? = some g'->g'.is_async=0) :
 compTurn (.ListComp elt gens scope pos) d it acc env=(Md iter.pos >>= fun _=>Jq it >>= fun r=>match r with
  | none=>pure (.done .next)
  | some v=>Lr target it v >>= fun _=>assign target env v >>= fun _=>ba ifs env >>= fun ok =>
    (if ok=true then aW elt gens scope pos d acc env (again (.compLoop (.ListComp elt gens scope pos) d it acc env)) else again (.compLoop (.ListComp elt gens scope pos) d it acc env))):=by
 unfold compTurn;simp only [hd];unfold aW ba
 cases hn:gens[d+1]? with
 | none=>rfl
 | some g' =>
   obtain ⟨t',i',f',a'⟩:=g';have e:a'=0:=j _ hn;subst e;rfl
noncomputable abbrev TC:=St->Hp->(St->Hp->Prop)->Prop
def ca (J:It) (g:TG) (tb:TC) (N:St->Hp->Prop) (σ:St) (H:Hp):Prop :=
 ∃ W:Nat->Nat->St->Hp->Prop,(∃ m,W 0 m σ H) /\ ∀ i m σ H,W i m σ H ->
  (J.stop i H/\N σ H)∨(J.go i H /\ ∃ N':St->Hp->Prop,(∀ σ' H',N' σ' H' -> ∃ m',m' < m/\W (i+1) m' σ' H') /\ ∀ x H',J.yld i H x H'->g x σ H' fun σ2 H2=>tb σ2 H2 N')
def PB (X:Cx) (F:Sem Fin->Sem Fin) (t:TC):Prop :=
 ∀ (pins:List (Addr×Obj)) (s:h7) (σ:St) (H:Hp) (N:St->Hp->Prop) (k:Sem Fin) (Q:Fin->h7->Prop) (E:gV->h7->Prop),Inv X pins σ H s->t σ H N ->
  (∀ s' σ' H',Inv X pins σ' H' s'->N σ' H'->Gm (model X.prog X.w) X.A k Q E s')->Gm (model X.prog X.w) X.A (F k) Q E s
section
variable {X:Cx}
theorem nox {α:Type} {m:Sem α} {Q : α -> h7->Prop} {E:gV->h7->Prop} {s:h7} (hx:∀ e s,X.xe e s->False) (h:Gm (model X.prog X.w) X.A m Q X.xe s):Gm (model X.prog X.w) X.A m Q E s :=
 HF h (fun _ _ q=>q) fun e s' q=>(hx e s' q).elim
noncomputable def iX (ts:List TT) (tb:TC):TC:=match ts with
 | [] => tb
 | t::r=>fun σ H N=>t σ H fun b H1=>if b=true then iX r tb σ H1 N else N σ H1
theorem iY {env:Env} {M:Kv} {A:Hg} {Q:Bool->h7->Prop} {E:gV->h7->Prop} {s:h7} (h:Q false s):∀ ifs:List Expr,
 Gm M A (forIn ifs false fun c r=>if r=true then do let ok <- isTrue c env (eval c env);pure (JH ok) else pure (JH r)) Q E s
 | [] => q7 h
 | c::r=>by
   rw [JI];simp only [HH,if_false];exact e6 (q7 (iY h r))
theorem mM (hx:∀ e s,X.xe e s->False) {tb:TC} {N:St->Hp->Prop}:∀ {ifs:List Expr} {ts:List TT},HD (fun c t=>PT X c t) ifs ts ->
 ∀ (pins:List (Addr×Obj)) (s:h7) (σ:St) (H:Hp) (E:gV->h7->Prop),Inv X pins σ H s->iX ts tb σ H N ->
 Gm (model X.prog X.w) X.A (ba ifs X.env) (fun ok s' => ∃ H',Inv X pins σ H' s'/\if ok=true then tb σ H' N else N σ H') E s
 | _,_, .nil=>fun pins s σ H E I h=>q7 ⟨H,I,by rw [if_pos rfl];exact h⟩
 | c::ifs,_, .cons (b:=t) z hr=>by
   intro pins s σ H E I h;have ih:=mM hx hr (tb:=tb) (N:=N) pins;unfold ba at ih ⊢;rw [JI];simp only [if_true];refine e6 (e6 (nox hx (thn (z pins s σ H _ I h) fun b s1 ⟨H1,q,j⟩=>q7 ?_)))
   cases b with
   | false =>
     rw [if_neg Gb] at j;exact iY ⟨H1,q,by rw [if_neg Gb];exact j⟩ ifs
   | true =>
     rw [if_pos rfl] at j;exact ih s1 σ H1 E q j
theorem vY (hx:∀ e s,X.xe e s->False) {F:Sem Fin->Sem Fin} {tb:TC} (z:PB X F tb) {ifs:List Expr} {ts:List TT} (B:HD (fun c t=>PT X c t) ifs ts) :
 PB X (fun k=>ba ifs X.env >>= fun ok=>if ok=true then F k else k) (iX ts tb):=by
 intro pins s σ H N k Q E I h hk;refine e6 (thn (mM hx B pins s σ H E I h) fun ok s1 ⟨H1,q,j⟩ => ?_)
 cases ok with
 | false =>
   rw [if_neg Gb] at j ⊢;exact hk s1 σ H1 q j
 | true =>
   rw [if_pos rfl] at j ⊢;exact z pins s1 σ H1 N k Q E q j hk
noncomputable def ya (p:Addr) (te:TE):TC:=fun σ H N=>te σ H fun x H1 => ∃ xs,H1 p=some (.lst xs)/\xs.length < Gg/\N σ (upd H1 p (.lst (xs++[x])))
theorem jR (hx:∀ e s,X.xe e s->False) {elt:Expr} {gens:List Hr} {scope:Scope} {pos:Pos} {d:Nat} {p:Addr} {te:TE} (he:PE X elt te) (hd:gens[d+1]? = none) :
 PB X (aW elt gens scope pos d (.ref p) X.env) (ya p te):=by
 intro pins s σ H N k Q E I h j;unfold aW;rw [hd];refine e6 (e6 (nox hx (thn (he pins s σ H _ I h) fun u s1 ⟨x,H1,q,z,xs,e1,l1,B⟩ => ?_)));refine e6 (nox hx (thn (kJ (X:=X) pins s1 σ H1 (.ref p) [x] (.ref p) [u] (fun _ H2=>N σ H2) q rfl (.cons z .nil) ⟨p,xs,x,rfl,rfl,e1,l1,B⟩) fun v s2 ⟨_,H2,F,_,G⟩ => ?_));exact q7 (j s2 σ H2 F G)
theorem kM (hx:∀ e s,X.xe e s->False) (Y:X.calm=true) {elt target iter:Expr} {ifs:List Expr} {gens:List Hr} {scope:Scope} {pos:Pos} {d:Nat} {acc:gV}
 (hd:gens[d]? = some ⟨target,iter,ifs,0⟩) (ha:∀ g',gens[d+1]? = some g'->g'.is_async=0) {g:TG} (hg:PG X target g) {tb:TC}
 (j:PB X (fun k=>ba ifs X.env >>= fun ok=>if ok=true then aW elt gens scope pos d acc X.env k else k) tb)
 {pins:List (Addr×Obj)} {s:h7} {σ:St} {H:Hp} {N:St->Hp->Prop} {it:Addr} {fp:List Addr} {tn:Nat->Heap->Prop} {J:It} (I:Inv X pins σ H s) (T:fD X.prog X.w X.K target J fp it tn)
 (t0:tn 0 s.heap) (f2:∀ b∈fp,bZ X pins H b) (h:ca J g tb N σ H) :
 Lf (model X.prog X.w) X.A (.compLoop (.ListComp elt gens scope pos) d (.ref it) acc X.env) (fun r s'=>match r with | .ok _ => ∃ σ' H',Inv X pins σ' H' s'/\N σ' H' | .error _=>False) s:=by
 obtain ⟨W,⟨m0,w0⟩,turn⟩:=h;have stat:∀ {H':Hp},(∀ b∈fp,H' b=none) -> ∀ b∈fp,bZ X pins H' b:=fun hn b j=>⟨hn b j,(f2 b j).2⟩;refine codeAny_loop rfl (fun n s' => ∃ i σ' H',Inv X pins σ' H' s'/\tn i s'.heap/\(∀ b∈fp,H' b=none)/\W i n σ' H') ?_ m0 ⟨0, σ,H,I,t0,fun b j=>(f2 b j).1,w0⟩;rintro n s3 ⟨i, σ3,F,Z,z,B,w3⟩;show Gm _ _ ((compTurn (.ListComp elt gens scope pos) d (.ref it) acc X.env).onRaise (fun x=>do noteFrame x X.env;theTreesLotGoes x)) _ _ s3
 refine wpAny_noted ?_;rw [mL elt target iter ifs gens scope pos d (.ref it) acc X.env hd ha];refine e6 (JM (e6 ?_));show Gm (model X.prog X.w) X.A _ _ _ s3
 rcases turn i n σ3 F w3 with ⟨stop,qn⟩ | ⟨go,N',hN,step⟩
 ·refine thn (T.done X rfl rfl rfl Y i pins s3 σ3 F _ Z (stat B) z stop) fun r s4 ⟨G,I4⟩ => ?_;subst G;exact q7 ⟨σ3,F,I4,qn⟩
 ·refine thn (T.item X rfl rfl rfl Y i pins s3 σ3 F _ Z (stat B) z go) fun r s4 ⟨u,G,h4⟩ => ?_;subst G;refine e6 (thn h4 fun _ s5 ⟨x,H5,I5,r5,y5,q,L⟩ => ?_);have O:=I5.pinned (stat L) (T.obj _ _ q);refine e6 (nox hx (thn (hg _ s5 σ3 H5 x u _ O r5 (step x H5 y5)) fun _ s6 ⟨σ6,H6,I6,q6⟩ => ?_));refine j _ s6 σ6 H6 N' (again (.compLoop (.ListComp elt gens scope pos) d (.ref it) acc X.env)) _ _ I6 q6 fun s7 σ7 H7 U n7 => ?_;obtain ⟨m',hm,w7⟩:=hN σ7 H7 n7;refine q7 ⟨rfl,m',hm,i+1, σ7,H7,U.unpinned,T.keep _ _ _ q fun b j o e=>(U.pin (b,o) (GA _ (GA _ (cT j e)))).1,fun b j => ?_,w7⟩;obtain ⟨o,e,dd⟩:=T.obj _ _ q b j;exact (U.pin (b,o) (GA _ (GA _ (cT j e)))).2.1
theorem iZ {elt target iter:Expr} {ifs:List Expr} {gens:List Hr} {scope:Scope} {pos:Pos} {d:Nat} {it acc:gV} {env:Env} {prog:GI} {w:Hf} {A:Hg} {R:Result->h7->Prop} {s:h7}
 (hd:gens[d]? = some ⟨target,iter,ifs,0⟩)
 (h0:Lf (model prog w) A (.compLoop (.ListComp elt gens scope pos) d it acc env) R s)
 (h:Gm (model prog w) A (Nm it) (fun it' s'=>Lf (model prog w) A (.compLoop (.ListComp elt gens scope pos) d it' acc env) R s')
   (notedBy (model prog w) A env fun x s'=>R (.error x) s') s) :
 Lf (model prog w) A (.compStart (.ListComp elt gens scope pos) d it acc env) R s:=by
 refine codeAny_of_tree ?_;show Gm _ _ ((compStart (.ListComp elt gens scope pos) d it acc env).onRaise (fun x=>do noteFrame x env;Md theWindowsPlace)) _ _ s
 refine wpAny_notedAt ?_;unfold compStart;have j:(clausesOf (.ListComp elt gens scope pos))[d]? = some ⟨target,iter,ifs,0⟩:=hd;rw [j];show Gm _ _ (ask >>= _) _ _ s;refine e6 (wpAny_askSetting (wpAny_ite ?_))
 split
 ·first
   | exact e6 (q7 (q7 (L9 rfl h0)))
   | exact q7 (L9 rfl h0)
 ·first
   | exact e6 (IC (e6 (JM (e6 (HF h (fun it' s' h'=>q7 (L9 rfl h')) fun _ _ x=>x)))))
   | (refine e6 (IC ?_);show Gm _ _ (Md iter.pos >>= _) _ _ s;exact e6 (JM (e6 (HF h (fun it' s' h'=>q7 (L9 rfl h')) fun _ _ x=>x))))
theorem kN (hx:∀ e s,X.xe e s->False) (z:X.calm=true) {elt target iter:Expr} {ifs:List Expr} {gens:List Hr} {scope:Scope} {pos:Pos} {d:Nat} {acc:gV}
 (hd:gens[d+1]? = some ⟨target,iter,ifs,0⟩) (B:∀ g',gens[d+1+1]? = some g'->g'.is_async=0) {wi:TI} (hi:PI X target iter wi) {g:TG} (F:PG X target g) {tb:TC}
 (G:PB X (fun k=>ba ifs X.env >>= fun ok=>if ok=true then aW elt gens scope pos (d+1) acc X.env k else k) tb)
 (hs:∀ x,IP iter X.env x=pure x) :
 PB X (aW elt gens scope pos d acc X.env) (fun σ H N=>wi σ H fun J H1=>ca J g tb N σ H1):=by
 intro pins s σ H N k Q E I h hk;unfold aW;rw [hd];refine e6 (nox hx (thn (hi pins s σ H _ I h) fun v s1 h1 => ?_));refine e6 (JM (e6 (Jl (hs v) ?_)));refine e6 (HB (nox hx (thn h1 fun itv s2 h2 => ?_)));obtain ⟨it,fp,tn,J,H2,e,L,T,j,f2,hw⟩:=h2;subst e;have loop:=kM (acc:=acc) hx z hd B F G L T j f2 hw;refine e6 (wpAny_runOwn (KJ (iZ (R:=fun r s'=>match r with | .ok _ => ∃ σ' H',Inv X pins σ' H' s'/\N σ' H' | .error _=>False) hd loop (T.self _ 0 _ _ _ j loop)) fun r s3 q => ?_))
 cases r with
 | error e=>exact q.elim
 | ok f =>
   obtain ⟨σ3,O,U,Y⟩:=q;exact hk s3 σ3 O U Y
noncomputable def aR (cells:List (Str×Addr)):List (Str×Jw)->List (Str×Addr)->List (Str×Addr)
 | [],acc=>acc
 | (n,k)::r,acc=>if k == .free then (match cells.lookup n with | some c=>aR cells r ((n,c)::acc) | none=>aR cells r acc) else aR cells r acc
theorem i4 {env:Env}:∀ (names:List (Str×Jw)) (acc:List (Str×Addr)),(∀ x∈names,x.2 = .free->(env.cells.lookup x.1).isSome=true) ->
 (forIn names acc fun (x:Str×Jw) (r:List (Str×Addr))=>(match x with | (name,kind)=>if (kind==Ha)=true then do let c <- cellOf env name;pure (JH ((name,c)::r)) else pure (JH r):Sem (ForInStep (List (Str×Addr)))))=(pure (aR env.cells names acc):Sem (List (Str×Addr)))
 | [],acc,_=>rfl
 | (n,k)::r,acc,h=>by
  rw [JI];have ih:=fun acc'=>i4 r acc' fun x hx=>h x (GP _ hx);unfold aR
  by_cases hk:(k==Ha)=true
  ·obtain ⟨c,q⟩:=Jr.mp (h (n,k) HP (beq_iff_eq.mp hk));have j:env.cells.lookup n=some c:=q;have e1:cellOf env n=pure c:=by unfold cellOf;rw [j]
   simp only [hk,if_true,e1,j,pure_bind];exact ih _
  ·simp only [hk,if_false,pure_bind];exact ih _
theorem j3 {scope:Scope} {env:Env} (h:∀ x∈scope.names,x.2 = .free->(env.cells.lookup x.1).isSome=true):closureFor scope env=pure (aR env.cells scope.names []):=by
 unfold closureFor;have e:=i4 (env:=env) scope.names [] h;simp only [bind_pure];exact e
theorem cV {cells:List (Str×Addr)} {y:Str} {c:Addr}:∀ {names:List (Str×Jw)} {acc:List (Str×Addr)},(y,c)∈aR cells names acc->(y,c)∈acc∨(cells.lookup y=some c/\(y,Ha)∈names)
 | [],acc,h => .inl h
 | (n,k)::r,acc,h=>by
  unfold aR at h
  by_cases hk:(k==Ha)=true
  ·rw [if_pos hk] at h;have B:k = .free:=beq_iff_eq.mp hk;subst B
   cases F:cells.lookup n with
   | none =>
     rw [F] at h
     rcases cV h with z | ⟨j,q⟩
     ·exact .inl z
     ·exact .inr ⟨j,GP _ q⟩
   | some c' =>
     rw [F] at h
     rcases cV h with z | ⟨j,q⟩
     ·rcases Gj.mp z with e | z
      ·cases e
       exact .inr ⟨F,HP⟩
      ·exact .inl z
     ·exact .inr ⟨j,GP _ q⟩
  ·rw [if_neg hk] at h
   rcases cV h with z | ⟨j,q⟩
   ·exact .inl z
   ·exact .inr ⟨j,GP _ q⟩
theorem cW {cells:List (Str×Addr)} {y:Str} {c:Addr} (j:cells.lookup y=some c):∀ {names:List (Str×Jw)} {acc:List (Str×Addr)},((y,c)∈acc∨(y,Ha)∈names)->(y,c)∈aR cells names acc
 | [],acc,h=>by
  rcases h with h | h
  ·exact h
  ·simp at h
 | (n,k)::r,acc,h=>by
  unfold aR
  by_cases hk:(k==Ha)=true
  ·rw [if_pos hk];have q:k = .free:=beq_iff_eq.mp hk;subst q
   cases hl:cells.lookup n with
   | none =>
     refine cW j ?_
     rcases h with h | h
     ·exact .inl h
     ·rcases Gj.mp h with e | h
      ·cases e;rw [hl] at j;cases j
      ·exact .inr h
   | some c' =>
     refine cW j ?_
     rcases h with h | h
     ·exact .inl (GP _ h)
     ·rcases Gj.mp h with e | h
      ·cases e;rw [hl] at j;cases j;exact .inl HP
      ·exact .inr h
  ·rw [if_neg hk];refine cW j ?_
   rcases h with h | h
   ·exact .inl h
   ·rcases Gj.mp h with e | h
    ·cases e;exact absurd rfl hk
    ·exact .inr h
theorem cN:∀ (names:List (Str×Jw)) (n:Nat) (acc acc':List (Str×Addr)),IQ n names (acc++acc')=IQ n names acc++acc'
 | [],_,_,_=>rfl
 | (x,k)::r,n,acc,acc'=>by
  unfold IQ
  by_cases j:(k==IG)=true
  ·rw [if_pos j,if_pos j];exact cN r (n+1) ((x,n)::acc) acc'
  ·rw [if_neg j,if_neg j];exact cN r n acc acc'
theorem cO:∀ {names:List (Str×Jw)} {n:Nat} {acc:List (Str×Addr)} {y:Str} {c:Addr},(y,c)∈IQ n names acc->(y,c)∈acc∨(n<=c/\(y,IG)∈names)
 | [],_,_,_,_,h => .inl h
 | (x,k)::r,n,acc,y,c,h=>by
  unfold IQ at h
  by_cases hk:(k==IG)=true
  ·rw [if_pos hk] at h;have j:k = .cell:=beq_iff_eq.mp hk;subst j
   rcases cO h with z | ⟨q,B⟩
   ·rcases Gj.mp z with e | z
    ·cases e;exact .inr ⟨Gi _,HP⟩
    ·exact .inl z
   ·exact .inr ⟨Nat.le_of_succ_le q,GP _ B⟩
  ·rw [if_neg hk] at h
   rcases cO h with z | ⟨q,B⟩
   ·exact .inl z
   ·exact .inr ⟨q,GP _ B⟩
structure aX (sc osc:Scope) (oN N':List Str) (fr:List (Option Nat)):Prop where
 kind:sc.kind = .function
 nd:(sc.names.map (·.1)).Nodup
 ndN:N'.Nodup
 free:∀ x∈sc.names,x.2 = .free->osc.names.lookup x.1=some .cell∨osc.names.lookup x.1=some .free
 len:fr.length=N'.length
 fr:∀ (i j:Nat) (x:Str),N'[i]? = some x->fr[i]? = some (some j)->oN[j]? = some x/\(x,Ha)∈sc.names
noncomputable def inh (fr:List (Option Nat)) (σ:St):St:=fr.map fun o=>o.bind fun j=>(σ[j]?).join
noncomputable def aY (X:Cx) (sc:Scope) (L:Addr):Env :=
 { scope:=relabel sc X.env,locals:=L,globals:=X.env.globals,cells:=IQ (L+1) sc.names (aR X.env.cells sc.names []),qual:=X.env.qual,func:=none,code:=X.env.code,frame:=X.env.frame,builtins:=X.env.builtins }
noncomputable def aD (X:Cx) (sc:Scope) (N':List Str) (s:h7) (H:Hp) (fp:List Addr):Cx :=
 { X with N:=N',s₀ := s,H₀ := H,env:=aY X sc s.heap.objs.size,outer:=X.stack,stack:=X.stack,ex:=fp,fn:=fun x=>sc.names.lookup x==some .cell,pn := [],xe:=fun _ _=>False }
theorem aQ:∀ {l:List (Str×Jw)} {x:Str} {k:Jw},(l.map (·.1)).Nodup->(x,k)∈l->l.lookup x=some k
 | (y,k')::r,x,k,nd,h=>by
  have nd':(y::r.map (·.1)).Nodup:=nd;obtain ⟨q,z⟩:=HV.mp nd';rw [J7]
  rcases Gj.mp h with e | hm
  ·cases e;simp
  ·have j:(x==y)=false:=by
    refine beq_eq_false_iff_ne.mpr fun e => ?_;subst e;exact q (Gk.mpr ⟨(x,k),hm,rfl⟩)
   rw [j];exact aQ z hm
theorem cb {env:Env}:∀ {names:List (Str×Jw)} {x:Str},
 (names.map fun (n,k)=>if (k==Ha&&env.scope.kind == .function&&env.kindOf n==some .cell) then (n,IG) else (n,k)).lookup x =
   (names.lookup x).map fun k=>if (k==Ha&&env.scope.kind == .function&&env.kindOf x==some .cell) then IG else k
 | [],_=>rfl
 | (n,k)::r,x=>by
  have ih:=cb (env:=env) (names:=r) (x:=x);show List.lookup x ((if (k==Ha&&env.scope.kind == .function&&env.kindOf n==some .cell)=true then (n,IG) else (n,k))::_)=_
  rw [J7 (a:=x) (b:=k)]
  by_cases hx:x=n
  ·subst hx;simp only [beq_self_eq_true];show _=some (if (k==Ha&&env.scope.kind == .function&&env.kindOf x==some .cell)=true then IG else k)
   by_cases j:(k==Ha&&env.scope.kind == .function&&env.kindOf x==some .cell)=true
   ·rw [if_pos j,if_pos j,J7];simp only [beq_self_eq_true]
   ·rw [if_neg j,if_neg j,J7];simp only [beq_self_eq_true]
  ·have q:(x==n)=false:=beq_eq_false_iff_ne.mpr hx;rw [q]
   by_cases j:(k==Ha&&env.scope.kind == .function&&env.kindOf n==some .cell)=true
   ·rw [if_pos j,J7,q];exact ih
   ·rw [if_neg j,J7,q];exact ih
section
variable {pins:List (Addr×Obj)} {σ:St} {H:Hp} {s:h7} {sc:Scope} {N':List Str} {fr:List (Option Nat)} {fp:List Addr}
theorem fH (I:Inv X pins σ H s) (B:aX sc X.env.scope X.N N' fr):∀ x∈sc.names,x.2 = .free->(X.env.cells.lookup x.1).isSome=true:=fun x hx e=>by
 obtain ⟨c,j⟩:=I.ok.has x.1 (B.free x hx e);rw [j];rfl
theorem tu (I:Inv X pins σ H s) (f2:∀ b∈fp,bZ X pins H b) (Y:∀ b∈fp,b < s.heap.objs.size) (B:aX sc X.env.scope X.N N' fr) :
 Inv (aD X sc N' s H fp) [] (inh fr σ) H { s with heap:=OO (s.heap.push { cls := .type "dict",data := .dict #[] }) sc.names }:=by
 have G:∀ b o,s.heap.get? b=some o->(OO (s.heap.push { cls := .type "dict",data := .dict #[] }) sc.names).get? b=some o:=fun b o e=>N9 _ _ b o (h6 _ e);have ok:=cellsFrom_ok sc.names (s.heap.push { cls := .type "dict",data := .dict #[] }) (s.heap.objs.size+1) [] ⟨fun _ _ hm=>(nomatch hm),Mg⟩ (by rw [HQ];exact Gi _)
 rw [HQ] at ok;have capp:IQ (s.heap.objs.size+1) sc.names (aR X.env.cells sc.names [])=IQ (s.heap.objs.size+1) sc.names []++aR X.env.cells sc.names []:=cN sc.names _ [] _;have cof:∀ x c,(aY X sc s.heap.objs.size).cells.lookup x=some c->((x,c)∈IQ (s.heap.objs.size+1) sc.names []/\s.heap.objs.size < c)∨(X.env.cells.lookup x=some c/\(x,Ha)∈sc.names):=fun x c e=>by
  have m:=HZ e;have m':(x,c)∈IQ (s.heap.objs.size+1) sc.names (aR X.env.cells sc.names []):=m;rw [capp] at m'
  rcases Gy.mp m' with z | z
  ·exact .inl ⟨z,(ok.empty x c z).2⟩
  ·rcases cV z with q | q
   ·simp at q
   ·exact .inr q
 have cOld:∀ x c,X.env.cells.lookup x=some c->c < s.heap.objs.size:=fun x c e=>by
  obtain ⟨v,q⟩:=I.cell x c e;exact q.lt
 have kindF:∀ x,(x,Ha)∈sc.names->(aY X sc s.heap.objs.size).kindOf x=some .cell∨(aY X sc s.heap.objs.size).kindOf x=some .free:=fun x hx=>by
  have e1:sc.names.lookup x=some .free:=aQ B.nd hx;have e2:(aY X sc s.heap.objs.size).kindOf x=_:=cb (env:=X.env) (names:=sc.names) (x:=x);rw [e1] at e2;rw [e2]
  by_cases J:(Ha==Ha&&X.env.scope.kind == .function&&X.env.kindOf x==some .cell)=true
  ·exact .inl (by simp only [IU,if_pos J])
  ·exact .inr (by simp only [IU,if_neg J])
 have cellF:∀ x c,(x,Ha)∈sc.names->X.env.cells.lookup x=some c->(aY X sc s.heap.objs.size).cells.lookup x=some c:=fun x c hx J=>by
  have m:=cW (acc := []) J (.inr hx);have m2:(x,c)∈(aY X sc s.heap.objs.size).cells:=by
   show (x,c)∈IQ (s.heap.objs.size+1) sc.names (aR X.env.cells sc.names []);rw [capp];exact GA _ m
  cases F:(aY X sc s.heap.objs.size).cells.lookup x with
  | none =>
    exfalso
    have:∀ {l:List (Str×Addr)},(x,c)∈l->l.lookup x=none->False:=by
     intro l
     induction l with
     | nil=>intro h;simp at h
     | cons a r ih =>
       intro h e;obtain ⟨y,d⟩:=a;rw [J7] at e
       rcases Gj.mp h with z | z
       ·cases z;simp at e
       ·by_cases hxy:(x==y)=true
        ·rw [hxy] at e;cases e
        ·simp only [La] at hxy;rw [hxy] at e;exact ih z e
    exact this m2 F
  | some c' =>
    rcases cof x c' F with ⟨z,_⟩ | ⟨z,_⟩
    ·rcases cO z with q | ⟨_,q⟩
     ·simp at q
     ·have a1:=aQ B.nd hx;have a2:=aQ B.nd q;rw [a1] at a2;cases a2
    ·rw [J] at z;rw [z]
 have kindC:∀ x,(aY X sc s.heap.objs.size).kindOf x=some .cell->(x,IG)∈sc.names∨(x,Ha)∈sc.names:=fun x e=>by
  have e2:(aY X sc s.heap.objs.size).kindOf x=_:=cb (env:=X.env) (names:=sc.names) (x:=x);rw [e2] at e
  cases F:sc.names.lookup x with
  | none=>rw [F] at e;cases e
  | some k =>
    rw [F] at e;have m:=HZ F
    cases k with
    | cell=>exact .inl m
    | free=>exact .inr m
    | «local» => simp at e
    | globalImplicit=>simp at e
    | globalExplicit=>simp at e
 have kindFr:∀ x,(aY X sc s.heap.objs.size).kindOf x=some .free->(x,Ha)∈sc.names:=fun x e=>by
  have e2:(aY X sc s.heap.objs.size).kindOf x=_:=cb (env:=X.env) (names:=sc.names) (x:=x);rw [e2] at e
  cases F:sc.names.lookup x with
  | none=>rw [F] at e;cases e
  | some k =>
    rw [F] at e;have m:=HZ F
    cases k with
    | free=>exact m
    | cell=>simp at e
    | «local» => simp at e
    | globalImplicit=>simp at e
    | globalExplicit=>simp at e
 refine ⟨⟨I.ok.mod,B.kind,I.ok.glob,I.ok.blt,Gi _,fun y z c h1 h2 => ?_,fun y Z => ?_,fun y c hf h => ?_,I.ok.hd,I.ok.frames, .inl rfl,fun b O=>⟨?_,fun x c e => ?_⟩,fun b o e=>I.bs b o e, ?_,fun b o e O => ?_,fun b O => ?_,I.stack,I.stkFree⟩,
  rfl,I.bare,Un.kept G,⟨_,(Heap.Ns.new s.heap (.type "dict")).keeps (N9 _ _),fun i x v h1 h2 h3 => ?_⟩,fun y c h => ?_,I.hok.fresh (Gi _),fun y c h => ?_,fun p hp=>absurd (show p∈([]:List (Addr×Obj)) from hp) (by simp),I.hok.kept G, ?_⟩
 ·rcases cof y c h1 with ⟨a1,a2⟩ | ⟨a1,a2⟩
  ·rcases cof z c h2 with ⟨b1,b2⟩ | ⟨b1,b2⟩
   ·exact name_of_addr ok.apart a1 b1
   ·exact absurd (cOld z c b1) (PH.mpr (JY a2))
  ·rcases cof z c h2 with ⟨b1,b2⟩ | ⟨b1,b2⟩
   ·exact absurd (cOld y c a1) (PH.mpr (JY b2))
   ·exact I.ok.inj y z c a1 b1
 ·have E5:(y,IG)∈sc.names∨(y,Ha)∈sc.names:=by
   rcases Z with Z | Z
   ·exact kindC y Z
   ·exact .inr (kindFr y Z)
  rcases E5 with q | q
  ·exact Jr.mp (KL sc.names _ _ (.inl (aQ B.nd q)))
  ·obtain ⟨c,J⟩:=Jr.mp (fH I B _ q rfl);exact ⟨c,cellF y c q J⟩
 ·have E6:(sc.names.lookup y==some .cell)=true:=hf;have E3:sc.names.lookup y=some .cell:=by simpa using E6
  rcases cof y c h with ⟨_,a2⟩ | ⟨_,a2⟩
  ·exact JY a2
  ·rw [aQ B.nd a2] at E3;cases E3
 ·exact GW (Y b O)
 ·rcases cof x c e with ⟨_,a2⟩ | ⟨a1,_⟩
  ·exact HG (Nat.lt_trans (Y b O) a2)
  ·exact (f2 b O).2.2.2.2.1 x c a1
 ·exact J1 I.ok.bsz I.sz
 ·obtain ⟨f0,f1,f3,f4,f5,f6⟩:=f2 b O
  rcases f4 with z | z
  ·exact I.ok.noex b o e z
  ·exact absurd (GX (GX (Ga e) I.ok.bsz) z) (HA _)
 ·obtain ⟨f0,f1,f3,f4,f5,f6⟩:=f2 b O;exact fun z=>(Gj.mp (I.stkSub b z)).elim f1 f3
 ·have hi:∃ j,fr[i]? = some (some j) /\ σ[j]? = some (some v):=by
   unfold inh at h2;rw [GH] at h2
   cases e:fr[i]? with
   | none=>rw [e] at h2;cases h2
   | some o =>
     rw [e] at h2
     cases o with
     | none=>cases h2
     | some j =>
       refine ⟨j,rfl, ?_⟩;have L:some ((σ[j]?).join)=some (some v):=h2
       cases e' : σ[j]? with
       | none=>rw [e'] at L;cases L
       | some w=>rw [e'] at L;cases L;rfl
  obtain ⟨j,e1,e2⟩:=hi;obtain ⟨n1,n2⟩:=B.fr i j x h1 e1;obtain ⟨m,hn,F⟩:=I.loc;have hv:Vis X.env.scope x := .inr (B.free (x, .free) n2 rfl);obtain ⟨u,ru,lk⟩:=F j x v n1 e2 hv;refine ⟨u,ru, .inr ⟨kindF x n2, ?_⟩⟩
  rcases lk with ⟨k1,_⟩ | ⟨_,c,J,U⟩
  ·have E4:X.env.scope.names.lookup x=some .local:=k1
   rcases B.free (x, .free) n2 rfl with z | z
   ·rw [E4] at z;cases z
   ·rw [E4] at z;cases z
  ·exact ⟨c,cellF x c n2 J,U.keeps G⟩
 ·rcases cof y c h with ⟨a1,a2⟩ | ⟨a1,a2⟩
  ·exact ⟨_,(ok.empty y c a1).1⟩
  ·obtain ⟨v,q⟩:=I.cell y c a1;exact ⟨v,q.keeps G⟩
 ·rcases cof y c h with ⟨a1,a2⟩ | ⟨a1,a2⟩
  ·exact I.hok.fresh (JY a2)
  ·exact I.freeC y c a1
 ·show (inh fr σ).length=N'.length;unfold inh;rw [r3];exact B.len
theorem kO {σ':St} {H':Hp} {s':h7} {h':Heap} (I:Inv X pins σ H s) (f2:∀ b∈fp,bZ X pins H b) (J:Inv (aD X sc N' s H fp) [] σ' H' s') (hs:Ib s.heap.objs.size s'.heap h') :
 Inv X pins σ H' { s' with heap:=h' }:=by
 have u:Un (frs X.stack) fp H H' s.heap s'.heap:=J.base;have ne:∀ b o,s.heap.get? b=some o->b≠s.heap.objs.size:=fun b o e=>GW (Ga e);refine I.call' (s' := { s' with heap:=h' }) (ch:=fp) J.os ⟨fun b o e n j hx => ?_,fun b o e n j hx => ?_,u.free,fun b o e hx => ?_,u.tups,u.frzs,u.tbls⟩ (fun b v e => ?_) J.bare fun b j => ?_
 ·exact (hs.2 b (ne b o e)).trans (u.keep b o e n j hx)
 ·obtain ⟨sl,q⟩:=u.slot b o e n j hx;exact ⟨sl,(hs.2 b (ne b o e)).trans q⟩
 ·obtain ⟨o',q⟩:=u.there b o e hx;exact ⟨o',(hs.2 b (ne b o e)).trans q⟩
 ·refine (J.hok b v e).stay (fun c w F q=>(hs.2 c ?_).trans q) (fun _ q=>q) fun _ _ q=>q;have fr:H' s.heap.objs.size=none:=J.free
  rcases F with z | z
  ·rw [z];intro B;rw [B,fr] at e;cases e
  ·intro B;rw [B,fr] at z;cases z
 ·obtain ⟨f0,f1,O,f4,G,L⟩:=f2 b j;exact ⟨f4,f1,G,L⟩
theorem lV {Q:Env->h7->Prop} {E:gV->h7->Prop} {M:Kv} {A:Hg}
 (h:Q { scope:=sc,locals:=s.heap.objs.size,globals:=X.env.globals,cells:=IQ (s.heap.objs.size+1) sc.names (aR X.env.cells sc.names []),qual:=X.env.qual,func:=none,code:=X.env.code,frame:=X.env.frame,builtins:=X.env.builtins }
   { s with heap:=OO (s.heap.push { cls := .type "dict",data := .dict #[] }) sc.names }) :
 Gm M A (Nt sc X.env.globals (aR X.env.cells sc.names []) [] X.env.qual none .none (some X.env)) Q E s:=by
 simp only [Nt,Og,if_true];refine e6 (wpAny_alloc ?_);refine e6 (wpAny_layCells _ (fun name kind cells=>by cases hkc:kind==IG <;> simp [hkc]) _ _ _ _ ?_)
 rw [show ({ s with heap:=s.heap.push { cls := .type "dict",data := .dict #[] } }:h7).heap.objs.size=s.heap.objs.size+1 from HQ ..]
 exact e6 (q7 (q7 h))
theorem mN (hc:X.calm=true) {elt target iter:Expr} {ifs:List Expr} {rest:List Hr} {pos:Pos} {E:gV->h7->Prop}
 (hx:∀ e s,X.xe e s->False) (B:aX sc X.env.scope X.N N' fr) (ha:∀ g',rest[0]? = some g'->g'.is_async=0) {wi:TI} (hi:PI X target iter wi) {g:TG} {tb:Addr->TC}
 (hg:∀ s H fp,PG (aD X sc N' s H fp) target g)
 (j:∀ s H fp p,PB (aD X sc N' s H fp) (fun k=>ba ifs (aD X sc N' s H fp).env >>= fun ok=>if ok=true then aW elt (⟨target,iter,ifs,0⟩::rest) sc pos 0 (.ref p) (aD X sc N' s H fp).env k else k) (tb p))
 {Nn:Addr->St->Hp->Prop} {RR:gV->Addr->Result->h7->Prop} (I:Inv X pins σ H s)
 (h:wi σ H fun J H1 => ∀ p,H1 p=none->ca J g (tb p) (Nn p) (inh fr σ) (upd H1 p (.lst [])))
 (hR:∀ p fp s3 L s' σ' H' f,Inv X pins σ L s3->(∀ b∈fp,bZ X pins L b)->Inv (aD X sc N' s3 L fp) [] σ' H' s'->Nn p σ' H'->RR (.ref p) s3.heap.objs.size (.ok f) s') :
 Gm (model X.prog X.w) X.A (eval iter X.env) (fun x s₁ => Gm (model X.prog X.w) X.A (Nm x) (fun it s₂ => Gm (model X.prog X.w) X.A (newList []) (fun acc s₃ =>
  Gm (model X.prog X.w) X.A (Nt sc X.env.globals (aR X.env.cells sc.names []) [] X.env.qual none .none (some X.env)) (fun cenv s₄ =>
   Lf (model X.prog X.w) X.A (.compStart (.ListComp elt (⟨target,iter,ifs,0⟩::rest) sc pos) 0 it acc { cenv with scope:=relabel sc X.env }) (RR acc cenv.locals) s₄) E s₃) E s₂) E s₁) E s:=by
 refine nox hx (thn (hi pins s σ H _ I h) fun v s1 h1=>nox hx (thn h1 fun itv s2 h2 => ?_));obtain ⟨it,fp,tn,J,H2,e,Z,T,q,f2,hw⟩:=h2;subst e;have hf:H2 s2.heap.objs.size=none:=Z.hok.fresh (Gi _);refine Kh ?_;have I3:Inv X pins σ (upd H2 s2.heap.objs.size (.lst [])) { s2 with heap:=s2.heap.push { cls := .type "list",dict:=none,data := .seq ([]:List gV).toArray } } :=
  Z.laid (t':=s2.toks) (fun b u e=>h6 _ e) (Gi _) ⟨Ih _,[],0, .nil,Gh _ rfl⟩
 have fneq:∀ b∈fp,b≠s2.heap.objs.size:=fun b j z=>by
  obtain ⟨o,e,_⟩:=T.obj _ _ q b j;exact absurd (Ga e) (by rw [z];exact HA _)
 have O:∀ b∈fp,bZ X pins (upd H2 s2.heap.objs.size (.lst [])) b:=fun b j=>⟨by rw [aj (fneq b j)];exact (f2 b j).1,(f2 b j).2⟩
 have U:∀ b∈fp,b < (s2.heap.push { cls := .type "list",dict:=none,data := .seq ([]:List gV).toArray }).objs.size:=fun b j=>by
  obtain ⟨o,e,_⟩:=T.obj _ _ q b j;rw [HQ];exact Mh (Ga e)
 have Y:tn 0 (s2.heap.push { cls := .type "list",dict:=none,data := .seq ([]:List gV).toArray }):=T.keep _ _ _ q fun b _ o e=>h6 _ e;refine lV ?_;have G:=tu (N':=N') I3 O U B;have F:=T.keep _ (h':=OO (({ s2 with heap:=s2.heap.push { cls := .type "list",dict:=none,data := .seq ([]:List gV).toArray } }:h7).heap.push { cls := .type "dict",data := .dict #[] }) sc.names) _ Y fun b _ o e=>N9 _ _ b o (h6 _ e)
 have f4:∀ b∈fp,bZ (aD X sc N' { s2 with heap:=s2.heap.push { cls := .type "list",dict:=none,data := .seq ([]:List gV).toArray } } (upd H2 s2.heap.objs.size (.lst [])) fp) [] (upd H2 s2.heap.objs.size (.lst [])) b:=fun b j =>
  ⟨(O b j).1,(G.ok.exf b j).1,G.ok.exfs b j, .inl j,(G.ok.exf b j).2,fun p hp=>absurd (show p∈([]:List (Addr×Obj)) from hp) (by simp)⟩
 have loop:=kM (X:=aD X sc N' { s2 with heap:=s2.heap.push { cls := .type "list",dict:=none,data := .seq ([]:List gV).toArray } } (upd H2 s2.heap.objs.size (.lst [])) fp) (fun _ _ z=>z) hc
  (elt:=elt) (pos:=pos) (scope:=sc) (gens:=⟨target,iter,ifs,0⟩::rest) (d := 0) (acc := .ref s2.heap.objs.size) rfl (fun g' e=>ha g' (by simpa using e)) (hg _ _ _) (j _ _ _ _) G T F f4 (hw _ hf)
 refine KJ (iZ (R:=fun r s'=>match r with | .ok _ => ∃ σ' H',Inv (aD X sc N' { s2 with heap:=s2.heap.push { cls := .type "list",dict:=none,data := .seq ([]:List gV).toArray } } (upd H2 s2.heap.objs.size (.lst [])) fp) [] σ' H' s'/\Nn s2.heap.objs.size σ' H' | .error _=>False)
  (gens:=⟨target,iter,ifs,0⟩::rest) (d := 0) rfl loop (T.self _ 0 _ _ _ F loop)) fun r s5 hr => ?_
 cases r with
 | error e=>exact hr.elim
 | ok f =>
   obtain ⟨σ5,H5,I5,n5⟩:=hr;exact hR _ fp _ _ s5 σ5 H5 f I3 O I5 n5
noncomputable def r9 (wi:TI) (g:TG) (tb:Addr->TC) (fr:List (Option Nat)):TE:=fun σ H Q=>wi σ H fun J H1 => ∀ p,H1 p=none->ca J g (tb p) (fun _ H2=>Q (.ref p) H2) (inh fr σ) (upd H1 p (.lst []))
theorem kP (B:aX sc X.env.scope X.N N' fr):∀ x∈sc.names,x.2 = .local->sc.names.lookup x.1=some .local:=fun x hx e=>by
 obtain ⟨n,k⟩:=x;have e':k = .local:=e;subst e';exact aQ B.nd hx
theorem i5 (z:X.calm=true) {elt target iter:Expr} {ifs:List Expr} {rest:List Hr} {pos:Pos}
 (hx:∀ e s,X.xe e s->False) (B:aX sc X.env.scope X.N N' fr) (F:∀ g',rest[0]? = some g'->g'.is_async=0) {wi:TI} (hi:PI X target iter wi) {g:TG} {tb:Addr->TC}
 (G:∀ s H fp,PG (aD X sc N' s H fp) target g)
 (L:∀ s H fp p,PB (aD X sc N' s H fp) (fun k=>ba ifs (aD X sc N' s H fp).env >>= fun ok=>if ok=true then aW elt (⟨target,iter,ifs,0⟩::rest) sc pos 0 (.ref p) (aD X sc N' s H fp).env k else k) (tb p))
 (hs:∀ x,IP iter X.env x=pure x) :
 PE X (.ListComp elt (⟨target,iter,ifs,0⟩::rest) sc pos) (r9 wi g tb fr):=by
 intro pins s σ H Q I h;rw [eval_ListComp];refine Ml (use:=none) rfl hs (j3 (fH I B)) B.kind (kP B) (mN (Nn:=fun p _ H2=>Q (.ref p) H2) (RR:=fun acc C=>compPost (model X.prog X.w) X.A X.xe none (EP X pins σ Q) acc C) z hx B F hi G L I h ?_);intro p fp s3 Z s' σ' H' f O U J q;obtain ⟨m,Y,_⟩:=J.loc;exact ⟨m,Y,fun h' j=>⟨.ref p,H',kO O U J j,rfl,q⟩⟩
theorem j4 (hc:X.calm=true) {elt target iter:Expr} {ifs:List Expr} {rest:List Hr} {pos pos' spos:Pos} {x:Str} {i:Nat}
 (hx:∀ e s,X.xe e s->False) (B:aX sc X.env.scope X.N N' fr) (ha:∀ g',rest[0]? = some g'->g'.is_async=0) {wi:TI} (hi:PI X target iter wi) {g:TG} {tb:Addr->TC}
 (hg:∀ s H fp,PG (aD X sc N' s H fp) target g)
 (F:∀ s H fp p,PB (aD X sc N' s H fp) (fun k=>ba ifs (aD X sc N' s H fp).env >>= fun ok=>if ok=true then aW elt (⟨target,iter,ifs,0⟩::rest) sc pos 0 (.ref p) (aD X sc N' s H fp).env k else k) (tb p))
 (hs:∀ x,IP iter X.env x=pure x) (G:PG X (.Name x pos') (iM i))
 (L:Kw (.ListComp elt (⟨target,iter,ifs,0⟩::rest) sc pos) (some (.Name x pos')) spos.line X.env=pure true) :
 PS X (.Assign [.Name x pos'] (.ListComp elt (⟨target,iter,ifs,0⟩::rest) sc pos) spos) (qP (r9 wi g tb fr) (iM i)):=by
 intro pins s σ H D I h;rw [exec_Assign_Name_used _ _ _ _ L];refine e6 (JM (e6 ?_));show Gm _ X.A (do let _ <- comprehension (.ListComp elt (⟨target,iter,ifs,0⟩::rest) sc pos) sc X.env _ (newList []) false (eval iter X.env) (some (assign (.Name x pos') X.env))) _ _ s
 refine e6 (HF (Ml (use:=some (assign (.Name x pos') X.env)) (Q:=fun _ s'=>SP X pins D .next s') rfl hs (j3 (fH I B)) B.kind (kP B)
  (mN (Nn:=fun p _ H2=>D.nx (σ.set i (some (.ref p))) H2) (RR:=fun acc C=>compPost (model X.prog X.w) X.A X.xe (some (assign (.Name x pos') X.env)) (fun _ s'=>SP X pins D .next s') acc C) hc hx B ha hi hg F I h ?_)) (fun _ s' hq=>q7 (q7 hq)) fun _ _ e=>e)
 intro p fp s3 H3 s' σ' H' f j f3 J q;obtain ⟨m,⟨o,es,ep,ho,hd,hk,hm⟩,_⟩:=J.loc;have I4:Inv X pins σ H' s':=kO (h':=s'.heap) j f3 J ⟨rfl,fun _ _=>rfl⟩;have hL:(aD X sc N' s3 H3 fp).env.locals=s3.heap.objs.size:=rfl;rw [hL] at ho;have O:H' s3.heap.objs.size=none:=J.free;have neL:s3.heap.objs.size≠X.env.locals:=HG j.lt;have nfs:s3.heap.objs.size∉X.fs:=j.nofs (Gi _);have I5:Inv X (pins++[(s3.heap.objs.size,o)]) σ H' s':=I4.pins_of fun pr U=>by
  rcases Gy.mp U with z | z
  ·exact I4.pin pr (GA _ z)
  ·have e:pr=(s3.heap.objs.size,o):=by simpa using z
   subst e;exact ⟨ho,O,neL,nfs,fun v z=>by rw [hd] at z;cases z⟩
 show Gm _ X.A (assign (.Name x pos') X.env (.ref p)) _ _ _;refine thn (G _ s' σ H' (.ref p) (.ref p) D.nx I5 rfl q) fun _ s6 ⟨σ6,H6,I6,q6⟩ => ?_;obtain ⟨Y,Z,_⟩:=I6.pin (s3.heap.objs.size,o) (GA _ (GA _ (by simp)))
 refine ⟨m,⟨o,es,ep,Y,hd,hk,hm⟩,fun h' E3=>⟨σ6,H6, ?_,q6⟩⟩;refine (I6.unpinned).turned (t':=s6.toks) (it:=s3.heap.objs.size) (fun b o F e=>(E3.2 b F).trans e) Z neL (.inr j.sz) (fun y c e z => ?_) fun pr U z => ?_
 ·obtain ⟨v,q⟩:=j.cell y c e;exact absurd q.lt (by rw [z];exact HA _)
 ·exact absurd (Ga (j.pin pr U).1) (by rw [z];exact HA _)
end
end
end
end L2
namespace L2
namespace Zp
open PySem PySem.Spec PyProof.Rows
def At (t:Bool) (h:Heap) (i l:Addr) (k:Nat):Prop:=match t with | true=>h.IsTupleIter i l k | false=>h.IsListIter i l k
def Sq (t:Bool) (h:Heap) (l:Addr) (xs:Array gV):Prop:=match t with | true=>h.IsTuple l xs | false=>h.IsList l xs
theorem At.up {t:Bool} {h h':Heap} {i l:Addr} {k:Nat} (x:At t h i l k) (e:∀ o,h.get? i=some o->h'.get? i=some o):At t h' i l k:=by
 cases t <;> (obtain ⟨o,ho,r⟩:=x;exact ⟨o,e o ho,r⟩)
theorem Sq.up {t:Bool} {h h':Heap} {l:Addr} {xs:Array gV} (x:Sq t h l xs) (e:∀ o,h.get? l=some o->h'.get? l=some o):Sq t h' l xs:=by
 cases t <;> (obtain ⟨o,ho,r⟩:=x;exact ⟨o,e o ho,r⟩)
theorem At.lt {t:Bool} {h:Heap} {i l:Addr} {k:Nat} (x:At t h i l k):∃ o,h.get? i=some o /\ ∀ v,o.data ≠ .cell v:=by
 cases t <;> (obtain ⟨o,ho,j,hd⟩:=x;exact ⟨o,ho,fun v z=>by rw [hd] at z;cases z⟩)
section
variable {prog:GI} {w:Hf} {A:Hg} {E:gV->h7->Prop} {s:h7}
open Builtin.SmallTypes in
theorem vZ {i l:Addr} {k:Nat} {xs:Array gV} {x:gV} {Q:gV->h7->Prop} (hi:s.heap.IsTupleIter i l k) (L:s.heap.IsTuple l xs) (hx:xs[k]? = some x)
 (q:∀ h',h'.IsTupleIter i l (k+1)->Ib i s.heap h'->Q x { s with heap:=h' }):Gm (model prog w) A (nextOf (.ref i)) Q E s:=by
 obtain ⟨ob,z,B,j⟩:=id hi;obtain ⟨oq,G,_,nq,J⟩:=L;unfold nextOf;refine e6 (H0 (name:=Il "__next__") hi.typeIs Jb (H8 Jb hi.typeIs LD ?_ (Lv _)));refine e6 (m:=field (.ref i) 0) (GU z j (x := .ref l) rfl ?_);refine (if_neg (c:=(GJ l==JS)=true) Gb) ▸ ?_;refine e6 (m:=field (.ref i) 1) (GU z j (x := .int k 0) rfl ?_);refine e6 (m:=seqItems? (.ref l)) (Jc G J ?_);simp only [Gq,hx];refine e6 (wpAny_setField z j (by simp) (q7 ⟨x,rfl,q7 (q _ ⟨_,Ng _ z (Obj.isFreed_of_fields (Oh j _)),(Obj.cls_mapFields ..).trans B, ?_⟩ (NO ..))⟩))
 rw [Oh j];simp [II]
open Builtin.SmallTypes in
theorem yV {i l:Addr} {k:Nat} {xs:Array gV} {Q:gV->h7->Prop} (J:A.handled=none) (hi:s.heap.IsTupleIter i l k) (L:s.heap.IsTuple l xs) (hx:xs[k]? = none)
 (q:∀ h' e,P6 i s.heap h'->(∃ o,h'.get? e=some o/\o.cls = .type "StopIteration")->E (.ref e) { s with heap:=h' }):Gm (model prog w) A (nextOf (.ref i)) Q E s:=by
 obtain ⟨ob,j,O,z⟩:=id hi;obtain ⟨oq,B,_,nq,G⟩:=L;unfold nextOf;refine e6 (H0 (name:=Il "__next__") hi.typeIs Jb (H8 Jb hi.typeIs LD ?_ (Lv _)));refine e6 (m:=field (.ref i) 0) (GU j z (x := .ref l) rfl ?_);refine (if_neg (c:=(GJ l==JS)=true) Gb) ▸ ?_;refine e6 (m:=field (.ref i) 1) (GU j z (x := .int k 0) rfl ?_);refine e6 (m:=seqItems? (.ref l)) (Jc B G ?_);simp only [Gq,hx];refine e6 (IC (e6 (wpAny_setField j z (by simp) ?_)))
 refine e6 (m:=newExc (.type "StopIteration") []) ?_;simp only [newExc,newTuple];refine e6 (I0 ?_ (by size_fits))
 refine e6 (m:=LR _ _) (Jl (a:=JS) (by first | rfl | (simp only [LR];rfl)) (I0 ?_ (by size_fits)))
 simp only [raiseNew];refine e6 (wpAny_handled ?_)
 first | rw [show A.in1.handled=none from J] | rw [J]
 exact e6 (q7 (wpAny_throw (q _ _ (((NO ..).extBut.push _).push _) ⟨_,Gh _ rfl,rfl⟩)))
open Builtin.SmallTypes in
theorem gx {t:Bool} {i l:Addr} {k:Nat} {xs:Array gV} {x:gV} {Q:gV->h7->Prop} (hi:At t s.heap i l k) (j:Sq t s.heap l xs) (hx:xs[k]? = some x)
 (q:∀ h',At t h' i l (k+1)->Ib i s.heap h'->Q x { s with heap:=h' }):Gm (model prog w) A (nextOf (.ref i)) Q E s:=by
 cases t with
 | true=>exact vZ hi j hx q
 | false=>exact wpAny_nextOf_list_item hi j hx q
open Builtin.SmallTypes in
theorem nx_end {t:Bool} {i l:Addr} {k:Nat} {xs:Array gV} {Q:gV->h7->Prop} (j:A.handled=none) (hi:At t s.heap i l k) (z:Sq t s.heap l xs) (hx:xs[k]? = none)
 (q:∀ h' e,P6 i s.heap h'->(∃ o,h'.get? e=some o/\o.cls = .type "StopIteration")->E (.ref e) { s with heap:=h' }):Gm (model prog w) A (nextOf (.ref i)) Q E s:=by
 cases t with
 | true=>exact yV j hi z hx q
 | false=>exact wpAny_nextOf_list_end j hi z hx q
open Builtin.SmallTypes in
theorem Bb {z T O i j a b:Addr} {t u:Bool} {k:Nat} {xs ys:Array gV} {x y p r:gV} {Q:gV->h7->Prop} (D:Nu z T O i j a b)
 (F:Mj s.heap z T O .none) (hT:Ju s.heap T (.ref i) (.ref j)) (hO:Ju s.heap O p r)
 (hi:At t s.heap i a k) (hj:At u s.heap j b k) (ha:Sq t s.heap a xs) (hb:Sq u s.heap b ys) (hx:xs[k]? = some x) (hy:ys[k]? = some y)
 (q:∀ h',Mj h' z T O (II s.heap.objs.size)->Ju h' O x y->At t h' i a (k+1)->At u h' j b (k+1)->Ju h' s.heap.objs.size x y ->
   (∀ c o,c≠z->c≠O->c≠i->c≠j->s.heap.get? c=some o->h'.get? c=some o)->Q (.ref s.heap.objs.size) { s with heap:=h' }) :
 Gm (model prog w) A (Im.«zip.__next__» ⟨[.ref z],[]⟩) (fun fin s' => ∃ v,fin = .done (.ret v)/\Q v s') E s:=by
 refine e6 (m:=field (.ref z) 2) (GU F rfl (x := .bool false) rfl ?_);refine e6 (m:=field (.ref z) 3) (GU F rfl (x := .ref T) rfl ?_);refine e6 (Jc hT rfl ?_);refine e6 (m:=ownedTupleIsFree (.ref z)) ?_;unfold ownedTupleIsFree;refine e6 (GU F rfl (x := .none) rfl (q7 ?_));simp only [if_true];refine e6 (IC (e6 (GU F rfl (x := .ref O) rfl (e6 (Gx F (by simp) fun g1 z1 s1 => ?_)))))
 have Z1:Mj g1 z T O .ellipsis:=z1;clear z1;refine e6 ?_;simp only [Mu,Pe,JI,Nv];refine e6 (e6 (Mm (e6 (m:=nextOf (.ref i)) ?_)));refine gx (hi.up fun o e=>s1.extBut _ o D.i1z e) (ha.up fun o e=>s1.extBut _ o D.l1z e) hx fun g2 L s2=>q7 ?_;have O2:Ju g2 O p r:=s2.extBut _ _ D.TOi1 (s1.extBut _ _ D.TOz hO);refine e6 (Jc O2 rfl (e6 (Li O2 fun g3 o3 s3 => ?_)));have O3:Ju g3 O x r:=o3;clear o3;refine e6 (Lj (q7 (e6 (e6 (Mm (e6 (m:=nextOf (.ref j)) ?_))))));refine gx (hj.up fun o e=>s3.extBut _ o D.TOi2.symm (s2.extBut _ o D.i12.symm (s1.extBut _ o D.i2z e))) (hb.up fun o e=>s3.extBut _ o D.l2TO (s2.extBut _ o D.l2i1 (s1.extBut _ o D.l2z e))) hy fun g4 U s4=>q7 ?_;have O4:Ju g4 O x r:=s4.extBut _ _ D.TOi2 O3;refine e6 (Jc O4 rfl (e6 (Li O4 fun B o5 s5 => ?_)));have O5:Ju B O x y:=o5;clear o5;refine e6 (Lj (q7 (q7 (e6 (Jc O5 rfl (e6 (Jy ?_)))))));have sz:B.objs.size=s.heap.objs.size:=by rw [s5.1,s4.1,s3.1,s2.1,s1.1]
 have k5:∀ c o,c≠z->c≠O->c≠i->c≠j->s.heap.get? c=some o->B.get? c=some o:=fun c o c1 G Y Z e =>
  s5.extBut _ _ G (s4.extBut _ _ Z (s3.extBut _ _ G (s2.extBut _ _ Y (s1.extBut _ _ c1 e))))
 have Z5:Mj B z T O .ellipsis:=s5.extBut _ _ D.TOz.symm (s4.extBut _ _ D.i2z.symm (s3.extBut _ _ D.TOz.symm (s2.extBut _ _ D.i1z.symm Z1)));have I5:At t B i a (k+1):=L.up fun o e=>s5.extBut _ o D.TOi1.symm (s4.extBut _ o D.i12 (s3.extBut _ o D.TOi1.symm e));have J5:At u B j b (k+1):=U.up fun o e=>s5.extBut _ o D.TOi2.symm e;have zl:z < B.objs.size:=Ga Z5;refine e6 (m:=ownedTupleHandOut (.ref z) (.ref B.objs.size)) ?_;unfold ownedTupleHandOut;refine e6 (Gx (h6 _ Z5) (by simp) fun g7 z7 s7 => ?_)
 have Z7:Mj g7 z T O (II B.objs.size):=z7;clear z7;refine Gx Z7 (by simp) fun J z8 s8 => ?_
 have Z8:Mj J z T O (II B.objs.size):=z8;clear z8;have up:∀ c o,c≠z->B.get? c=some o->J.get? c=some o:=fun c o c1 e=>s8.extBut _ _ c1 (s7.extBut _ _ c1 (h6 _ e));have P8:Ju J B.objs.size x y:=s8.extBut _ _ (HG zl) (s7.extBut _ _ (HG zl) (Gh _ rfl));rw [sz] at Z8 P8;refine q7 ⟨_,rfl, ?_⟩;show Q (.ref B.objs.size) _;rw [sz];exact q J Z8 (up _ _ D.TOz O5) (I5.up fun o e=>up _ o D.i1z e) (J5.up fun o e=>up _ o D.i2z e) P8 fun c o c1 G Y Z e=>up c o c1 (k5 c o c1 G Y Z e)
open Builtin.SmallTypes in
theorem CN {z T O i j a b:Addr} {t u:Bool} {k:Nat} {xs ys:Array gV} {p r:gV} {Q:Fin->h7->Prop} (Z:A.handled=none) (D:Nu z T O i j a b)
 (G:Mj s.heap z T O .none) (hT:Ju s.heap T (.ref i) (.ref j)) (hO:Ju s.heap O p r)
 (hi:At t s.heap i a k) (hj:At u s.heap j b k) (ha:Sq t s.heap a xs) (hb:Sq u s.heap b ys) (J:xs[k]? = none∨ys[k]? = none)
 (q:∀ h' e,(∀ c o,c≠z->c≠O->c≠i->c≠j->s.heap.get? c=some o->h'.get? c=some o)->(∃ o,h'.get? e=some o/\o.cls = .type "StopIteration")->E (.ref e) { s with heap:=h' }) :
 Gm (model prog w) A (Im.«zip.__next__» ⟨[.ref z],[]⟩) Q E s:=by
 refine e6 (m:=field (.ref z) 2) (GU G rfl (x := .bool false) rfl ?_);refine e6 (m:=field (.ref z) 3) (GU G rfl (x := .ref T) rfl ?_);refine e6 (Jc hT rfl ?_);refine e6 (m:=ownedTupleIsFree (.ref z)) ?_;unfold ownedTupleIsFree;refine e6 (GU G rfl (x := .none) rfl (q7 ?_));simp only [if_true];refine e6 (IC (e6 (GU G rfl (x := .ref O) rfl (e6 (Gx G (by simp) fun g1 z1 s1 => ?_)))))
 have Z1:Mj g1 z T O .ellipsis:=z1;clear z1;refine e6 ?_;simp only [Mu,Pe,JI,Nv];refine e6 (e6 (Mm (e6 (m:=nextOf (.ref i)) ?_)));have L:At t g1 i a k:=hi.up fun o e=>s1.extBut _ o D.i1z e;have U:Sq t g1 a xs:=ha.up fun o e=>s1.extBut _ o D.l1z e
 cases hx:xs[k]? with
 | none =>
   refine nx_end Z L U hx fun g2 e s2 he => ?_;obtain ⟨oe,B,F⟩:=he;have Z2:Mj g2 z T O .ellipsis:=s2 _ _ D.i1z.symm Z1;have ez:e≠z:=fun x=>by subst x;rw [Z2] at B;cases B;simp at F
   exact Gx Z2 (by simp) fun g3 _ s3=>q g3 e (fun c o c1 _ Y _ x=>s3.extBut _ _ c1 (s2 _ _ Y (s1.extBut _ _ c1 x))) ⟨oe,s3.extBut _ _ ez B,F⟩
 | some x =>
   have hy:ys[k]? = none:=J.elim (fun z=>by rw [hx] at z;cases z) id
   refine gx L U hx fun g2 E3 s2=>q7 ?_;have O2:Ju g2 O p r:=s2.extBut _ _ D.TOi1 (s1.extBut _ _ D.TOz hO);refine e6 (Jc O2 rfl (e6 (Li O2 fun g3 o3 s3 => ?_)));refine e6 (Lj (q7 (e6 (e6 (Mm (e6 (m:=nextOf (.ref j)) ?_))))));refine nx_end Z (hj.up fun o e=>s3.extBut _ o D.TOi2.symm (s2.extBut _ o D.i12.symm (s1.extBut _ o D.i2z e))) (hb.up fun o e=>s3.extBut _ o D.l2TO (s2.extBut _ o D.l2i1 (s1.extBut _ o D.l2z e))) hy fun g4 e s4 he => ?_;obtain ⟨oe,B,F⟩:=he;have Z4:Mj g4 z T O .ellipsis:=s4 _ _ D.i2z.symm (s3.extBut _ _ D.TOz.symm (s2.extBut _ _ D.i1z.symm Z1));have ez:e≠z:=fun x=>by subst x;rw [Z4] at B;cases B;simp at F
   exact Gx Z4 (by simp) fun g5 _ s5=>q g5 e (fun c o c1 c2 Y c4 x=>s5.extBut _ _ c1 (s4 _ _ c4 (s3.extBut _ _ c2 (s2.extBut _ _ Y (s1.extBut _ _ c1 x))))) ⟨oe,s5.extBut _ _ ez B,F⟩
theorem nxt_item {z T O i j a b:Addr} {t u:Bool} {k:Nat} {xs ys:Array gV} {x y p r:gV} {Q:Option gV->h7->Prop} (D:Nu z T O i j a b)
 (B:Mj s.heap z T O .none) (G:Ju s.heap T (.ref i) (.ref j)) (J:Ju s.heap O p r)
 (hi:At t s.heap i a k) (L:At u s.heap j b k) (U:Sq t s.heap a xs) (Y:Sq u s.heap b ys) (hx:xs[k]? = some x) (Z:ys[k]? = some y)
 (q:∀ h',Mj h' z T O (II s.heap.objs.size)->Ju h' O x y->At t h' i a (k+1)->At u h' j b (k+1)->Ju h' s.heap.objs.size x y ->
   (∀ c o,c≠z->c≠O->c≠i->c≠j->s.heap.get? c=some o->h'.get? c=some o)->Q (some (.ref s.heap.objs.size)) { s with heap:=h' }) :
 Gm (model prog w) A (Jq (.ref z)) Q E s:=by
 have ty:s.TypeIs (.ref z) "zip" := ⟨_,B,rfl⟩;unfold Jq;exact e6 (Jv (H0 (name:=Il "__next__") ty Lw (H8 Lw ty OP
  (Bb D B G J hi L U Y hx Z fun h' a1 a2 a3 a4 a5 a6=>q7 (q h' a1 a2 a3 a4 a5 a6)) (Ox _))))
theorem nxt_end {z T O i j a b:Addr} {t u:Bool} {k:Nat} {xs ys:Array gV} {p r:gV} {Q:Option gV->h7->Prop} (J:A.handled=none) (D:Nu z T O i j a b)
 (G:Mj s.heap z T O .none) (L:Ju s.heap T (.ref i) (.ref j)) (U:Ju s.heap O p r)
 (hi:At t s.heap i a k) (Y:At u s.heap j b k) (Z:Sq t s.heap a xs) (hb:Sq u s.heap b ys) (B:xs[k]? = none∨ys[k]? = none)
 (q:∀ h',(∀ c o,c≠z->c≠O->c≠i->c≠j->s.heap.get? c=some o->h'.get? c=some o)->Q none { s with heap:=h' }):Gm (model prog w) A (Jq (.ref z)) Q E s:=by
 have ty:s.TypeIs (.ref z) "zip" := ⟨_,G,rfl⟩;unfold Jq;refine e6 (Jv (H0 (name:=Il "__next__") ty Lw (H8 Lw ty OP
  (CN J D G L U hi Y Z hb B fun h' e hk he => ?_) (Ox _))))
 obtain ⟨o,ho,hc⟩:=he;exact e6 (Lb (T := "StopIteration") (b:=true) ⟨o,ho,hc⟩ Nw (q7 (q _ hk)))
noncomputable def itO (t:Bool) (l:Addr):Obj:=match t with | true => { cls := .type "tuple_iterator",data := .fields #[.ref l, .int 0 0] } | false => { cls := .type "list_iterator",data := .fields #[.ref l, .int 0 0] }
noncomputable def zH1 (h:Heap) (t:Bool) (a:Addr):Heap:=h.push (itO t a)
noncomputable def zH2 (h:Heap) (t u:Bool) (a b:Addr):Heap:=(zH1 h t a).push (itO u b)
noncomputable def zH3 (h:Heap) (t u:Bool) (a b:Addr):Heap:=(zH2 h t u a b).push { cls := .type "tuple",data := .seq #[.ref h.objs.size, .ref (zH1 h t a).objs.size] }
noncomputable def zH4 (h:Heap) (t u:Bool) (a b:Addr):Heap:=(zH3 h t u a b).push { cls := .type "tuple",data := .seq #[.none, .none] }
noncomputable def zH5 (h:Heap) (t u:Bool) (a b:Addr):Heap:=(zH4 h t u a b).push { cls := .type "zip",data := .fields #[.none, .bool false, .bool false, .ref (zH2 h t u a b).objs.size, .ref (zH3 h t u a b).objs.size] }
theorem tw (t u:Bool) (a b:Addr) (xs ys:Array gV) :
 Meets (Im.«zip.__new__» ⟨[.type "zip", .ref a, .ref b],[]⟩) (fun _ R s=>Sq t s.heap a xs/\Sq u s.heap b ys/\R (.ok (.ret (.ref (zH4 s.heap t u a b).objs.size))) { s with heap:=zH5 s.heap t u a b }) :=
 .of_wp fun prog w A R s h=>by
  obtain ⟨j,g,d,tk,os⟩:=s;obtain ⟨q,z,h⟩:=h;have hs:=sub_zip
  cases t <;> cases u
  ·have e1:Nx (JB ⟨j,g,d,tk,os⟩) a xs:=q;have e2:Nx (JB ⟨j.push { cls := .type "list_iterator",data := .fields #[.ref a, .int 0 0] },g,d,tk,os⟩) b ys:=OQ z _
   wp_walk using Jm e1,Jm e2
   exact ⟨_,rfl,h⟩
  ·have e1:Nx (JB ⟨j,g,d,tk,os⟩) a xs:=q;have e2:LF (JB ⟨j.push { cls := .type "list_iterator",data := .fields #[.ref a, .int 0 0] },g,d,tk,os⟩) b ys:=Oy z _
   wp_walk using Jm e1,Ie e2
   exact ⟨_,rfl,h⟩
  ·have e1:LF (JB ⟨j,g,d,tk,os⟩) a xs:=q;have e2:Nx (JB ⟨j.push { cls := .type "tuple_iterator",data := .fields #[.ref a, .int 0 0] },g,d,tk,os⟩) b ys:=OQ z _
   wp_walk using Ie e1,Jm e2
   exact ⟨_,rfl,h⟩
  ·have e1:LF (JB ⟨j,g,d,tk,os⟩) a xs:=q;have e2:LF (JB ⟨j.push { cls := .type "tuple_iterator",data := .fields #[.ref a, .int 0 0] },g,d,tk,os⟩) b ys:=Oy z _
   wp_walk using Ie e1,Ie e2
   exact ⟨_,rfl,h⟩
theorem at_new {t:Bool} {h:Heap} {i l:Addr} (e:h.get? i=some (itO t l)):At t h i l 0:=by
 cases t <;> exact ⟨_,e,rfl,rfl⟩
theorem call_zip {t u:Bool} {a b:Addr} {xs ys:Array gV} {Q:gV->h7->Prop} (ha:Sq t s.heap a xs) (hb:Sq u s.heap b ys)
 (q:∀ h',Mj h' (s.heap.objs.size+4) (s.heap.objs.size+2) (s.heap.objs.size+3) .none->Ju h' (s.heap.objs.size+2) (.ref s.heap.objs.size) (.ref (s.heap.objs.size+1)) ->
   Ju h' (s.heap.objs.size+3) .none .none->At t h' s.heap.objs.size a 0->At u h' (s.heap.objs.size+1) b 0->h'.objs.size=s.heap.objs.size+5 ->
   (∀ c o,s.heap.get? c=some o->h'.get? c=some o)->Q (.ref (s.heap.objs.size+4)) { s with heap:=h' }) :
 Gm (model prog w) A (call (.type "zip") [.ref a, .ref b]) Q E s:=by
 refine callType_new F.called_zip (by decide) (F.typeCall_zip_2 _ _) (F.newCall_zip_2 _ _) (fun obj=>F.args_object_init_3 obj _ _) F.entry_zip_new (tw t u a b xs ys) ⟨ha,hb, ?_⟩
 have B:(zH1 s.heap t a).objs.size=s.heap.objs.size+1:=HQ ..;have G:(zH2 s.heap t u a b).objs.size=s.heap.objs.size+2:=by unfold zH2;rw [HQ,B]
 have J:(zH3 s.heap t u a b).objs.size=s.heap.objs.size+3:=by unfold zH3;rw [HQ,G]
 have L:(zH4 s.heap t u a b).objs.size=s.heap.objs.size+4:=by unfold zH4;rw [HQ,J]
 have z5:(zH5 s.heap t u a b).objs.size=s.heap.objs.size+5:=by unfold zH5;rw [HQ,L]
 have j:∀ {c o},(zH4 s.heap t u a b).get? c=some o->(zH5 s.heap t u a b).get? c=some o:=fun e=>h6 _ e;have z:∀ {c o},(zH3 s.heap t u a b).get? c=some o->(zH4 s.heap t u a b).get? c=some o:=fun e=>h6 _ e;have O:∀ {c o},(zH2 s.heap t u a b).get? c=some o->(zH3 s.heap t u a b).get? c=some o:=fun e=>h6 _ e;have Y:∀ {c o},(zH1 s.heap t a).get? c=some o->(zH2 s.heap t u a b).get? c=some o:=fun e=>h6 _ e;have k1:∀ {c o},s.heap.get? c=some o->(zH1 s.heap t a).get? c=some o:=fun e=>h6 _ e;have f:∀ t l,(itO t l).isFreed=false:=fun t l=>by cases t <;> rfl
 have U:(zH5 s.heap t u a b).get? (zH4 s.heap t u a b).objs.size=some _:=Gh _ rfl;have Z:(zH5 s.heap t u a b).get? (zH3 s.heap t u a b).objs.size=some _:=j (Gh _ rfl);have g3:(zH5 s.heap t u a b).get? (zH2 s.heap t u a b).objs.size=some _:=j (z (Gh _ rfl));have g2:(zH5 s.heap t u a b).get? (zH1 s.heap t a).objs.size=some _:=j (z (O (Gh _ (f u b))));have g1:(zH5 s.heap t u a b).get? s.heap.objs.size=some _:=j (z (O (Y (Gh _ (f t a)))));show _/\_;rw [G,J,L] at U;rw [B,G] at g3;rw [J] at Z;rw [B] at g2;rw [L];exact ⟨⟨_,U,rfl⟩,q _ U g3 Z (at_new g1) (at_new g2) z5 fun c o x=>j (z (O (Y (k1 x))))⟩
end
end Zp
end L2
namespace L2
open PySem PySem.Spec PyProof.Rows
section
section
variable {X:Cx} {pins:List (Addr×Obj)} {σ:St} {H:Hp} {s:h7} {h':Heap}
theorem Inv.turnedL {t':Nat} {fp:List Addr} (I:Inv X pins σ H s) (hf:∀ b∈fp,bZ X pins H b) (k:∀ b o,b∉fp->s.heap.get? b=some o->h'.get? b=some o):Inv X pins σ H { s with heap:=h',toks:=t' }:=by
 have nit:∀ b u,H b=some u->b∉fp:=fun b u e z=>by rw [(hf b z).1] at e;cases e
 refine I.step (g':=s.gens) (d':=s.drawn) (ch:=fp) (fun b B => ?_) (fun b o _ _ j e _=>k b o j e) (fun b o _ _ j e _=>⟨o.slots,k b o j e⟩) (fun _ _ _ _ n=>n)
  (fun b o j e=>⟨o,k b o j e⟩) (fun _ _ e=>e) (fun _ _ _ e=>e) (fun b ps e=>⟨#[],by rw [e];simp⟩) (fun m hm => ?_) (fun b u e => ?_) I.bare
 ·obtain ⟨_,f1,_,F,f4,G⟩:=hf b B;exact ⟨F,f1,f4,G⟩
 ·obtain ⟨o,es,ep,ho,r⟩:=hm;exact ⟨o,es,ep,k _ o (fun z=>(hf _ z).2.1 rfl) ho,r⟩
 ·refine (I.hok b u e).stay (fun c v j q=>k c v ?_ q) (fun _ q=>q) fun _ _ q=>q
  rcases j with z | z
  ·rw [z];exact nit b u e
  ·exact nit c _ z
end
def SqV (K:Frag) (t:Bool) (H:Hp) (a:Addr) (xs:List V):Prop:=match t with | true=>SqT K H a xs | false=>SqL K H a xs
theorem Inv.sqv {X:Cx} {pins:List (Addr×Obj)} {σ:St} {H:Hp} {s:h7} {t:Bool} {a:Addr} {xs:List V} (I:Inv X pins σ H s) (h:SqV X.K t H a xs):∃ its:List gV,Vals xs its/\Zp.Sq t s.heap a its.toArray:=by
 cases t with
 | true=>obtain ⟨its,r,p,_⟩:=I.tuple h;exact ⟨its,r,p⟩
 | false=>obtain ⟨its,r,p,_⟩:=I.list h;exact ⟨its,r,p.isList⟩
theorem Inv.sqv_inj {X:Cx} {pins:List (Addr×Obj)} {σ:St} {H:Hp} {s:h7} {t:Bool} {a:Addr} {xs ys:List V} (I:Inv X pins σ H s) (h:SqV X.K t H a xs) (h':SqV X.K t H a ys):xs=ys:=by
 cases t with
 | true=>exact I.tuple_inj h h'
 | false=>exact I.list_inj h h'
noncomputable def Itz (K:Frag) (t u:Bool) (a b:Addr):It :=
 ⟨fun i H => ∃ xs ys x y,SqV K t H a xs/\SqV K u H b ys/\xs[i]? = some x/\ys[i]? = some y,
  fun i H v H' => ∃ p x y,H p=none/\v = .ref p/\H'=upd H p (.tup [x,y]) /\ ∀ xs ys,SqV K t H a xs->SqV K u H b ys->xs[i]? = some x/\ys[i]? = some y,
  fun i H => ∃ xs ys,SqV K t H a xs/\SqV K u H b ys/\(xs.length<=i∨ys.length<=i)⟩
theorem w4 {P:GI} {w:Hf} {K:Frag} {elts:List Expr} {cx} {pos:Pos} {t u:Bool} {z T O i j a b:Addr} (D:Nu z T O i j a b) :
 fD P w K (.Tuple elts cx pos) (Itz K t u a b) [z,T,O,i,j] z (fun k h=>Mj h z T O .none/\Ju h T (.ref i) (.ref j)/\(∃ p r,Ju h O p r)/\Zp.At t h i a k/\Zp.At u h j b k) where
 mem:=by simp
 obj:=fun k h ⟨B,F,⟨p,r,G⟩,hi,J⟩ c q=>by
  simp only [Gj,Hu,or_false] at q
  rcases q with rfl | rfl | rfl | rfl | rfl
  ·exact ⟨_,B,fun v e=>by cases e⟩
  ·exact ⟨_,F,fun v e=>by cases e⟩
  ·exact ⟨_,G,fun v e=>by cases e⟩
  ·exact hi.lt
  ·exact J.lt
 keep:=fun k h h' ⟨B,F,⟨p,r,G⟩,hi,J⟩ kk=>⟨kk z (by simp) _ B,kk T (by simp) _ F,⟨p,r,kk O (by simp) _ G⟩,hi.up fun o e=>kk i (by simp) o e,J.up fun o e=>kk j (by simp) o e⟩
 item:=by
  intro X Y hw Z q k pins s σ H E I hf st hg;subst Y hw Z;obtain ⟨B,F,⟨p,r,G⟩,hi,J⟩:=st;obtain ⟨xs,ys,x,y,qx,qy,ex,ey⟩:=hg;obtain ⟨is,rx,px⟩:=I.sqv qx;obtain ⟨js,ry,py⟩:=I.sqv qy;obtain ⟨ux,E3,rux⟩:=rx.get ex;obtain ⟨uy,E4,ruy⟩:=ry.get ey;refine Zp.nxt_item D B F G hi J px py (by simpa using E3) (by simpa using E4) fun h1 z1 o1 i1 j1 p1 U=>⟨_,rfl, ?_⟩
  refine wpAny_letOwnedTupleGo_zip (s := { s with heap:=h1 }) z1 fun h2 z2 s2 => ?_
  have lt:∀ {c o},s.heap.get? c=some o->c≠s.heap.objs.size:=fun e=>GW (Ga e);have nz:s.heap.objs.size≠z:=(lt B).symm;have E5:∃ o,s.heap.get? i=some o:=hi.lt.imp fun _ h=>h.1;have E6:∃ o,s.heap.get? j=some o:=J.lt.imp fun _ h=>h.1;have up:∀ c o,c≠z->h1.get? c=some o->h2.get? c=some o:=fun c o n e=>s2.extBut _ _ n e;have IL:Inv X pins σ (upd H s.heap.objs.size (.tup [x,y])) { s with heap:=s.heap.push { cls := .type "tuple",data := .seq #[ux,uy] },toks:=s.toks } :=
   I.laid (fun b o e=>h6 _ e) (Gi _) ⟨by rw [Gd];simp,[ux,uy], .cons rux (.cons ruy .nil),L5 _ _⟩
  have fr:∀ c∈[z,T,O,i,j],c≠s.heap.objs.size:=fun c q=>by
   simp only [Gj,Hu,or_false] at q
   rcases q with rfl | rfl | rfl | rfl | rfl
   ·exact lt B
   ·exact lt F
   ·exact lt G
   ·obtain ⟨o,e⟩:=E5;exact lt e
   ·obtain ⟨o,e⟩:=E6;exact lt e
  have un:∀ c∈[z,T,O,i,j],upd H s.heap.objs.size (.tup [x,y]) c=none:=fun c q=>by
   rw [aj (fr c q)];exact (hf c q).1
  have kk:∀ c o,c∉[z,T,O,i,j]->(s.heap.push { cls := .type "tuple",data := .seq #[ux,uy] }).get? c=some o->h2.get? c=some o:=fun c o q e=>by
   simp only [Gj,Hu,or_false,not_or] at q
   rcases Lk e with ⟨rfl,rfl⟩ | e
   ·exact up _ _ nz p1
   ·exact up _ _ q.1 (U c o q.1 q.2.2.1 q.2.2.2.1 q.2.2.2.2 e)
  have I2:Inv X pins σ (upd H s.heap.objs.size (.tup [x,y])) { s with heap:=h2,toks:=s.toks } :=
   (Inv.turnedL (s := { s with heap:=s.heap.push { cls := .type "tuple",data := .seq #[ux,uy] },toks:=s.toks }) (h':=h2) (t':=s.toks) (fp := [z,T,O,i,j]) IL (fun c q=>⟨un c q,(hf c q).2⟩) kk)
  refine ⟨.ref s.heap.objs.size,_,I2,rfl,⟨_,x,y,I.hok.fresh (Gi _),rfl,rfl,fun xs' ys' q1 q2 => ?_⟩,⟨z2,up _ _ D.TIz (U _ _ D.TIz D.TITO D.TIi1 D.TIi2 F),⟨_,_,up _ _ D.TOz o1⟩,i1.up fun o e=>up _ o D.i1z e,j1.up fun o e=>up _ o D.i2z e⟩,un⟩;rw [I.sqv_inj q1 qx,I.sqv_inj q2 qy];exact ⟨ex,ey⟩
 done:=by
  intro X Y hw Z q k pins s σ H E I hf st hg;subst Y hw Z;obtain ⟨B,F,⟨p,r,G⟩,hi,J⟩:=st;obtain ⟨xs,ys,qx,qy,L⟩:=hg;obtain ⟨is,rx,px⟩:=I.sqv qx;obtain ⟨js,ry,py⟩:=I.sqv qy;have lx:=rx.length;have ly:=ry.length;refine Zp.nxt_end (I.ok.hd q) D B F G hi J px py (L.imp (fun e=>by simp;lia) (fun e=>by simp;lia)) fun h1 U=>⟨rfl,I.turnedL (t':=s.toks) hf fun c o q e => ?_⟩
  simp only [Gj,Hu,or_false,not_or] at q;exact U c o q.1 q.2.2.1 q.2.2.2.1 q.2.2.2.2 e
 self:=fun A k s Q E st h=>OR st.1 h
section
variable {X:Cx}
noncomputable def DS (K:Frag) (ta:TA):TI:=fun σ H R=>ta σ H fun vs H1 => ∃ a b t u xs ys,vs=[.ref a, .ref b]/\SqV K t H1 a xs/\SqV K u H1 b ys/\R (Itz K t u a b) H1
theorem Bc {elts:List Expr} {cx} {pos p pos':Pos} {a b:Expr} {ta:TA} (G:Gl X "zip") (hm:X.mg "zip" = none) (J:PA X [a,b] ta) (hs:GN [a,b] X.env=[(false,eval a X.env),(false,eval b X.env)]) (j:GN [b] X.env=[(false,eval b X.env)]) :
 PI X (.Tuple elts cx pos) (.Call (.Name "zip" p) [a,b] [] pos') (DS X.K ta):=by
 intro pins s σ H R I h;refine Call_ (dr I G hm (u := .type "zip") (by decide +kernel) (Ii (thn (J pos' pins s σ H _ I h) fun us s1 ⟨vs,H1,z,L,O⟩ => ?_) (by rw [hs,j]) (by rw [j];rfl)))
 obtain ⟨a',b',t,u,xs,ys,rfl,qx,qy,q⟩:=O
 cases L with
 | cons r rr =>
   cases rr with
   | cons r' rr =>
     cases rr
     cases r
     cases r'
     obtain ⟨is,rx,px⟩:=z.sqv qx;obtain ⟨js,ry,py⟩:=z.sqv qy;refine Zp.call_zip px py fun h1 B t1 U Y Z sz k1 => ?_;refine OR B ?_;have la:a' < s1.heap.objs.size:=by cases t <;> (obtain ⟨o,e,_⟩:=px;exact Ga e)
     have lb:b' < s1.heap.objs.size:=by cases u <;> (obtain ⟨o,e,_⟩:=py;exact Ga e)
     have D:Nu (s1.heap.objs.size+4) (s1.heap.objs.size+2) (s1.heap.objs.size+3) s1.heap.objs.size (s1.heap.objs.size+1) a' b':=by constructor <;> (intro e;subst_vars;first | lia | (simp only [Addr] at *;lia))
     refine ⟨_,_,_,_,H1,rfl,z.kept (t':=s1.toks) k1,w4 (t:=t) (u:=u) D,⟨B,t1,⟨_,_,U⟩,Y,Z⟩,fun c F => ?_,q⟩;have hle:s1.heap.objs.size<=c:=by
      simp only [Gj,Hu,or_false] at F
      rcases F with rfl | rfl | rfl | rfl | rfl <;> lia
     exact z.fpOk hle (z.hok.fresh hle)
end
end
end L2
namespace L2
namespace Zp
open PySem PySem.Spec PyProof.Rows
end Zp
open PySem PySem.Spec PyProof.Rows
end L2
namespace L2
namespace En
open PySem PySem.Spec PyProof.Rows
section
variable {prog:GI} {w:Hf} {A:Hg} {E:gV->h7->Prop} {s:h7}
open Builtin.SmallTypes Zp in
theorem Bd {z i a:Addr} {t:Bool} {k:Nat} {xs:Array gV} {x old:gV} {Q:gV->h7->Prop} (U:MX s.heap z i k old) (hi:At t s.heap i a k) (ha:Sq t s.heap a xs) (hx:xs[k]? = some x) (j:z≠i)
 (q:∀ h',OS h' z i ((k:Int)+1) x s.heap.objs.size->At t h' i a (k+1)->h'.get? s.heap.objs.size=some { cls := .type "tuple",data := .seq #[.int k s.toks,x] } ->
   (∀ b o,b≠z->b≠i->s.heap.get? b=some o->h'.get? b=some o)->Q (.ref s.heap.objs.size) { s with heap:=h',toks:=s.toks+1 }) :
 Gm (model prog w) A (Im.«enumerate.__next__» ⟨[.ref z],[]⟩) (fun fin s' => ∃ v,fin = .done (.ret v)/\Q v s') E s:=by
 obtain ⟨B,g,d,tk,os⟩:=s;refine e6 (m:=field (.ref z) 2) (GU U rfl (x := .ref i) rfl (e6 (gx hi ha hx fun g1 i1 s1 => ?_)));have S1:Ib i B g1:=s1;clear s1;have Y:MX g1 z i k old:=(S1.2 z j).trans U;refine e6 (m:=field (.ref z) 3) (GU (s:=⟨g1,g,d,tk,os⟩) Y rfl (x:=II k) rfl ?_);refine e6 (m:=field (.ref z) 4) (GU (s:=⟨g1,g,d,tk,os⟩) Y rfl (x := .none) rfl ?_);refine e6 (m:=mkInt k) (wpAny_mkInt ?_);refine e6 (m:=setField (.ref z) 3 (II ((k:Int)+1))) (Gx (s:=⟨g1,g,d,tk+1,os⟩) Y (by simp) fun g2 z2 s2 => ?_)
 have Z:Ib z g1 g2:=s2;have Z2:MX g2 z i ((k:Int)+1) old:=z2;clear s2 z2;refine e6 (m:=setField (.ref z) 4 .none) (Gx (s:=⟨g2,g,d,tk+1,os⟩) Z2 (by simp) fun g3 z3 s3 => ?_)
 have S3:Ib z g2 g3:=s3;have Z3:MX g3 z i ((k:Int)+1) old:=z3;clear s3 z3;refine e6 (m:=newTuple [.int k tk,x]) (Jy ?_);have G:MX (g3.push { cls := .type "tuple",data := .seq #[.int k tk,x] }) z i ((k:Int)+1) old:=h6 _ Z3;have sz:g3.objs.size=B.objs.size:=by rw [S3.1,Z.1,S1.1]
 have zl:z < B.objs.size:=Ga U;have T4:(g3.push { cls := .type "tuple",data := .seq #[.int k tk,x] }).get? B.objs.size=some { cls := .type "tuple",data := .seq #[.int k tk,x] }:=by rw [<- sz];exact Gh _ rfl
 have K4:∀ b o,b≠z->b≠i->B.get? b=some o->(g3.push { cls := .type "tuple",data := .seq #[.int k tk,x] }).get? b=some o:=fun b o bz bi e =>
  h6 _ (S3.extBut b o bz (Z.extBut b o bz (S1.extBut b o bi e)))
 have I4:At t (g3.push { cls := .type "tuple",data := .seq #[.int k tk,x] }) i a (k+1):=i1.up fun o e=>h6 _ (S3.extBut i o j.symm (Z.extBut i o j.symm e));rw [sz];generalize g3.push { cls := .type "tuple",data := .seq #[.int k tk,x] }=F at G T4 K4 I4;refine e6 (m:=ownedTupleIsFree (.ref z)) ?_;unfold ownedTupleIsFree;refine e6 (GU (s:=⟨F,g,d,tk+1,os⟩) G rfl (x := .none) rfl (q7 ?_));simp only [if_true];refine e6 (IC (e6 (GU (s:=⟨F,g,d,tk+1,os⟩) G rfl (x:=old) rfl (e6 (Gx (s:=⟨F,g,d,tk+1,os⟩) G (by simp) fun J z5 s5 => ?_)))))
 have S5:Ib z F J:=s5;have Z5:MX J z i ((k:Int)+1) x:=z5;clear s5 z5;refine e6 (m:=ownedTupleHandOut (.ref z) (.ref B.objs.size)) ?_;unfold ownedTupleHandOut;refine e6 (Gx (s:=⟨J,g,d,tk+1,os⟩) Z5 (by simp) fun L z6 s6 => ?_)
 have S6:Ib z J L:=s6;have Z6:OS L z i ((k:Int)+1) x B.objs.size:=z6;clear s6 z6;refine Gx (s:=⟨L,g,d,tk+1,os⟩) Z6 (by simp) fun O z7 s7 => ?_
 have S7:Ib z L O:=s7;have Z7:OS O z i ((k:Int)+1) x B.objs.size:=z7;clear s7 z7;have up:∀ b o,b≠z->F.get? b=some o->O.get? b=some o:=fun b o bz e=>S7.extBut b o bz (S6.extBut b o bz (S5.extBut b o bz e));exact e6 (Lj (q7 ⟨_,rfl,q O Z7 (I4.up fun o e=>up i o j.symm e) (up _ _ (HG zl) T4) fun b o bz bi e=>up b o bz (K4 b o bz bi e)⟩))
theorem nxt_item {z i a:Addr} {t:Bool} {k:Nat} {xs:Array gV} {x old:gV} {Q:Option gV->h7->Prop} (B:MX s.heap z i k old) (hi:Zp.At t s.heap i a k) (G:Zp.Sq t s.heap a xs) (hx:xs[k]? = some x) (j:z≠i)
 (q:∀ h',OS h' z i ((k:Int)+1) x s.heap.objs.size->Zp.At t h' i a (k+1)->h'.get? s.heap.objs.size=some { cls := .type "tuple",data := .seq #[.int k s.toks,x] } ->
   (∀ b o,b≠z->b≠i->s.heap.get? b=some o->h'.get? b=some o)->Q (some (.ref s.heap.objs.size)) { s with heap:=h',toks:=s.toks+1 }) :
 Gm (model prog w) A (Jq (.ref z)) Q E s:=by
 have ty:s.TypeIs (.ref z) "enumerate" := ⟨_,B,rfl⟩;unfold Jq;exact e6 (Jv (H0 (name:=Il "__next__") ty JO (H8 JO ty MY
  (Bd B hi G hx j fun h' a1 a2 J L=>q7 (q h' a1 a2 J L)) (Mv _))))
theorem nxt_end {z i a:Addr} {t:Bool} {k:Nat} {xs:Array gV} {old:gV} {Q:Option gV->h7->Prop} (B:A.handled=none) (j:MX s.heap z i k old) (hi:Zp.At t s.heap i a k) (G:Zp.Sq t s.heap a xs) (hx:xs[k]? = none)
 (q:∀ h',P6 i s.heap h'->Q none { s with heap:=h' }):Gm (model prog w) A (Jq (.ref z)) Q E s:=by
 have ty:s.TypeIs (.ref z) "enumerate" := ⟨_,j,rfl⟩;unfold Jq;refine e6 (Jv (H0 (name:=Il "__next__") ty JO (H8 JO ty MY ?_ (Mv _))));refine e6 (m:=field (.ref z) 2) (GU j rfl (x := .ref i) rfl (e6 (Zp.nx_end B hi G hx fun h' x he hs => ?_)));obtain ⟨o,ho,J⟩:=hs;exact e6 (Lb (T := "StopIteration") (b:=true) ⟨o,ho,J⟩ Nw (q7 (q _ he)))
open AutoSeq1 (wpAny_loadPart') in
theorem yW (l:Addr) (items:Array gV) (n:Nat) (dct:Option Addr) (sl:Array (Option gV)) :
 Meets (Im.«enumerate.__new__» ⟨[.type "enumerate", .ref l],[]⟩) (fun _ R s=>s.heap.get? l=some { cls := .type "tuple",dict:=dct,data := .seq items n,slots:=sl } /\
  R (.ok (.ret (.ref (s.heap.push (Zp.itO true l)).objs.size))) { s with heap:=(s.heap.push (Zp.itO true l)).push { cls := .type "enumerate",data := .fields #[.none, .bool false, .ref s.heap.objs.size,II 0, .none, .none] } }) :=
 .of_wp fun prog w A R s h=>by
  obtain ⟨B,g,d,tk,os⟩:=s;obtain ⟨j,h⟩:=h;have q:=sub_enumerate;have z:LF (JB ⟨B,g,d,tk,os⟩) l items:=⟨_,j,rfl,n,rfl⟩
  wp_walk using Hd j
  refine wpAny_stack_any fun st=>q7 ?_
  split
  ·rename_i c _ _ _ _ _
   cases (c==Hb "enumerate") <;> (wp_walk using Hd j,Ie z;exact ⟨_,rfl,h⟩)
  ·wp_walk using Hd j,Ie z
   exact ⟨_,rfl,h⟩
theorem call_enum {t:Bool} {l:Addr} {items:Array gV} {Q:gV->h7->Prop} (B:Zp.Sq t s.heap l items)
 (q:∀ h',MX h' (s.heap.objs.size+1) s.heap.objs.size 0 .none->Zp.At t h' s.heap.objs.size l 0->(∀ b o,s.heap.get? b=some o->h'.get? b=some o)->Q (.ref (s.heap.objs.size+1)) { s with heap:=h' }) :
 Gm (model prog w) A (call (.type "enumerate") [.ref l]) Q E s:=by
 cases t with
 | false=>exact call_enumerate_list B fun h' a b _ k=>q h' a b k
 | true =>
   obtain ⟨⟨c,dct,dt,sl⟩,J,L,n,hd⟩:=B;have j:c = .type "tuple" := L;have z:dt = .seq items n:=hd;subst j z;refine callType_new F.called_enumerate (by decide) (F.typeCall_enumerate_1 _) (F.newCall_enumerate_1 _) (fun obj=>F.args_object_init_2 obj _) F.entry_enumerate_new (yW l items n dct sl) ⟨J, ?_⟩
   have G:(s.heap.push (Zp.itO true l)).objs.size=s.heap.objs.size+1:=HQ ..;have e:((s.heap.push (Zp.itO true l)).push { cls := .type "enumerate",data := .fields #[.none, .bool false, .ref s.heap.objs.size,II 0, .none, .none] }).get? (s.heap.push (Zp.itO true l)).objs.size=some _:=Gh _ rfl;rw [G] at e;show _/\_;rw [G];exact ⟨⟨_,e,rfl⟩,q _ e (Zp.at_new (h6 _ (Gh _ rfl))) fun b o x=>h6 _ (h6 _ x)⟩
end
end En
open PySem PySem.Spec PyProof.Rows
noncomputable def Ite (K:Frag) (t:Bool) (a:Addr):It :=
 ⟨fun i H => ∃ xs x,SqV K t H a xs/\xs[i]? = some x,
  fun i H v H' => ∃ p x,H p=none/\v = .ref p/\H'=upd H p (.tup [.int (i:Nat),x]) /\ ∀ xs,SqV K t H a xs->xs[i]? = some x,
  fun i H => ∃ xs,SqV K t H a xs/\xs.length<=i⟩
theorem tz {P:GI} {w:Hf} {K:Frag} {elts:List Expr} {cx} {pos:Pos} {t:Bool} {z i a:Addr} (B:z≠i) :
 fD P w K (.Tuple elts cx pos) (Ite K t a) [z,i] z (fun k h=>(∃ old,MX h z i k old)/\Zp.At t h i a k) where
 mem:=by simp
 obj:=fun k h ⟨⟨old,q⟩,hi⟩ c j=>by
  simp only [Gj,Hu,or_false] at j
  rcases j with rfl | rfl
  ·exact ⟨_,q,fun v e=>by cases e⟩
  ·exact hi.lt
 keep:=fun k h h' ⟨⟨old,q⟩,hi⟩ kk=>⟨⟨old,kk z (by simp) _ q⟩,hi.up fun o e=>kk i (by simp) o e⟩
 item:=by
  intro X F hw G j k pins s σ H E I hf st hg;subst F hw G;obtain ⟨⟨old,q⟩,hi⟩:=st;obtain ⟨xs,x,qx,ex⟩:=hg;obtain ⟨is,rx,px⟩:=I.sqv qx;obtain ⟨ux,J,rux⟩:=rx.get ex;refine En.nxt_item q hi px (by simpa using J) B fun h1 Y Z p1 L=>⟨_,rfl, ?_⟩
  refine wpAny_letOwnedTupleGo_enum (s := { s with heap:=h1,toks:=s.toks+1 }) Y fun h2 z2 s2 => ?_
  have lt:∀ {c o},s.heap.get? c=some o->c≠s.heap.objs.size:=fun e=>GW (Ga e);have nz:s.heap.objs.size≠z:=(lt q).symm;have O:∃ o,s.heap.get? i=some o:=hi.lt.imp fun _ h=>h.1;have up:∀ c o,c≠z->h1.get? c=some o->h2.get? c=some o:=fun c o n e=>s2.extBut _ _ n e;have IL:Inv X pins σ (upd H s.heap.objs.size (.tup [.int (k:Nat),x])) { s with heap:=s.heap.push { cls := .type "tuple",data := .seq #[.int k s.toks,ux] },toks:=s.toks+1 } :=
   I.laid (fun b o e=>h6 _ e) (Gi _) ⟨by rw [Gd];simp,[.int k s.toks,ux], .cons ⟨_,rfl⟩ (.cons rux .nil),L5 _ _⟩
  have fr:∀ c∈[z,i],c≠s.heap.objs.size:=fun c j=>by
   simp only [Gj,Hu,or_false] at j
   rcases j with rfl | rfl
   ·exact lt q
   ·obtain ⟨o,e⟩:=O;exact lt e
  have un:∀ c∈[z,i],upd H s.heap.objs.size (.tup [.int (k:Nat),x]) c=none:=fun c j=>by
   rw [aj (fr c j)];exact (hf c j).1
  have kk:∀ c o,c∉[z,i]->(s.heap.push { cls := .type "tuple",data := .seq #[.int k s.toks,ux] }).get? c=some o->h2.get? c=some o:=fun c o j e=>by
   simp only [Gj,Hu,or_false,not_or] at j
   rcases Lk e with ⟨rfl,rfl⟩ | e
   ·exact up _ _ nz p1
   ·exact up _ _ j.1 (L c o j.1 j.2 e)
  have I2:Inv X pins σ (upd H s.heap.objs.size (.tup [.int (k:Nat),x])) { s with heap:=h2,toks:=s.toks+1 } :=
   Inv.turnedL (s := { s with heap:=s.heap.push { cls := .type "tuple",data := .seq #[.int k s.toks,ux] },toks:=s.toks+1 }) (h':=h2) (t':=s.toks+1) (fp := [z,i]) IL (fun c j=>⟨un c j,(hf c j).2⟩) kk
  refine ⟨.ref s.heap.objs.size,_,I2,rfl,⟨_,x,I.hok.fresh (Gi _),rfl,rfl,fun xs' q1 => ?_⟩,⟨⟨ux,by simpa using z2⟩,Z.up fun o e=>up _ o B.symm e⟩,un⟩
  rw [I.sqv_inj q1 qx];exact ex
 done:=by
  intro X F hw G j k pins s σ H E I hf st hg;subst F hw G;obtain ⟨⟨old,q⟩,hi⟩:=st;obtain ⟨xs,qx,U⟩:=hg;obtain ⟨is,rx,px⟩:=I.sqv qx;have lx:=rx.length;refine En.nxt_end (I.ok.hd j) q hi px (by simp;lia) fun h1 L=>⟨rfl,I.turnedL (t':=s.toks) hf fun c o j e => ?_⟩
  simp only [Gj,Hu,or_false,not_or] at j;exact L c o j.2 e
 self:=fun A k s Q E ⟨⟨old,q⟩,_⟩ h=>Oz q h
section
variable {X:Cx}
noncomputable def CO (K:Frag) (ta:TA):TI:=fun σ H R=>ta σ H fun vs H1 => ∃ a t xs,vs=[.ref a]/\SqV K t H1 a xs/\R (Ite K t a) H1
theorem yX {elts:List Expr} {cx} {pos p pos':Pos} {a:Expr} {ta:TA} (F:Gl X "enumerate") (hm:X.mg "enumerate" = none) (G:PA X [a] ta) (hs:GN [a] X.env=[(false,eval a X.env)]) :
 PI X (.Tuple elts cx pos) (.Call (.Name "enumerate" p) [a] [] pos') (CO X.K ta):=by
 intro pins s σ H R I h;refine Call_ (dr I F hm (u := .type "enumerate") boot_enumerate (Ii (thn (G pos' pins s σ H _ I h) fun us s1 ⟨vs,H1,j,J,L⟩ => ?_) hs rfl));obtain ⟨a',t,xs,rfl,qx,q⟩:=L
 cases J with
 | cons r rr =>
   cases rr
   cases r
   obtain ⟨is,rx,px⟩:=j.sqv qx;refine En.call_enum px fun h1 z O U => ?_;refine Oz z ?_;refine ⟨_,_,_,_,H1,rfl,j.kept (t':=s1.toks) U,tz (t:=t) (a:=a') (by simp),⟨⟨_,z⟩,O⟩,fun c B => ?_,q⟩
   have hle:s1.heap.objs.size<=c:=by
    simp only [Gj,Hu,or_false] at B
    rcases B with rfl | rfl <;> lia
   exact j.fpOk hle (j.hok.fresh hle)
end
end L2
namespace L2
namespace Rv
open PySem PySem.Spec PyProof.Rows
end Rv
open PySem PySem.Spec PyProof.Rows
end L2
namespace L2
namespace Mi
open PySem PySem.Spec PyProof.Rows
section
inductive D where
 | non | bl (b:Bool) | int (i:Int) | str (x:Str) | tup (ds:List D) | con (ds:List D) | ref (a:Addr) | fn (x:Str)
inductive O where
 | lst (ds:List D)
 | dct (t:Bool) (kvs:List (D×D))
 | fdc (kvs:List (D×D))
noncomputable abbrev Mem:=Addr->Option O
noncomputable def fz:Option O->Bool
 | some (.lst _)=>false
 | some (.dct _ _)=>false
 | _=>true
noncomputable abbrev al:=List (Option D)
noncomputable def af (M:Mem) (a:Addr) (o:O):Mem:=fun b=>if b=a then some o else M b
theorem ab {M:Mem} {a:Addr} {o:O}:af M a o a=some o:=by unfold af;rw [if_pos rfl]
theorem aE {M:Mem} {a b:Addr} {o:O} (h:b≠a):af M a o b=M b:=by unfold af;rw [if_neg h]
def SqF (K:Frag) (H:Hp) (a:Addr) (xs:List V):Prop :=
 (∃ o,H a=some (.frz o (.lst xs))) ∨
  ∃ (o:Obj) (its:Array gV) (n:Nat),K.lookup a=some o/\o.cls = .type "list" /\ o.dict=none/\o.data = .seq its n/\its.size<=Gg/\Vals xs its.toList
theorem SqF.sq {K:Frag} {H:Hp} {a:Addr} {xs:List V} (h:SqF K H a xs):SqL K H a xs:=by
 rcases h with ⟨o,h⟩ | h
 ·exact .inl (.inr ⟨o,h⟩)
 ·exact .inr h
noncomputable def fk2:Bool:=true
noncomputable def fk3:Bool:=true
noncomputable def fk:List D->Bool
 | [.int _, .int _, .int _] => true
 | [.tup _,_] => true
 | [.int _,_] => fk2
 | [] => false
 | _=>fk3
def TupR (K:Frag) (H:Hp) (ds:List D) (a:Addr) (vs:List V):Prop:=H a=some (.tup vs)∨(fk ds=false/\SqT K H a vs)
theorem TupR.sq {K:Frag} {H:Hp} {ds:List D} {a:Addr} {vs:List V} (h:TupR K H ds a vs):SqT K H a vs:=h.elim SqT.of (·.2)
mutual
noncomputable def RD (K:Frag) (H:Hp):D->V->Prop
 | .non,v=>v = .non
 | .bl b,v=>v = .bl b
 | .int i,v=>v = .int i
 | .str x,v=>v = .str x
 | .tup ds,v => ∃ a vs,v = .ref a/\TupR K H ds a vs/\RDs K H ds vs
 | .con ds,v => ∃ a vs,v = .ref a/\SqF K H a vs/\RDs K H ds vs
 | .ref a,v=>v = .ref a
 | .fn x,v => ∃ f,v = .ref f/\KP K HK x=some (some (.ref f))
noncomputable def RDs (K:Frag) (H:Hp):List D->List V->Prop
 | [],vs=>vs=[]
 | d::ds,vs => ∃ v r,vs=v::r/\RD K H d v/\RDs K H ds r
end
structure Stab (H H':Hp):Prop where
 tup:∀ a xs,H a=some (.tup xs)->H' a=some (.tup xs)
 frz:∀ a o u,H a=some (.frz o u)->H' a=some (.frz o u)
theorem Stab.sqT {K:Frag} {H H':Hp} (st:Stab H H') {a:Addr} {xs:List V} (h:SqT K H a xs):SqT K H' a xs:=by
 rcases h with (h | ⟨o,h⟩) | h
 ·exact .inl (.inl (st.tup _ _ h))
 ·exact .inl (.inr ⟨o,st.frz _ _ _ h⟩)
 ·exact .inr h
theorem Stab.sqF {K:Frag} {H H':Hp} (st:Stab H H') {a:Addr} {xs:List V} (h:SqF K H a xs):SqF K H' a xs:=by
 rcases h with ⟨o,h⟩ | h
 ·exact .inl ⟨o,st.frz _ _ _ h⟩
 ·exact .inr h
mutual
theorem RD.mono {K:Frag} {H H':Hp} (st:Stab H H'):∀ {d:D} {v:V},RD K H d v->RD K H' d v
 | .non,_,h=>h
 | .bl _,_,h=>h
 | .int _,_,h=>h
 | .str _,_,h=>h
 | .tup ds,v,h=>by
  unfold RD at h ⊢;obtain ⟨a,vs,e,q,r⟩:=h;exact ⟨a,vs,e,q.imp (st.tup _ _) (fun z=>⟨z.1,st.sqT z.2⟩),RDs.mono st r⟩
 | .con ds,v,h=>by
  unfold RD at h ⊢;obtain ⟨a,vs,e,q,r⟩:=h;exact ⟨a,vs,e,st.sqF q,RDs.mono st r⟩
 | .ref _,_,h=>h
 | .fn _,_,h=>by unfold RD at h ⊢;exact h
theorem RDs.mono {K:Frag} {H H':Hp} (st:Stab H H'):∀ {ds:List D} {vs:List V},RDs K H ds vs->RDs K H' ds vs
 | [],_,h=>h
 | d::ds,vs,h=>by
   unfold RDs at h ⊢;obtain ⟨v,r,e,h1,h2⟩:=h;exact ⟨v,r,e,RD.mono st h1,RDs.mono st h2⟩
end
section
variable {K:Frag} {H H':Hp}
theorem Q5 {i:Int} {v:V}:RD K H (.int i) v↔v = .int i:=by unfold RD;exact Po
theorem Q7 {b:Bool} {v:V}:RD K H (.bl b) v↔v = .bl b:=by unfold RD;exact Po
theorem Qc {v:V}:RD K H .non v↔v = .non:=by unfold RD;exact Po
theorem Qe {x:Str} {v:V}:RD K H (.str x) v↔v = .str x:=by unfold RD;exact Po
theorem Q6 {a:Addr} {v:V}:RD K H (.ref a) v↔v = .ref a:=by unfold RD;exact Po
theorem Qm {x:Str} {v:V}:RD K H (.fn x) v ↔ ∃ f,v = .ref f/\KP K HK x=some (some (.ref f)):=by rw [RD]
theorem Qi {ds:List D} {v:V}:RD K H (.tup ds) v ↔ ∃ a vs,v = .ref a/\TupR K H ds a vs/\RDs K H ds vs:=by rw [RD]
theorem Qf {ds:List D} {v:V} (h:∃ a vs,v = .ref a/\H a=some (.tup vs)/\RDs K H ds vs):RD K H (.tup ds) v:=Qi.mpr (let ⟨a,vs,e,h,r⟩:=h; ⟨a,vs,e, .inl h,r⟩)
theorem Qb {ds:List D} {v:V} (h:RD K H (.tup ds) v):∃ a vs,v = .ref a/\SqT K H a vs/\RDs K H ds vs:=let ⟨a,vs,e,h,r⟩:=Qi.mp h; ⟨a,vs,e,h.sq,r⟩
theorem Qp {ds:List D} {v:V} (f:fk ds=true) (h:RD K H (.tup ds) v):∃ a vs,v = .ref a/\H a=some (.tup vs)/\RDs K H ds vs:=let ⟨a,vs,e,h,r⟩:=Qi.mp h; ⟨a,vs,e,h.elim id fun z=>(by rw [f] at z;cases z.1),r⟩
theorem Q9 {ds:List D} {v:V}:RD K H (.con ds) v ↔ ∃ a vs,v = .ref a/\SqF K H a vs/\RDs K H ds vs:=by rw [RD]
theorem RDs.nil_iff {vs:List V}:RDs K H [] vs↔vs=[]:=by rw [RDs]
theorem Q8 {d:D} {ds:List D} {vs:List V}:RDs K H (d::ds) vs ↔ ∃ v r,vs=v::r/\RD K H d v/\RDs K H ds r:=by rw [RDs]
theorem RDs.nil:RDs K H [] []:=RDs.nil_iff.mpr rfl
theorem RDs.cons {d:D} {ds:List D} {v:V} {vs:List V} (h:RD K H d v) (r:RDs K H ds vs):RDs K H (d::ds) (v::vs):=Q8.mpr ⟨v,vs,rfl,h,r⟩
theorem RDs.length:∀ {ds:List D} {vs:List V},RDs K H ds vs->vs.length=ds.length
 | [],_,h=>by rw [RDs.nil_iff.mp h];rfl
 | d::ds,_,h=>by
   obtain ⟨v,r,rfl,_,h2⟩:=Q8.mp h;simp [RDs.length h2]
theorem RDs.get:∀ {ds:List D} {vs:List V} {i:Nat} {d:D},RDs K H ds vs->ds[i]? = some d -> ∃ v,vs[i]? = some v/\RD K H d v
 | [],_,_,_,_,e=>by simp at e
 | d::ds,_,0,d',h,e=>by
   obtain ⟨v,r,rfl,h1,h2⟩:=Q8.mp h;simp at e;subst e;exact ⟨v,rfl,h1⟩
 | d::ds,_,i+1,d',h,e=>by
   obtain ⟨v,r,rfl,h1,h2⟩:=Q8.mp h;obtain ⟨u,j,q⟩:=RDs.get (i:=i) (d:=d') h2 (by simpa using e)
   exact ⟨u,by simpa using j,q⟩
theorem RDs.getV {ds:List D} {vs:List V} {i:Nat} {v:V} (h:RDs K H ds vs) (e:vs[i]? = some v):∃ d,ds[i]? = some d/\RD K H d v:=by
 have z:=h.length;have hi:i < vs.length:=(GB.mp e).1;obtain ⟨d,hd⟩:∃ d,ds[i]? = some d:=⟨ds[i]'(by lia),tv (by lia)⟩
 obtain ⟨u,j,q⟩:=h.get hd;rw [e] at j;cases j;exact ⟨d,hd,q⟩
theorem RDs.append:∀ {ds es:List D} {vs us:List V},RDs K H ds vs->RDs K H es us->RDs K H (ds++es) (vs++us)
 | [],_,_,_,h,q=>by rw [RDs.nil_iff.mp h];exact q
 | d::ds,_,_,_,h,q=>by
   obtain ⟨v,r,rfl,h1,h2⟩:=Q8.mp h;exact RDs.cons h1 (RDs.append h2 q)
theorem RDs.take:∀ {ds:List D} {vs:List V} (n:Nat),RDs K H ds vs->RDs K H (ds.take n) (vs.take n)
 | [],_,n,h=>by rw [RDs.nil_iff.mp h];simp;exact RDs.nil
 | _::_,_,0,h=>by simp;exact RDs.nil
 | d::ds,_,n+1,h=>by
   obtain ⟨v,r,rfl,h1,h2⟩:=Q8.mp h;exact RDs.cons h1 (RDs.take n h2)
theorem RDs.drop:∀ {ds:List D} {vs:List V} (n:Nat),RDs K H ds vs->RDs K H (ds.drop n) (vs.drop n)
 | [],_,n,h=>by rw [RDs.nil_iff.mp h];simp;exact RDs.nil
 | d::ds,_,0,h=>h
 | d::ds,_,n+1,h=>by
   obtain ⟨v,r,rfl,h1,h2⟩:=Q8.mp h;exact RDs.drop n h2
theorem RDs.set:∀ {ds:List D} {vs:List V} (n:Nat) {d:D} {v:V},RD K H d v->RDs K H ds vs->RDs K H (ds.set n d) (vs.set n v)
 | [],_,n,_,_,_,h=>by rw [RDs.nil_iff.mp h];exact RDs.nil
 | d::ds,_,0,_,_,q,h=>by
   obtain ⟨v,r,rfl,h1,h2⟩:=Q8.mp h;exact RDs.cons q h2
 | d::ds,_,n+1,_,_,q,h=>by
   obtain ⟨v,r,rfl,h1,h2⟩:=Q8.mp h;exact RDs.cons h1 (RDs.set n q h2)
theorem RDs.rep {ds:List D} {vs:List V} (h:RDs K H ds vs):∀ k:Nat,RDs K H (D1 k ds).flatten (D1 k vs).flatten
 | 0=>RDs.nil
 | k+1=>by
   rw [Hq,Hq,Hv,Hv];exact h.append (h.rep k)
theorem Qn:∀ (ns:List Int),RDs K H (ns.map D.int) (ns.map V.int)
 | [] => RDs.nil
 | n::ns=>RDs.cons (Q5.mpr rfl) (Qn ns)
end
mutual
noncomputable def D.eqb:D->D->Bool
 | .non, .non=>true
 | .bl a, .bl b=>a==b
 | .int a, .int b=>decide (a=b)
 | .str a, .str b=>decide (a=b)
 | .tup a, .tup b=>D.eqbs a b
 | .con a, .con b=>D.eqbs a b
 | .ref a, .ref b=>decide (a=b)
 | .fn a, .fn b=>decide (a=b)
 | _,_=>false
noncomputable def D.eqbs:List D->List D->Bool
 | [],[] => true
 | a::r,b::s=>D.eqb a b&&D.eqbs r s
 | _,_=>false
end
mutual
theorem Qo:∀ (a b:D),D.eqb a b=true->a=b
 | .non, .non,_=>rfl
 | .bl a, .bl b,h=>by simp [D.eqb] at h;rw [h]
 | .int a, .int b,h=>by simp [D.eqb] at h;rw [h]
 | .str a, .str b,h=>by simp [D.eqb] at h;rw [h]
 | .tup a, .tup b,h=>by simp [D.eqb] at h;rw [Qk a b h]
 | .con a, .con b,h=>by simp [D.eqb] at h;rw [Qk a b h]
 | .ref a, .ref b,h=>by simp [D.eqb] at h;rw [h]
 | .fn a, .fn b,h=>by simp [D.eqb] at h;rw [h]
 | .non, .bl _,h=>by simp [D.eqb] at h
 | .non, .int _,h=>by simp [D.eqb] at h
 | .non, .str _,h=>by simp [D.eqb] at h
 | .non, .tup _,h=>by simp [D.eqb] at h
 | .non, .con _,h=>by simp [D.eqb] at h
 | .non, .ref _,h=>by simp [D.eqb] at h
 | .non, .fn _,h=>by simp [D.eqb] at h
 | .bl _, .non,h=>by simp [D.eqb] at h
 | .bl _, .int _,h=>by simp [D.eqb] at h
 | .bl _, .str _,h=>by simp [D.eqb] at h
 | .bl _, .tup _,h=>by simp [D.eqb] at h
 | .bl _, .con _,h=>by simp [D.eqb] at h
 | .bl _, .ref _,h=>by simp [D.eqb] at h
 | .bl _, .fn _,h=>by simp [D.eqb] at h
 | .int _, .non,h=>by simp [D.eqb] at h
 | .int _, .bl _,h=>by simp [D.eqb] at h
 | .int _, .str _,h=>by simp [D.eqb] at h
 | .int _, .tup _,h=>by simp [D.eqb] at h
 | .int _, .con _,h=>by simp [D.eqb] at h
 | .int _, .ref _,h=>by simp [D.eqb] at h
 | .int _, .fn _,h=>by simp [D.eqb] at h
 | .str _, .non,h=>by simp [D.eqb] at h
 | .str _, .bl _,h=>by simp [D.eqb] at h
 | .str _, .int _,h=>by simp [D.eqb] at h
 | .str _, .tup _,h=>by simp [D.eqb] at h
 | .str _, .con _,h=>by simp [D.eqb] at h
 | .str _, .ref _,h=>by simp [D.eqb] at h
 | .str _, .fn _,h=>by simp [D.eqb] at h
 | .tup _, .non,h=>by simp [D.eqb] at h
 | .tup _, .bl _,h=>by simp [D.eqb] at h
 | .tup _, .int _,h=>by simp [D.eqb] at h
 | .tup _, .str _,h=>by simp [D.eqb] at h
 | .tup _, .con _,h=>by simp [D.eqb] at h
 | .tup _, .ref _,h=>by simp [D.eqb] at h
 | .tup _, .fn _,h=>by simp [D.eqb] at h
 | .con _, .non,h=>by simp [D.eqb] at h
 | .con _, .bl _,h=>by simp [D.eqb] at h
 | .con _, .int _,h=>by simp [D.eqb] at h
 | .con _, .str _,h=>by simp [D.eqb] at h
 | .con _, .tup _,h=>by simp [D.eqb] at h
 | .con _, .ref _,h=>by simp [D.eqb] at h
 | .con _, .fn _,h=>by simp [D.eqb] at h
 | .ref _, .non,h=>by simp [D.eqb] at h
 | .ref _, .bl _,h=>by simp [D.eqb] at h
 | .ref _, .int _,h=>by simp [D.eqb] at h
 | .ref _, .str _,h=>by simp [D.eqb] at h
 | .ref _, .tup _,h=>by simp [D.eqb] at h
 | .ref _, .con _,h=>by simp [D.eqb] at h
 | .ref _, .fn _,h=>by simp [D.eqb] at h
 | .fn _, .non,h=>by simp [D.eqb] at h
 | .fn _, .bl _,h=>by simp [D.eqb] at h
 | .fn _, .int _,h=>by simp [D.eqb] at h
 | .fn _, .str _,h=>by simp [D.eqb] at h
 | .fn _, .tup _,h=>by simp [D.eqb] at h
 | .fn _, .con _,h=>by simp [D.eqb] at h
 | .fn _, .ref _,h=>by simp [D.eqb] at h
theorem Qk:∀ (a b:List D),D.eqbs a b=true->a=b
 | [],[],_=>rfl
 | a::r,b::s,h=>by
   simp [D.eqbs] at h;rw [Qo a b h.1,Qk r s h.2]
 | [],_::_,h=>by simp [D.eqbs] at h
 | _::_,[],h=>by simp [D.eqbs] at h
end
mutual
theorem Ql:∀ (a:D),D.eqb a a=true
 | .non=>rfl
 | .bl _=>by simp [D.eqb]
 | .int _=>by simp [D.eqb]
 | .str _=>by simp [D.eqb]
 | .tup a=>by simp [D.eqb,Qh a]
 | .con a=>by simp [D.eqb,Qh a]
 | .ref _=>by simp [D.eqb]
 | .fn _=>by simp [D.eqb]
theorem Qh:∀ (a:List D),D.eqbs a a=true
 | [] => rfl
 | a::r=>by simp [D.eqbs,Ql a,Qh r]
end
noncomputable instance:DecidableEq D:=fun a b=>if h:D.eqb a b=true then isTrue (Qo a b h) else isFalse fun e=>h (by rw [e];exact Ql b)
noncomputable def RKey:D->Key->Prop
 | .int i,k=>k = .inl i
 | .str x,k=>k = .inr x
 | _,_=>False
noncomputable def RKeys:D->List Key->Prop
 | .tup ds,ks=>HD RKey ds ks
 | _,_=>False
noncomputable def dget (kvs:List (D×D)) (k:D):Option D:=(kvs.find? fun p=>decide (p.1=k)).map (·.2)
noncomputable def e7 (kvs:List (D×D)) (k v:D):List (D×D):=if (kvs.any fun p=>decide (p.1=k))=true then kvs.map (fun p=>if p.1=k then (p.1,v) else p) else kvs++[(k,v)]
noncomputable def eR:D->Bool
 | .int _=>true
 | .str _=>true
 | _=>false
noncomputable def dy:D->Bool
 | .tup ds=>ds.all eR&&fk ds
 | _=>false
noncomputable def dN (t:Bool) (k:D):Bool:=if t then dy k else eR k
theorem mP {k:D} (h:eR k=true):∃ q,RKey k q:=by
 cases k <;> first | (simp [eR] at h;done) | exact ⟨_,rfl⟩
theorem pQ:∀ {ds:List D},ds.all eR=true -> ∃ ks,HD RKey ds ks
 | [],_=>⟨[], .nil⟩
 | d::ds,h=>by
   simp only [JN,hH] at h;obtain ⟨k,j⟩:=mP h.1;obtain ⟨ks,hs⟩:=pQ h.2;exact ⟨k::ks, .cons j hs⟩
theorem pR {k:D} (h:dy k=true):∃ q,RKeys k q:=by
 cases k <;> first | (simp [dy] at h;done) | exact pQ (Ny.mp h).1
theorem pS {ds:List D} (h:dy (.tup ds)=true):fk ds=true:=(Ny.mp h).2
noncomputable def RO (K:Frag) (H:Hp) (a:Addr):O->Prop
 | .lst ds => ∃ vs,H a=some (.lst vs)/\RDs K H ds vs
 | .dct false kvs => ∃ ps,H a=some (.dK ps)/\HD (fun (p:D×D) (q:Key×V)=>RKey p.1 q.1/\RD K H p.2 q.2) kvs ps
 | .dct true kvs => ∃ ps,H a=some (.dT ps)/\HD (fun (p:D×D) (q:List Key×V)=>RKeys p.1 q.1/\RD K H p.2 q.2) kvs ps
 | .fdc kvs => ∃ o ps,H a=some (.frz o (.dT ps))/\HD (fun (p:D×D) (q:List Key×V)=>RKeys p.1 q.1/\RD K H p.2 q.2) kvs ps
def RM (K:Frag) (M:Mem) (H:Hp):Prop := ∀ a o,M a=some o->RO K H a o
def RS (K:Frag) (H:Hp) (σ:St) (ρ:al):Prop := σ.length = ρ.length /\ ∀ (i:Nat) (d:D), ρ[i]? = some (some d) -> ∃ v, σ[i]? = some (some v)/\RD K H d v
structure Ext (M:Mem) (H:Hp) (M':Mem) (H':Hp):Prop where
 kp:∀ a o,fz (M a)=true->H a=some o->H' a=some o
 nw:∀ a o,fz (M a)=true->H a=some o->M' a=M a
section
variable {K:Frag} {M M' M'':Mem} {H H' H'':Hp}
theorem Ext.keep (x:Ext M H M' H') (a:Addr) (o:HO) (n:M a=none) (e:H a=some o):H' a=some o:=x.kp a o (by rw [n];rfl) e
theorem Ext.new (x:Ext M H M' H') (a:Addr) (o:HO) (n:M a=none) (e:H a=some o):M' a=none:=(x.nw a o (by rw [n];rfl) e).trans n
theorem Ext.refl:Ext M H M H:=⟨fun _ _ _ h=>h,fun _ _ _ _=>rfl⟩
theorem Ext.trans (a:Ext M H M' H') (b:Ext M' H' M'' H''):Ext M H M'' H'' :=
 ⟨fun c o n h=>b.kp c o (by rw [a.nw c o n h];exact n) (a.kp c o n h),fun c o n h=>(b.nw c o (by rw [a.nw c o n h];exact n) (a.kp c o n h)).trans (a.nw c o n h)⟩
theorem RM.mut (r:RM K M H) {a:Addr} {o:O} (h:M a=some o):∃ ho,H a=some ho/\(∀ xs,ho ≠ .tup xs)/\(fz (some o)=false->Mut (some ho) /\ ∀ ob u,ho ≠ .frz ob u):=by
 have q:=r a o h
 cases o with
 | lst ds =>
   obtain ⟨vs,e,_⟩:=q;exact ⟨_,e,fun _ z=>(by cases z),fun _=>⟨trivial,fun _ _ z=>(by cases z)⟩⟩
 | dct t kvs =>
   cases t with
   | false=>obtain ⟨ps,e,_⟩:=q;exact ⟨_,e,fun _ z=>(by cases z),fun _=>⟨trivial,fun _ _ z=>(by cases z)⟩⟩
   | true=>obtain ⟨ps,e,_⟩:=q;exact ⟨_,e,fun _ z=>(by cases z),fun _=>⟨trivial,fun _ _ z=>(by cases z)⟩⟩
 | fdc kvs=>obtain ⟨ob,ps,e,_⟩:=q;exact ⟨_,e,fun _ z=>(by cases z),fun z=>(by cases z)⟩
theorem RM.fzT (r:RM K M H) {a:Addr} {xs:List V} (e:H a=some (.tup xs)):M a=none:=by
 cases q:M a with
 | none=>rfl
 | some o =>
   obtain ⟨ho,j,z,_⟩:=r.mut q;rw [e] at j;cases j;exact absurd rfl (z xs)
theorem RM.fzF (r:RM K M H) {a:Addr} {ob:Obj} {u:HO} (e:H a=some (.frz ob u)):fz (M a)=true:=by
 cases q:M a with
 | none=>rfl
 | some o =>
   obtain ⟨ho,j,_,B⟩:=r.mut q;rw [e] at j;cases j
   cases z:fz (some o) with
   | true=>rfl
   | false=>exact absurd rfl ((B z).2 ob u)
theorem RM.out (r:RM K M H) {a:Addr} (h:H a=none):M a=none:=by
 cases e:M a with
 | none=>rfl
 | some o =>
   obtain ⟨ho,q,_⟩:=r.mut e;rw [h] at q;cases q
theorem Ext.stab (r:RM K M H) (x:Ext M H M' H'):Stab H H' where
 tup:=fun a xs e=>x.keep a _ (r.fzT e) e
 frz:=fun a o u e=>x.kp a _ (r.fzF e) e
theorem RS.mono (st:Stab H H') {σ:St} {ρ:al} (h:RS K H σ ρ):RS K H' σ ρ :=
 ⟨h.1,fun i d e=>let ⟨v,q,r⟩:=h.2 i d e; ⟨v,q,r.mono st⟩⟩
theorem RS.set {σ:St} {ρ:al} (h:RS K H σ ρ) (i:Nat) {d:D} {v:V} (r:RD K H d v):RS K H (σ.set i (some v)) (ρ.set i (some d)):=by
 refine ⟨by simp [h.1],fun j e q => ?_⟩
 by_cases hij:i=j
 ·subst hij;have hi:i < ρ.length:=by
   have:=(GB.mp q).1;simpa using this
  rw [Ik hi] at q
  cases q
  exact ⟨v,by rw [Ik (by rw [h.1];exact hi)],r⟩
 ·rw [Jh hij] at q ⊢;exact h.2 j e q
noncomputable def jS (fr:List (Option Nat)) (ρ:al):al:=fr.map fun o=>o.bind fun j=>(ρ[j]?).join
theorem RS.inh {σ:St} {ρ:al} (h:RS K H σ ρ) (fr:List (Option Nat)):RS K H (inh fr σ) (jS fr ρ):=by
 refine ⟨by simp [L2.inh,jS],fun i d e => ?_⟩
 unfold jS at e;unfold L2.inh;rw [GH] at e ⊢
 cases q:fr[i]? with
 | none=>rw [q] at e;cases e
 | some o =>
   rw [q] at e
   cases o with
   | none=>cases e
   | some j =>
     have e':some ((ρ[j]?).join)=some (some d):=e
     cases q' : ρ[j]? with
     | none=>rw [q'] at e';cases e'
     | some w =>
       rw [q'] at e'
       cases e'
       obtain ⟨v,v1,v2⟩:=h.2 j d q';exact ⟨v,by simp [v1],v2⟩
theorem RO.mono (st:Stab H H') {a:Addr} {o:O} (h:RO K H a o) (e:∀ ho,H a=some ho->H' a=some ho):RO K H' a o:=by
 cases o with
 | lst ds=>obtain ⟨vs,q,r⟩:=h;exact ⟨vs,e _ q,r.mono st⟩
 | dct t kvs =>
   cases t with
   | false=>obtain ⟨ps,q,r⟩:=h;exact ⟨ps,e _ q,Qa r fun _ _ z=>⟨z.1,z.2.mono st⟩⟩
   | true=>obtain ⟨ps,q,r⟩:=h;exact ⟨ps,e _ q,Qa r fun _ _ z=>⟨z.1,z.2.mono st⟩⟩
 | fdc kvs=>obtain ⟨ob,ps,q,r⟩:=h;exact ⟨ob,ps,e _ q,Qa r fun _ _ z=>⟨z.1,z.2.mono st⟩⟩
theorem RM.new {p:Addr} {ho:HO} (r:RM K M H) (n:H p=none):RM K M (upd H p ho):=fun a o e=>by
 have ne:a≠p:=fun z=>by subst z;obtain ⟨_,q,_⟩:=r.mut e;rw [n] at q;cases q
 refine (r a o e).mono ⟨fun b xs q => ?_,fun b o u q => ?_⟩ fun j q=>by rw [aj ne];exact q
 ·rw [aj (aS q n)];exact q
 ·rw [aj (aS q n)];exact q
theorem Qg {p:Addr} {ho:HO} (n:H p=none):Ext M H M (upd H p ho):=⟨fun a o _ e=>by rw [aj (aS e n)];exact e,fun _ _ _ _=>rfl⟩
theorem RM.lay {p:Addr} {ho:HO} {o:O} (r:RM K M H) (n:H p=none) (h:RO K (upd H p ho) p o):RM K (af M p o) (upd H p ho):=fun a o' e=>by
 by_cases z:a=p
 ·subst z;rw [ab] at e;cases e;exact h
 ·rw [aE z] at e;exact r.new n a o' e
theorem Ext.lay {p:Addr} {ho:HO} {o:O} (n:H p=none):Ext M H (af M p o) (upd H p ho) :=
 ⟨fun a u _ e=>by rw [aj (aS e n)];exact e,fun a u m e=>by rw [aE (aS e n)]⟩
theorem RM.put {p:Addr} {ho:HO} {o o0:O} (r:RM K M H) (m:M p=some o0) (h:RO K (upd H p ho) p o) (w:fz (some o0)=false:=by rfl):RM K (af M p o) (upd H p ho):=fun a o' e=>by
 by_cases z:a=p
 ·subst z;rw [ab] at e;cases e;exact h
 ·rw [aE z] at e;obtain ⟨J,j,B,F⟩:=r.mut m;refine (r a o' e).mono ⟨fun b xs q => ?_,fun b o u q => ?_⟩ fun G q=>by rw [aj z];exact q
  ·rw [aj (fun z=>by subst z;rw [j] at q;cases q;exact B xs rfl)];exact q
  ·rw [aj (fun z=>by subst z;rw [j] at q;cases q;exact (F w).2 o u rfl)];exact q
theorem Ext.put {p:Addr} {ho:HO} {o o0:O} (m:M p=some o0) (w:fz (some o0)=false:=by rfl):Ext M H (af M p o) (upd H p ho) :=
 ⟨fun a u n e=>by rw [aj (fun z=>by subst z;rw [m,w] at n;cases n)];exact e,fun a u n e=>aE (fun z=>by subst z;rw [m,w] at n;cases n)⟩
theorem RM.stabPut {p:Addr} {ho:HO} {o0:O} (r:RM K M H) (m:M p=some o0) (w:fz (some o0)=false:=by rfl):Stab H (upd H p ho):=(Ext.put (o:=o0) (ho:=ho) m w).stab r
end
noncomputable abbrev QD:=D->Mem->Prop
noncomputable abbrev TEd:=al->Mem->QD->Prop
noncomputable abbrev TTd:=al->Mem->(Bool->Mem->Prop)->Prop
noncomputable abbrev TAd:=al->Mem->(List D->Mem->Prop)->Prop
structure b7 where
 nx:al->Mem->Prop
 rt:QD
 bk:al->Mem->Prop:=fun _ _=>False
 ct:al->Mem->Prop:=fun _ _=>False
noncomputable abbrev TSd:=b7->al->Mem->Prop
def ad (T:TEd):Prop := ∀ ρ M Q Q',(∀ d M',Q d M'->Q' d M')->T ρ M Q->T ρ M Q'
def aC (T:TTd):Prop := ∀ ρ M Q Q',(∀ d M',Q d M'->Q' d M')->T ρ M Q->T ρ M Q'
def aU (T:TAd):Prop := ∀ ρ M Q Q',(∀ d M',Q d M'->Q' d M')->T ρ M Q->T ρ M Q'
structure LeD (a b:b7):Prop where
 nx:∀ ρ M,a.nx ρ M->b.nx ρ M
 rt:∀ d M,a.rt d M->b.rt d M
 bk:∀ ρ M,a.bk ρ M->b.bk ρ M
 ct:∀ ρ M,a.ct ρ M->b.ct ρ M
def aB (T:TSd):Prop := ∀ a b ρ M,LeD a b->T a ρ M->T b ρ M
noncomputable def KE' (K:Frag) (M:Mem) (H:Hp) (Q:VK):QD:=fun d M' => ∀ v H',Ext M H M' H'->RM K M' H'->RD K H' d v->Q v H'
noncomputable def KT' (K:Frag) (M:Mem) (H:Hp) (Q:Bool->Hp->Prop):Bool->Mem->Prop:=fun b M' => ∀ H',Ext M H M' H'->RM K M' H'->Q b H'
noncomputable def KA' (K:Frag) (M:Mem) (H:Hp) (Q:List V->Hp->Prop):List D->Mem->Prop:=fun ds M' => ∀ vs H',Ext M H M' H'->RM K M' H'->RDs K H' ds vs->Q vs H'
noncomputable def lE (K:Frag) (T:TEd):TE:=fun σ H Q => ∃ ρ M,RS K H σ ρ /\ RM K M H/\T ρ M (KE' K M H Q)
noncomputable def lT (K:Frag) (T:TTd):TT:=fun σ H Q => ∃ ρ M,RS K H σ ρ /\ RM K M H/\T ρ M (KT' K M H Q)
noncomputable def lA (K:Frag) (T:TAd):TA:=fun σ H Q => ∃ ρ M,RS K H σ ρ /\ RM K M H/\T ρ M (KA' K M H Q)
structure Link (K:Frag) (M:Mem) (H:Hp) (a:b7) (b:bm):Prop where
 nx:∀ ρ M' σ H',Ext M H M' H'->RS K H' σ ρ -> RM K M' H'->a.nx ρ M'->b.nx σ H'
 rt:∀ d M' v H',Ext M H M' H'->RM K M' H'->RD K H' d v->a.rt d M'->b.rt v H'
 bk:∀ ρ M' σ H',Ext M H M' H'->RS K H' σ ρ -> RM K M' H'->a.bk ρ M'->b.bk σ H'
 ct:∀ ρ M' σ H',Ext M H M' H'->RS K H' σ ρ -> RM K M' H'->a.ct ρ M'->b.ct σ H'
noncomputable def lS (K:Frag) (T:TSd):TS:=fun D σ H => ∃ ρ M A,RS K H σ ρ /\ RM K M H/\Link K M H A D/\T A ρ M
theorem Link.ext {K:Frag} {M M':Mem} {H H':Hp} {a:b7} {b:bm} (l:Link K M H a b) (x:Ext M H M' H'):Link K M' H' a b :=
 ⟨fun ρ M2 σ H2 y=>l.nx ρ M2 σ H2 (x.trans y),fun d M2 v H2 y=>l.rt d M2 v H2 (x.trans y),fun ρ M2 σ H2 y=>l.bk ρ M2 σ H2 (x.trans y),fun ρ M2 σ H2 y=>l.ct ρ M2 σ H2 (x.trans y)⟩
theorem PE.imp {X:Cx} {e:Expr} {t t':TE} (h:PE X e t) (i:∀ σ H Q,t' σ H Q->t σ H Q):PE X e t':=fun pins s σ H Q I q=>h pins s σ H Q I (i _ _ _ q)
theorem PT.imp {X:Cx} {e:Expr} {t t':TT} (h:PT X e t) (i:∀ σ H Q,t' σ H Q->t σ H Q):PT X e t':=fun pins s σ H Q I q=>h pins s σ H Q I (i _ _ _ q)
theorem PW.imp {X:Cx} {e:Expr} {t t':TT} (h:PW X e t) (i:∀ σ H Q,t' σ H Q->t σ H Q):PW X e t':=fun wh pins s σ H Q I q=>h wh pins s σ H Q I (i _ _ _ q)
theorem PA.imp {X:Cx} {e:List Expr} {t t':TA} (h:PA X e t) (i:∀ σ H Q,t' σ H Q->t σ H Q):PA X e t':=fun p pins s σ H Q I q=>h p pins s σ H Q I (i _ _ _ q)
theorem PS.imp {X:Cx} {e:Stmt} {t t':TS} (h:PS X e t) (i:∀ D σ H,t' D σ H->t D σ H):PS X e t':=fun pins s σ H D I q=>h pins s σ H D I (i _ _ _ q)
theorem PSs.imp {X:Cx} {e:List Stmt} {t t':TS} (h:PSs X e t) (i:∀ D σ H,t' D σ H->t D σ H):PSs X e t':=fun pins s σ H D I q=>h pins s σ H D I (i _ _ _ q)
end
section
theorem KE'.ext {K:Frag} {M M2 M':Mem} {H H2:Hp} {Q:VK} {d:D} (x:Ext M H M2 H2) (h:KE' K M H Q d M'):KE' K M2 H2 Q d M':=fun v H' y=>h v H' (x.trans y)
theorem KT'.ext {K:Frag} {M M2 M':Mem} {H H2:Hp} {Q:Bool->Hp->Prop} {d:Bool} (x:Ext M H M2 H2) (h:KT' K M H Q d M'):KT' K M2 H2 Q d M':=fun H' y=>h H' (x.trans y)
noncomputable abbrev R2d:=D->D->Mem->QD->Prop
noncomputable abbrev R1d:=D->Mem->QD->Prop
noncomputable abbrev RAd:=List D->Mem->QD->Prop
def av (r:R2d):Prop := ∀ x y M Q Q',(∀ d M',Q d M'->Q' d M')->r x y M Q->r x y M Q'
def rc (r:R1d):Prop := ∀ x M Q Q',(∀ d M',Q d M'->Q' d M')->r x M Q->r x M Q'
def b4 (r:RAd):Prop := ∀ x M Q Q',(∀ d M',Q d M'->Q' d M')->r x M Q->r x M Q'
noncomputable def l2 (K:Frag) (rd:R2d):R2:=fun v u H Q => ∃ x y M,RM K M H/\RD K H x v/\RD K H y u/\rd x y M (KE' K M H Q)
noncomputable def l1 (K:Frag) (rd:R1d):V->Hp->VK->Prop:=fun v H Q => ∃ x M,RM K M H/\RD K H x v/\rd x M (KE' K M H Q)
noncomputable def lR (K:Frag) (rd:RAd):List V->Hp->VK->Prop:=fun vs H Q => ∃ ds M,RM K M H/\RDs K H ds vs/\rd ds M (KE' K M H Q)
noncomputable def lMt (K:Frag) (rd:D->List D->Mem->QD->Prop):V->List V->Hp->VK->Prop:=fun v vs H Q => ∃ x ds M,RM K M H/\RD K H x v/\RDs K H ds vs/\rd x ds M (KE' K M H Q)
noncomputable def im (i:Nat):TEd:=fun ρ M Q => ∃ d, ρ[i]? = some (some d)/\Q d M
noncomputable def wC (d:D):TEd:=fun _ M Q=>Q d M
noncomputable def wOp (rd:R2d) (ta tb:TEd):TEd:=fun ρ M Q=>ta ρ M fun x M1=>tb ρ M1 fun y M2=>rd x y M2 Q
noncomputable def wUn (rd:R1d) (ta:TEd):TEd:=fun ρ M Q=>ta ρ M fun x M1=>rd x M1 Q
noncomputable def bB:TAd:=fun _ M Q=>Q [] M
noncomputable def b8 (ta:TEd) (tr:TAd):TAd:=fun ρ M Q=>ta ρ M fun x M1=>tr ρ M1 fun xs M2=>Q (x::xs) M2
noncomputable def wAr (rd:RAd) (t:TAd):TEd:=fun ρ M Q=>t ρ M fun ds M1=>rd ds M1 Q
theorem w5 {i:Nat}:ad (im i):=fun _ _ _ _ h ⟨d,e,q⟩=>⟨d,e,h _ _ q⟩
theorem mQ {d:D}:ad (wC d):=fun _ _ _ _ h q=>h _ _ q
theorem eC {rd:R2d} {ta tb:TEd} (j:av rd) (z:ad ta) (B:ad tb):ad (wOp rd ta tb):=fun ρ M Q Q' h q =>
 z _ _ _ _ (fun x J F=>B _ _ _ _ (fun y M2 G=>j _ _ _ _ _ h G) F) q
theorem yY {rd:R1d} {ta:TEd} (j:rc rd) (z:ad ta):ad (wUn rd ta):=fun ρ M Q Q' h q=>z _ _ _ _ (fun x F B=>j _ _ _ _ h B) q
theorem au:aU bB:=fun _ _ _ _ h q=>h _ _ q
theorem ao {ta:TEd} {tr:TAd} (j:ad ta) (z:aU tr):aU (b8 ta tr):=fun ρ M Q Q' h q =>
 j _ _ _ _ (fun x G B=>z _ _ _ _ (fun xs M2 F=>h _ _ F) B) q
theorem gy {rd:RAd} {t:TAd} (j:b4 rd) (z:aU t):ad (wAr rd t):=fun ρ M Q Q' h q=>z _ _ _ _ (fun ds F B=>j _ _ _ _ h B) q
section
variable {X:Cx} {a b:Expr} {ta tb:TEd} {pos:Pos}
theorem Be {i:Nat} {x:Str} (B:X.N[i]? = some x) (j:Vis X.env.scope x) (hd:(x==("__debug__":Str))=false) (z:(x==("__classdict__":Str))=false):PE X (.Name x pos) (lE X.K (im i)):=by
 refine PE.imp (Aw B j hd z) fun σ H Q h => ?_;obtain ⟨ρ,M,rs,rm,d,e,q⟩:=h;obtain ⟨v,j,rd⟩:=rs.2 i d e;exact ⟨v,j,q v H Ext.refl rm rd⟩
theorem Bf {i:Int} {j:Nat}:PE X (.Constant (.int i) j pos) (lE X.K (wC (.int i))) :=
 PE.imp Ax fun σ H Q ⟨ρ,M,rs,rm,q⟩=>q _ H Ext.refl rm (Q5.mpr rfl)
theorem CP {i:Bool} {j:Nat}:PE X (.Constant (.bool i) j pos) (lE X.K (wC (.bl i))) :=
 PE.imp Co fun σ H Q ⟨ρ,M,rs,rm,q⟩=>q _ H Ext.refl rm (Q7.mpr rfl)
theorem Bg {j:Nat}:PE X (.Constant .none j pos) (lE X.K (wC .non)) :=
 PE.imp Ay fun σ H Q ⟨ρ,M,rs,rm,q⟩=>q _ H Ext.refl rm (Qc.mpr rfl)
theorem gA {K:Frag} {rd:R2d} (G:av rd) (ma:ad ta) (mb:ad tb) (σ:St) (H:Hp) (Q:VK) (h:lE K (wOp rd ta tb) σ H Q):tOp (l2 K rd) (lE K ta) (lE K tb) σ H Q:=by
 obtain ⟨ρ,M,rs,rm,q⟩:=h;refine ⟨ρ,M,rs,rm,ma _ _ _ _ (fun x J L v H1 x1 j z => ?_) q⟩;refine ⟨ρ,J,rs.mono (x1.stab rm),j,mb _ _ _ _ (fun y M2 O u H2 x2 B F => ?_) L⟩;exact ⟨x,y,M2,B,z.mono (x2.stab j),F,G _ _ _ _ _ (fun d M' k=>k.ext (x1.trans x2)) O⟩
theorem CQ {op:JT} {rd:R2d} (ho:OpR X (I9 op) (l2 X.K rd)) (j:av rd) (ma:ad ta) (mb:ad tb) (q:PE X a (lE X.K ta)) (z:PE X b (lE X.K tb)):PE X (.BinOp a op b pos) (lE X.K (wOp rd ta tb)) :=
 PE.imp (CA ho q z) (gA j ma mb)
theorem Bh {op:CmpOp} {rd:R2d} (ho:OpR X (I7 op) (l2 X.K rd)) (j:av rd) (ma:ad ta) (mb:ad tb) (q:PE X a (lE X.K ta)) (z:PE X b (lE X.K tb)) (hm:Kd op b=false) :
 PE X (.Compare a [op] [b] pos) (lE X.K (wOp rd ta tb)):=PE.imp (yN ho q z hm) (gA j ma mb)
noncomputable def io (t:TEd):TTd:=fun ρ M Q=>t ρ M fun x M1 => ∃ k,x = .bl k/\Q k M1
theorem w6 {t:TEd} (h:ad t):aC (io t):=fun ρ M Q Q' i q=>h _ _ _ _ (fun x z ⟨k,e,j⟩=>⟨k,e,i _ _ j⟩) q
theorem w8 {K:Frag} {t:TEd} (m:ad t) (σ:St) (H:Hp) (Q:Bool->Hp->Prop) (h:lT K (io t) σ H Q):xW (lE K t) σ H Q:=by
 obtain ⟨ρ,M,rs,rm,q⟩:=h;refine ⟨ρ,M,rs,rm,m _ _ _ _ (fun x F ⟨k,e,B⟩ v H1 x1 j z => ?_) q⟩;subst e;exact ⟨k,Q7.mp z,B H1 x1 j⟩
theorem Bi {op:CmpOp} {rd:R2d} (ho:OpR X (I7 op) (l2 X.K rd)) (j:av rd) (ma:ad ta) (mb:ad tb) (q:PE X a (lE X.K ta)) (z:PE X b (lE X.K tb)) (hm:Kd op b=false) :
 PT X (.Compare a [op] [b] pos) (lT X.K (io (wOp rd ta tb))) :=
 PT.imp (yO ho q z hm) fun σ H Q h=>by
  have h1:=w8 (eC j ma mb) σ H Q h;exact gA j ma mb σ H _ h1
theorem CS {op:UnaryOp} {rd:R1d} (ho:UnR X (unaryOp op) (l1 X.K rd)) (B:rc rd) (ma:ad ta) (F:PE X a (lE X.K ta)):PE X (.UnaryOp op a pos) (lE X.K (wUn rd ta)) :=
 PE.imp (CB ho F) fun σ H Q ⟨ρ,M,rs,rm,q⟩=>⟨ρ,M,rs,rm,ma _ _ _ _ (fun x G J v H1 x1 j z=>⟨x,G,j,z,B _ _ _ _ (fun d M' k=>k.ext x1) J⟩) q⟩
theorem CT {rd:R2d} (ho:IxR X (l2 X.K rd)) (j:av rd) (ma:ad ta) (mb:ad tb) (q:PE X a (lE X.K ta)) (z:PE X b (lE X.K tb)) (hs:jP b):PE X (.Subscript a b pos) (lE X.K (wOp rd ta tb)) :=
 PE.imp (CJ ho q z hs) (gA j ma mb)
theorem dA:PA X [] (lA X.K bB):=PA.imp AY fun σ H Q ⟨ρ,M,rs,rm,q⟩=>q _ H Ext.refl rm RDs.nil
theorem tD {K:Frag} {tr:TAd} (ma:ad ta) (mr:aU tr) (σ:St) (H:Hp) (Q:List V->Hp->Prop) (h:lA K (b8 ta tr) σ H Q):xX (lE K ta) (lA K tr) σ H Q:=by
 obtain ⟨ρ,M,rs,rm,q⟩:=h;refine ⟨ρ,M,rs,rm,ma _ _ _ _ (fun x G J v H1 x1 j z => ?_) q⟩;refine ⟨ρ,G,rs.mono (x1.stab rm),j,mr _ _ _ _ (fun xs M2 L vs H2 x2 B F => ?_) J⟩;exact L (v::vs) H2 (x1.trans x2) B (RDs.cons (z.mono (x2.stab j)) F)
theorem bu {e:Expr} {es:List Expr} {tr:TAd} (ma:ad ta) (mr:aU tr) (j:PE X e (lE X.K ta)) (q:PA X es (lA X.K tr)) (hs:GN (e::es) X.env=(false,eval e X.env)::GN es X.env) :
 PA X (e::es) (lA X.K (b8 ta tr)):=PA.imp (yP j q hs) (tD ma mr)
theorem bI {K:Frag} {rd:RAd} {t:TAd} (B:b4 rd) (mt:aU t) (σ:St) (H:Hp) (Q:VK) (h:lE K (wAr rd t) σ H Q):tCB (lR K rd) (lA K t) σ H Q:=by
 obtain ⟨ρ,M,rs,rm,q⟩:=h;exact ⟨ρ,M,rs,rm,mt _ _ _ _ (fun ds F G vs H1 x1 j z=>⟨ds,F,j,z,B _ _ _ _ (fun d M' k=>k.ext x1) G⟩) q⟩
noncomputable def mR:RAd:=fun ds M Q=>ds.length<=Gg/\Q (.tup ds) M
noncomputable def mU:RAd:=fun ds M Q=>ds.length<=Gg /\ ∀ p,M p=none->Q (.ref p) (af M p (.lst ds))
theorem tE:b4 mR:=fun _ _ _ _ h ⟨z,q⟩=>⟨z,h _ _ q⟩
theorem tF:b4 mU:=fun _ _ _ _ h ⟨z,q⟩=>⟨z,fun p n=>h _ _ (q p n)⟩
theorem dg {K:Frag} {M:Mem} {H:Hp} {Q:VK} {ds:List D} {vs:List V} {p:Addr} (rm:RM K M H) (rd:RDs K H ds vs) (q:KE' K M H Q (.tup ds) M) (n:H p=none):Q (.ref p) (upd H p (.tup vs)):=by
 have x:Ext M H M (upd H p (.tup vs)):=Qg n;exact q (.ref p) _ x (rm.new n) (Qf ⟨p,vs,rfl,aG,rd.mono (x.stab rm)⟩)
theorem cm {K:Frag} {M:Mem} {H:Hp} {Q:VK} {ds:List D} {vs:List V} {p:Addr} (rm:RM K M H) (rd:RDs K H ds vs) (q:∀ p,M p=none->KE' K M H Q (.ref p) (af M p (.lst ds))) (n:H p=none):Q (.ref p) (upd H p (.lst vs)):=by
 have x:Ext M H (af M p (.lst ds)) (upd H p (.lst vs)):=Ext.lay n;have x0:Ext M H M (upd H p (.lst vs)):=Qg n;exact q p (rm.out n) (.ref p) _ x (rm.lay n ⟨vs,aG,rd.mono (x0.stab rm)⟩) (Q6.mpr rfl)
theorem Bj {es:List Expr} {t:TAd} {k:Nat} (mt:aU t) (h:PA X es (lA X.K t)):PE X (.Tuple es k pos) (lE X.K (wAr mR t)) :=
 PE.imp (AZ h) fun σ H Q ⟨ρ,M,rs,rm,q⟩=>⟨ρ,M,rs,rm,mt _ _ _ _ (fun ds G ⟨z,F⟩ vs H1 x1 B j=>⟨by rw [j.length];exact z,fun p n=>dg B j (F.ext x1) n⟩) q⟩
theorem Bk {es:List Expr} {t:TAd} (mt:aU t) (h:PA X es (lA X.K t)):PE X (.List es pos) (lE X.K (wAr mU t)) :=
 PE.imp (B0 h) fun σ H Q ⟨ρ,M,rs,rm,q⟩=>⟨ρ,M,rs,rm,mt _ _ _ _ (fun ds G ⟨z,F⟩ vs H1 x1 B j=>⟨by rw [j.length];exact z,fun p n=>cm B j (fun p' n'=>(F p' n').ext x1) n⟩) q⟩
end
end
end Mi
end L2
namespace L2
open PySem PySem.Spec PyProof.Rows
namespace Mi
end Mi
end L2
namespace L2
open PySem PySem.Spec PyProof.Rows
section
theorem iq:fillsNumberSlot (.type "tuple") "mul" = pure false :=
 PyProof.Rows.fillsNumberSlot_seq (id := "tuple.__mul__") (r:=some (.builtin "tuple.__rmul__")) F.slot_tuple_mul.lookup (by decide +kernel) F.slot_tuple_rmul.lookup (by decide +kernel)
theorem mV:seqRepeat? (.type "tuple")=pure (some (.builtin "tuple.__mul__")):=by
 unfold seqRepeat?;rw [Mw (T := "tuple") (name := "__mul__") (id := "tuple.__mul__") F.slot_tuple_mul.lookup (by decide +kernel),Mw (T := "tuple") (name := "__rmul__") (id := "tuple.__rmul__") F.slot_tuple_rmul.lookup (by decide +kernel)]
 rfl
theorem jT (a:Int) (t:Tok) (l:Addr) (items:Array gV) (n:Nat) (d:Option Addr) (sl:Array (Option gV)) :
 Meets (Im.«int.__rmul__» ⟨[.int a t, .ref l],[]⟩) (fun _ R s=>s.heap.get? l=some { cls := .type "tuple",dict:=d,data := .seq items n,slots:=sl }/\R (.ok (.ret Value.notImplemented)) s) :=
 .of_wp fun prog w A R s h=>by obtain ⟨j,g,d,tk,os⟩:=s;obtain ⟨q,h⟩:=h;wp_walk;exact ⟨_,rfl,h⟩
open AutoSeq1 (wpAny_loadPart') in
theorem tG (l:Addr) (items:Array gV) (n:Nat) (dd:Option Addr) (sl:Array (Option gV)) (x:Int) (u:Tok) (h1 : -(2 ^ 63)<=x) (h2:x < 2 ^ 63) (z:items.size*x.toNat<=Gg) :
 Meets (Im.«tuple.__mul__» ⟨[.ref l, .int x u],[]⟩) (fun _ R s=>s.heap.get? l=some { cls := .type "tuple",dict:=dd,data := .seq items n,slots:=sl } /\
  (if items.isEmpty || x==1 then R (.ok (.ret (.ref l))) s else R (.ok (.ret (.ref s.heap.objs.size))) { s with heap:=s.heap.push { cls := .type "tuple",data := .seq ((D1 x.toNat items).foldl (· ++ ·) #[]) } })) :=
 .of_wp fun prog w A R s h=>by
  obtain ⟨O,g,d,tk,os⟩:=s;obtain ⟨j,h⟩:=h;have f1:=AutoSeq1.idx_int;have B:(decide (x < -(2 ^ 63)) || decide (x≥2 ^ 63))=false:=by
   rw [decide_eq_false (by lia),decide_eq_false (by lia)];rfl
  wp_walk using Hd j
  refine IV (decide_eq_false (by rw [B];decide)) ?_
  dsimp only
  by_cases e1:(items.isEmpty || x==1)=true
  ·rw [if_pos e1] at h
   wp_walk using Hd j
   exact ⟨_,rfl,h⟩
  ·rw [if_neg e1] at h
   wp_walk using Hd j
   simp only [Na,not_or] at e1
   by_cases e2:x<=0
   ·have q:(decide (x<=0) || items.isEmpty)=true:=by rw [decide_eq_true e2];rfl
    rw [if_pos q];have F:x.toNat=0:=by lia
    rw [F] at h
    wp_walk
    exact ⟨_,rfl,h⟩
   ·have q : ¬ (decide (x<=0) || items.isEmpty)=true:=by simp;exact ⟨by lia,by simpa using e1.1⟩
    rw [if_neg q];have hx:((items.size:Nat):Int)*x=((items.size*x.toNat:Nat):Int):=by
     rw [Pg,Int.toNat_of_nonneg (by lia)]
    have hs:Gg=16777216:=Gd;have G : ¬ ((items.size:Nat):Int)*x > (2 ^ 63 - 1) / 8:=by rw [hx];lia
    rw [if_neg G];have J : ¬ LS (((items.size:Nat):Int)*x)=true:=by
     rw [hx];unfold LS;intro L;have U:=of_decide_eq_true L;lia
    rw [if_neg J]
    wp_walk
    have hsz:((D1 x.toNat items).foldl (· ++ ·) #[]).size<=Gg:=by
     have:∀ (k:Nat) (a:Array gV),((D1 k items).foldl (· ++ ·) a).size=a.size+items.size*k:=by
      intro k;induction k with
      | zero=>intro a;simp
      | succ k ih=>intro a;rw [Hq,N7,ih,JR,Nat.mul_succ];lia
     rw [this];simpa using z
    refine IV (decide_eq_false (PH.mpr hsz)) ?_
    wp_walk
    exact ⟨_,rfl,h⟩
end
section
section
variable {X:Cx}
noncomputable def yb (K:Frag):R2:=fun x y H Q => ∃ l k xs,x = .ref l/\y = .int k/\SqT K H l xs /\ -(2 ^ 63)<=k/\k < 2 ^ 63/\xs.length*k.toNat<=Gg /\
 ((xs=[]∨k=1)->Q (.ref l) H)/\(¬ (xs=[]∨k=1) -> ∀ p,H p=none->Q (.ref p) (upd H p (.tup (D1 k.toNat xs).flatten)))
theorem yZ:OpR X (I9 .Mult) (yb X.K):=by
 intro pins s σ H x y v u Q I rx ry h;obtain ⟨l,k,xs,rfl,rfl,G,h1,h2,j,J,L⟩:=h
 cases rx
 obtain ⟨t,rfl⟩:=ry;obtain ⟨its,r,O,_⟩:=I.tuple G;have Y:=r.length;obtain ⟨⟨cls,dd,dat,sl⟩,e,B,n,hd⟩:=O;dsimp only at B hd;subst B hd;have hlen:its.toArray.size*k.toNat<=Gg:=by rw [Gf, <- Y];exact j
 have f0:∀ m:Nat,L8 (fun x1 x2=>x1++x2) #[] (D1 m its.toArray)=(D1 m its).flatten.toArray:=fun m=>by
  have:=fF its m [];rw [Ls] at this;exact this
 refine LZ (T := "tuple") (U := "int") (by decide) ⟨_,e,rfl⟩ (fun s'=>MR s' k t) iq Pc Lu mV F.slot_int_index.lookup
  (JW Lu (MR s k t) OM (Ov _ _) (jT k t l its.toArray n dd sl)
    ⟨e,rfl,⟨_,e,rfl⟩,JW F.slot_tuple_mul ⟨_,e,rfl⟩ F.entry_tuple_mul (F.args_tuple_mul_2 _ _) (tG l its.toArray n dd sl k t h1 h2 hlen) ⟨e, ?_⟩⟩)
 have hi:(its.toArray.isEmpty || k==1)=true↔(xs=[]∨k=1):=by
  rw [<- r.nil_iff];simp
 split
 ·next c=>exact ⟨.ref l,H,I,rfl,J (hi.mp c)⟩
 ·next c =>
  rw [f0];refine ⟨.ref s.heap.objs.size,_,I.laid (t':=s.toks) (o := .tup (D1 k.toNat xs).flatten) (fun b ob q=>h6 _ q) (Gi _) ?_,rfl,L (fun z=>c (hi.mpr z)) _ (I.hok.fresh (Gi _))⟩;exact ⟨by rw [pO,Nat.mul_comm];exact j,_,r.rep k.toNat,L5 _ _⟩
end
end
section
section
variable {X:Cx}
theorem z9:OpR X (I9 .Add) (fun x y H Q => ∃ a b ys,x = .ref a/\y = .ref b/\SqT X.K H a []/\SqT X.K H b ys/\Q (.ref b) H):=by
 intro pins s σ H x y v u Q I rx ry h;obtain ⟨a,b,ys,rfl,rfl,U,Y,q⟩:=h
 cases rx
 cases ry
 obtain ⟨its,Z,p1,_⟩:=I.tuple U;obtain ⟨j,r2,p2,_⟩:=I.tuple Y;have e0:its=[]:=Z.nil_iff.mpr rfl;obtain ⟨⟨cls,dd,data,sl⟩,ho,L,n,hd⟩:=id p1;obtain ⟨⟨O,G,data2,J⟩,z,B,n2,hd2⟩:=id p2;simp only at L hd B hd2;subst L hd B hd2;exact Ot ⟨_,ho,rfl⟩ ⟨_,z,rfl⟩ Ms NW KN KA (Kf _ _)
  (tuple_addW0 a b its.toArray j.toArray n n2 dd G sl J (by simp [e0])) ⟨ho,z,⟨.ref b,H,I,rfl,q⟩⟩
end
end
end L2
namespace L2
namespace Mi
open PySem PySem.Spec PyProof.Rows
section
def MulOk (i j:Int):Prop:=(-(2 ^ 64) < i/\i < 2 ^ 64)∨(-(2 ^ 64) < j/\j < 2 ^ 64)∨(NP i<=2 ^ 20/\NP j<=2 ^ 20)
theorem MulOk.ok {i j:Int} (h:MulOk i j):IntMulOk i j:=by
 rcases h with h | h | h
 ·exact IntMulOk.of_left (intBits_le_64 h.1 h.2)
 ·exact IntMulOk.of_right (intBits_le_64 h.1 h.2)
 ·exact IntMulOk.of_bits h.1 h.2
noncomputable def fI:R2d
 | .int i, .int j,M,Q=>Q (.int (i+j)) M
 | .tup a, .tup b,M,Q=>(a≠[]∨True)/\a.length+b.length<=Gg/\Q (.tup (a++b)) M
 | .ref a, .ref b,M,Q => ∃ xs ys,M a=some (.lst xs)/\M b=some (.lst ys)/\xs.length+ys.length<=Gg /\ ∀ p,M p=none->Q (.ref p) (af M p (.lst (xs++ys)))
 | .str x, .str y,M,Q=>x.length+y.length<=Gg/\Q (.str (x++y)) M
 | _,_,_,_=>False
noncomputable def rf:R2d
 | .int i, .int j,M,Q=>Q (.int (i - j)) M
 | _,_,_,_=>False
noncomputable def jU:R2d
 | .int i, .int j,M,Q=>MulOk i j/\Q (.int (i*j)) M
 | .ref a, .int k,M,Q => ∃ xs,M a=some (.lst xs) /\ -(2 ^ 63)<=k/\k < 2 ^ 63/\xs.length*k.toNat<=Gg /\ ∀ p,M p=none->Q (.ref p) (af M p (.lst (D1 k.toNat xs).flatten))
 | .tup ds, .int k,M,Q => -(2 ^ 63)<=k/\k < 2 ^ 63/\ds.length*k.toNat<=Gg/\Q (.tup (D1 k.toNat ds).flatten) M
 | _,_,_,_=>False
noncomputable def lZ:R2d
 | .int i, .int j,M,Q => 0 < j/\j < 2 ^ 256/\Q (.int (i / j)) M
 | _,_,_,_=>False
noncomputable def rg:R2d
 | .int i, .int j,M,Q => 0 < j/\Q (.int (i % j)) M
 | _,_,_,_=>False
noncomputable def rh:R2d
 | .int i, .int j,M,Q => 0<=j/\j<=1000000/\i.natAbs < 2 ^ 64/\Q (.int (i ^ j.toNat)) M
 | _,_,_,_=>False
theorem mW:av fI:=by
 intro x y M Q Q' h q
 cases x <;> cases y <;> first
  | exact q.elim
  | exact h _ _ q
  | exact ⟨q.1,h _ _ q.2⟩
  | exact ⟨q.1,q.2.1,h _ _ q.2.2⟩
  | (obtain ⟨xs,ys,e1,e2,z,q⟩:=q;exact ⟨xs,ys,e1,e2,z,fun p n=>h _ _ (q p n)⟩)
theorem w9:av rf:=by
 intro x y M Q Q' h q
 cases x <;> cases y <;> first | exact q.elim | exact h _ _ q
theorem wa:av jU:=by
 intro x y M Q Q' h q
 cases x <;> cases y <;> first
  | exact q.elim
  | exact ⟨q.1,h _ _ q.2⟩
  | exact ⟨q.1,q.2.1,q.2.2.1,h _ _ q.2.2.2⟩
  | (obtain ⟨xs,e1,j,z,B,q⟩:=q;exact ⟨xs,e1,j,z,B,fun p n=>h _ _ (q p n)⟩)
theorem tH:av lZ:=by
 intro x y M Q Q' h q
 cases x <;> cases y <;> first | exact q.elim | exact ⟨q.1,q.2.1,h _ _ q.2.2⟩
theorem wb:av rg:=by
 intro x y M Q Q' h q
 cases x <;> cases y <;> first | exact q.elim | exact ⟨q.1,h _ _ q.2⟩
theorem wc:av rh:=by
 intro x y M Q Q' h q
 cases x <;> cases y <;> first | exact q.elim | exact ⟨q.1,q.2.1,q.2.2.1,h _ _ q.2.2.2⟩
section
variable {X:Cx}
theorem OpR.of {f:gV->gV->Sem gV} {r r':R2} (h:OpR X f r) (i:∀ v u H Q,r' v u H Q->r v u H Q):OpR X f r':=fun pins s σ H x y v u Q I rx ry q=>h pins s σ H x y v u Q I rx ry (i _ _ _ _ q)
theorem IxR.of {r r':R2} (h:IxR X r) (i:∀ v u H Q,r' v u H Q->r v u H Q):IxR X r':=fun a b pins s σ H x y v u Q I rx ry q=>h a b pins s σ H x y v u Q I rx ry (i _ _ _ _ q)
theorem CallR.of {f:gV} {r r':List V->Hp->VK->Prop} (h:CallR X f r) (i:∀ vs H Q,r' vs H Q->r vs H Q):CallR X f r':=fun pins s σ H xs us Q I rx q=>h pins s σ H xs us Q I rx (i _ _ _ q)
theorem CU {K:Frag} {M:Mem} {H:Hp} {Q:VK} {a b:List D} {v u:V} (rm:RM K M H) (rx:RD K H (.tup a) v) (ry:RD K H (.tup b) u) (q:fI (.tup a) (.tup b) M (KE' K M H Q)):xZ K v u H Q ∨ ∃ a b ys,v = .ref a/\u = .ref b/\SqT K H a []/\SqT K H b ys/\Q (.ref b) H:=by
 obtain ⟨a',vs,rfl,z,j⟩:=Qb rx;obtain ⟨b',us,rfl,B,F⟩:=Qb ry;obtain ⟨_,J,q⟩:=q;have l1:=j.length;have l2:=F.length
 by_cases G:a=[]
 ·subst G;have:vs=[]:=RDs.nil_iff.mp j;subst this;exact .inr ⟨a',b',us,rfl,rfl,z,B,q _ H Ext.refl rm ry⟩
 refine .inl ⟨a',b',vs,us,rfl,rfl,z,B,fun e=>G (Hh.mp (by rw [<- l1,e];rfl)),by lia,fun e => ?_,fun _ p n=>dg rm (j.append F) q n⟩
 have eb:b=[]:=Hh.mp (by rw [<- l2,e];rfl)
 subst eb;rw [HU] at q;exact q _ H Ext.refl rm rx
theorem mX:OpR X (I9 .Add) (l2 X.K fI):=by
 refine OpR.of (op_add.or ((op_catT.or z9).or (op_cat.or qV))) fun v u H Q h => ?_;obtain ⟨x,y,M,rm,rx,ry,q⟩:=h
 cases x <;> cases y <;> first
  | exact q.elim
  | (cases Q5.mp rx;cases Q5.mp ry;exact .inl ⟨_,_,rfl,rfl,q _ H Ext.refl rm (Q5.mpr rfl)⟩)
  | exact .inr (.inl (CU rm rx ry q))
  | (cases Q6.mp rx;cases Q6.mp ry
     obtain ⟨xs,ys,e1,e2,z,q⟩:=q;obtain ⟨vs,h1,j⟩:=rm _ _ e1;obtain ⟨us,h2,B⟩:=rm _ _ e2;have l1:=j.length;have l2:=B.length;refine .inr (.inr (.inl ⟨_,_,vs,us,rfl,rfl,h1,h2,by lia,fun p n=>cm rm (j.append B) q n⟩)))
  | (cases Qe.mp rx;cases Qe.mp ry;exact .inr (.inr (.inr ⟨_,_,rfl,rfl,q.1,q.2 _ H Ext.refl rm (Qe.mpr rfl)⟩)))
theorem wd:OpR X (I9 .Sub) (l2 X.K rf):=by
 refine OpR.of AS fun v u H Q h => ?_;obtain ⟨x,y,M,rm,rx,ry,q⟩:=h
 cases x <;> cases y <;> first
  | exact q.elim
  | (cases Q5.mp rx;cases Q5.mp ry;exact ⟨_,_,rfl,rfl,q _ H Ext.refl rm (Q5.mpr rfl)⟩)
theorem op_mul_i:OpR X (I9 .Mult) (rI MulOk fun i j => .int (i*j)):=opI fun _ _ _ _ _ _ _ z q=>mul_int q z.ok
theorem CV {K:Frag} {M:Mem} {H:Hp} {Q:VK} {a:List D} {k:Int} {v u:V} (rm:RM K M H) (rx:RD K H (.tup a) v) (ry:RD K H (.int k) u) (q:jU (.tup a) (.int k) M (KE' K M H Q)):yb K v u H Q:=by
 obtain ⟨a',vs,rfl,z,j⟩:=Qb rx
 cases Q5.mp ry
 obtain ⟨B,F,G,q⟩:=q;have l1:=j.length;refine ⟨a',k,vs,rfl,rfl,z,B,F,by rw [l1];exact G,fun e => ?_,fun _ p n=>dg rm (j.rep _) q n⟩
 have ea:(D1 k.toNat a).flatten=a:=by
  rcases e with e | e
  ·have:a=[]:=Hh.mp (by rw [<- l1,e];rfl)
   subst this;simp
  ·subst e;simp
 rw [ea] at q;exact q _ H Ext.refl rm rx
theorem we:OpR X (I9 .Mult) (l2 X.K jU):=by
 refine OpR.of (op_mul_i.or (op_rep.or yZ)) fun v u H Q h => ?_;obtain ⟨x,y,M,rm,rx,ry,q⟩:=h
 cases x <;> cases y <;> first
  | exact q.elim
  | (cases Q5.mp rx;cases Q5.mp ry;exact .inl ⟨_,_,rfl,rfl,q.1,q.2 _ H Ext.refl rm (Q5.mpr rfl)⟩)
  | (cases Q6.mp rx;cases Q5.mp ry
     obtain ⟨xs,e1,z,B,F,q⟩:=q;obtain ⟨vs,h1,j⟩:=rm _ _ e1;have l1:=j.length;exact .inr (.inl ⟨_,_,vs,rfl,rfl,h1,z,B,by rw [l1];exact F,fun p n=>cm rm (j.rep _) q n⟩))
  | exact .inr (.inr (CV rm rx ry q))
theorem wf:OpR X (I9 .FloorDiv) (rI (fun _ j => 0 < j/\j < 2 ^ 256) fun i j => .int (i / j)):=L2.opI fun i j _ _ _ _ _ z q=>by
 have h1:(0:Int) < j:=z.1;have h2:j < 2 ^ 256:=z.2;have B:j.natAbs.log2 < 256:=(Nat.log2_lt (by lia)).mpr (by lia)
 exact floordiv_int (by lia) (by rw [Int.fdiv_eq_ediv_of_nonneg i (by lia)];exact q) (.inl (PyProof.noPylong_of_log2 (by lia)))
theorem tI:OpR X (I9 .FloorDiv) (l2 X.K lZ):=by
 refine OpR.of wf fun v u H Q h => ?_;obtain ⟨x,y,M,rm,rx,ry,q⟩:=h
 cases x <;> cases y <;> first
  | exact q.elim
  | (cases Q5.mp rx;cases Q5.mp ry;exact ⟨_,_,rfl,rfl,⟨q.1,q.2.1⟩,q.2.2 _ H Ext.refl rm (Q5.mpr rfl)⟩)
theorem wg:OpR X (I9 .Mod) (l2 X.K rg):=by
 refine OpR.of AT fun v u H Q h => ?_;obtain ⟨x,y,M,rm,rx,ry,q⟩:=h
 cases x <;> cases y <;> first
  | exact q.elim
  | (cases Q5.mp rx;cases Q5.mp ry;exact ⟨_,_,rfl,rfl,q.1,q.2 _ H Ext.refl rm (Q5.mpr rfl)⟩)
theorem wj:OpR X (I9 .Pow) (l2 X.K rh):=by
 refine OpR.of AU fun v u H Q h => ?_;obtain ⟨x,y,M,rm,rx,ry,q⟩:=h
 cases x <;> cases y <;> first
  | exact q.elim
  | (cases Q5.mp rx;cases Q5.mp ry;exact ⟨_,_,rfl,rfl,⟨q.1,q.2.1,q.2.2.1⟩,q.2.2.2 _ H Ext.refl rm (Q5.mpr rfl)⟩)
noncomputable def rj:R1d
 | .int i,M,Q=>Q (.int (-i)) M
 | _,_,_=>False
theorem mY:rc rj:=by
 intro x M Q Q' h q
 cases x <;> first | exact q.elim | exact h _ _ q
theorem UnR.of {f:gV->Sem gV} {r r':V->Hp->VK->Prop} (h:UnR X f r) (i:∀ v H Q,r' v H Q->r v H Q):UnR X f r':=fun pins s σ H x v Q I rx q=>h pins s σ H x v Q I rx (i _ _ _ q)
theorem wk:UnR X (unaryOp .USub) (l1 X.K rj):=by
 refine UnR.of AV fun v H Q h => ?_;obtain ⟨x,M,rm,rx,q⟩:=h
 cases x <;> first
  | exact q.elim
  | (cases Q5.mp rx;exact ⟨_,rfl,q _ H Ext.refl rm (Q5.mpr rfl)⟩)
noncomputable def aH {α β:Type} (f : α -> Option β):List α -> Option (List β)
 | [] => some []
 | x::xs=>(f x).bind fun y=>(aH f xs).map (y :: ·)
noncomputable def rb:Nat->Mem->D->Option HE
 | _,_, .non=>some .none
 | _,_, .bl b=>some (.bool b)
 | _,_, .int i=>some (.int i)
 | _,_, .str x=>if PyData.strOk x=true then some (.str x) else none
 | n+1,M, .tup ds=>(aH (rb n M) ds).map PyData.tuple
 | n+1,M, .con ds=>(aH (rb n M) ds).map IJ
 | n+1,M, .ref a=>match M a with
   | some (.lst ds)=>(aH (rb n M) ds).map IJ
   | _=>none
 | 0,_, .tup _=>none
 | 0,_, .con _=>none
 | 0,_, .ref _=>none
 | _,_, .fn _=>none
theorem cX {n:Nat} {M:Mem} (ih:∀ d p,rb n M d=some p->p.depth<=n/\p.canLay0=true):∀ {ds:List D} {ps:List HE},aH (rb n M) ds=some ps->IW ps<=n/\HN ps=true
 | [],ps,h=>by
  simp [aH] at h;subst h;exact ⟨Ih _,rfl⟩
 | d::ds,ps,h=>by
   simp only [aH] at h
   cases e1:rb n M d with
   | none=>rw [e1] at h;cases h
   | some p =>
     rw [e1] at h
     cases e2:aH (rb n M) ds with
     | none=>simp [e2] at h
     | some qs =>
       simp [e2] at h;subst h;obtain ⟨a1,a2⟩:=ih d p e1;obtain ⟨b1,b2⟩:=cX ih e2;refine ⟨?_, ?_⟩
       ·show max p.depth (IW qs)<=n;lia
       ·show (p.canLay0&&HN qs)=true;rw [a2,b2];rfl
theorem bW {M:Mem}:∀ (n:Nat) (d:D) (p:HE),rb n M d=some p->p.depth<=n/\p.canLay0=true
 | n, .non,p,h=>by simp [rb] at h;subst h;exact ⟨Ih _,rfl⟩
 | n, .bl b,p,h=>by simp [rb] at h;subst h;exact ⟨Ih _,rfl⟩
 | n, .int b,p,h=>by simp [rb] at h;subst h;exact ⟨Ih _,rfl⟩
 | n, .str x,p,h=>by
   simp [rb] at h;obtain ⟨h1,h2⟩:=h;subst h2;exact ⟨Ih _,h1⟩
 | 0, .tup _,p,h=>by simp [rb] at h
 | 0, .con _,p,h=>by simp [rb] at h
 | 0, .ref _,p,h=>by simp [rb] at h
 | n, .fn _,p,h=>by simp [rb] at h
 | n+1, .tup ds,p,h=>by
   simp only [rb] at h
   cases e:aH (rb n M) ds with
   | none=>rw [e] at h;cases h
   | some ps =>
     rw [e] at h;cases h;obtain ⟨a,b⟩:=cX (bW n) e;exact ⟨Mx a,b⟩
 | n+1, .con ds,p,h=>by
   simp only [rb] at h
   cases e:aH (rb n M) ds with
   | none=>rw [e] at h;cases h
   | some ps =>
     rw [e] at h;cases h;obtain ⟨a,b⟩:=cX (bW n) e;exact ⟨Mx a,b⟩
 | n+1, .ref a,p,h=>by
   simp only [rb] at h
   cases e0:M a with
   | none=>rw [e0] at h;cases h
   | some o =>
     rw [e0] at h
     cases o with
     | dct _ _=>cases h
     | fdc _=>cases h
     | lst ds =>
       simp only at h
       cases e:aH (rb n M) ds with
       | none=>rw [e] at h;cases h
       | some ps =>
         rw [e] at h;cases h;obtain ⟨a,b⟩:=cX (bW n) e;exact ⟨Mx a,b⟩
theorem cY {K:Frag} {H:Hp} {n:Nat} {M:Mem} {h:Heap} (ih:∀ d p v u,rb n M d=some p->RD K H d v->RelV v u -> ∃ as,Ki h u p as) :
 ∀ {ds:List D} {ps:List HE} {vs:List V} {us:List gV},aH (rb n M) ds=some ps->RDs K H ds vs->Vals vs us -> ∃ as,Nz h us ps as
 | [],ps,vs,us,hm,r,rv=>by
  simp [aH] at hm;subst hm;rw [RDs.nil_iff.mp r] at rv
  cases rv
  exact ⟨_, .nil⟩
 | d::ds,ps,vs,us,hm,r,rv=>by
   obtain ⟨v,vr,rfl,j,q⟩:=Q8.mp r
   cases rv with
   | cons z B =>
     simp only [aH] at hm
     cases e1:rb n M d with
     | none=>rw [e1] at hm;cases hm
     | some p =>
       rw [e1] at hm
       cases e2:aH (rb n M) ds with
       | none=>simp [e2] at hm
       | some qs =>
         simp [e2] at hm;subst hm;obtain ⟨as,ra⟩:=ih d p v _ e1 j z;obtain ⟨bs,rbs⟩:=cY ih e2 q B;exact ⟨_, .cons ra rbs⟩
theorem bf {pins:List (Addr×Obj)} {σ:St} {H:Hp} {s:h7} {M:Mem} (I:Inv X pins σ H s) (rm:RM X.K M H):∀ (n:Nat) (d:D) (p:HE) (v:V) (u:gV),rb n M d=some p->RD X.K H d v->RelV v u -> ∃ as,Ki s.heap u p as
 | n, .non,p,v,u,h,r,q=>by simp [rb] at h;subst h;cases Qc.mp r;cases q;exact ⟨_, .none⟩
 | n, .bl b,p,v,u,h,r,q=>by simp [rb] at h;subst h;cases Q7.mp r;cases q;exact ⟨_, .bool b⟩
 | n, .int b,p,v,u,h,r,q=>by simp [rb] at h;subst h;cases Q5.mp r;obtain ⟨t,rfl⟩:=q;exact ⟨_, .int b t⟩
 | n, .str x,p,v,u,h,r,q=>by
   simp [rb] at h;obtain ⟨_,h2⟩:=h;subst h2;cases Qe.mp r;obtain ⟨t,rfl⟩:=q;exact ⟨_, .str x t⟩
 | 0, .tup _,p,_,_,h,_,_=>by simp [rb] at h
 | 0, .con _,p,_,_,h,_,_=>by simp [rb] at h
 | 0, .ref _,p,_,_,h,_,_=>by simp [rb] at h
 | n, .fn _,p,_,_,h,_,_=>by simp [rb] at h
 | n+1, .tup ds,p,v,u,h,r,q=>by
   simp only [rb] at h
   cases e:aH (rb n M) ds with
   | none=>rw [e] at h;cases h
   | some ps =>
     rw [e] at h;cases h;obtain ⟨a,vs,rfl,j,rs⟩:=Qb r
     cases q
     obtain ⟨its,rv,⟨o,ho,z,k,hd⟩,_⟩:=I.tuple j;obtain ⟨as,ra⟩:=cY (bf I rm n) e rs rv;exact ⟨_, .tuple ho z hd (by simpa using ra)⟩
 | n+1, .con ds,p,v,u,h,r,q=>by
   simp only [rb] at h
   cases e:aH (rb n M) ds with
   | none=>rw [e] at h;cases h
   | some ps =>
     rw [e] at h;cases h;obtain ⟨a,vs,rfl,j,rs⟩:=Q9.mp r
     cases q
     obtain ⟨its,rv,⟨o,k,ho,z,_,hd⟩,_⟩:=I.list j.sq;obtain ⟨as,ra⟩:=cY (bf I rm n) e rs rv;exact ⟨_, .list ho z hd (by simpa using ra)⟩
 | n+1, .ref a,p,v,u,h,r,q=>by
   simp only [rb] at h
   cases e0:M a with
   | none=>rw [e0] at h;cases h
   | some o =>
     rw [e0] at h
     cases o with
     | dct _ _=>cases h
     | fdc _=>cases h
     | lst ds =>
       simp only at h
       cases e:aH (rb n M) ds with
       | none=>rw [e] at h;cases h
       | some ps =>
         rw [e] at h;cases h
         cases Q6.mp r
         cases q
         obtain ⟨vs,j,rs⟩:=rm _ _ e0;obtain ⟨its,rv,⟨o,k,ho,z,_,hd⟩,_⟩:=I.list (SqL.of j);obtain ⟨as,ra⟩:=cY (bf I rm n) e rs rv;exact ⟨_, .list ho z hd (by simpa using ra)⟩
noncomputable def wEq:R2d:=fun x y M Q => ∃ p q,rb 16 M x=some p/\rb 16 M y=some q/\Q (.bl (GR p q)) M
noncomputable def wNe:R2d:=fun x y M Q => ∃ p q,rb 16 M x=some p/\rb 16 M y=some q/\Q (.bl (!PyData.eqv p q)) M
theorem za:av wEq:=fun _ _ _ _ _ h ⟨p,q,a,b,c⟩=>⟨p,q,a,b,h _ _ c⟩
theorem zb:av wNe:=fun _ _ _ _ _ h ⟨p,q,a,b,c⟩=>⟨p,q,a,b,h _ _ c⟩
theorem zc (F:X.A.units+16 < Ij):OpR X (I7 .Eq) (l2 X.K wEq):=by
 intro pins s σ H x y v u Q I rx ry h;obtain ⟨d,e,M,rm,rd,re,p,q,j,z,k⟩:=h;obtain ⟨as,ra⟩:=bf I rm _ _ _ _ _ j rd rx;obtain ⟨bs,rb'⟩:=bf I rm _ _ _ _ _ z re ry;obtain ⟨G,p2⟩:=bW _ _ _ j;obtain ⟨J,B⟩:=bW _ _ _ z;exact SeqAt.compareEq_reads ra rb' p2 B (by lia) ⟨.bl _,H,I,rfl,k _ H Ext.refl rm (Q7.mpr rfl)⟩
theorem ze (F:X.A.units+16 < Ij):OpR X (I7 .NotEq) (l2 X.K wNe):=by
 intro pins s σ H x y v u Q I rx ry h;obtain ⟨d,e,M,rm,rd,re,p,q,j,z,k⟩:=h;obtain ⟨as,ra⟩:=bf I rm _ _ _ _ _ j rd rx;obtain ⟨bs,rb'⟩:=bf I rm _ _ _ _ _ z re ry;obtain ⟨G,p2⟩:=bW _ _ _ j;obtain ⟨J,B⟩:=bW _ _ _ z;exact SeqAt.compareNe_reads ra rb' p2 B (by lia) ⟨.bl _,H,I,rfl,k _ H Ext.refl rm (Q7.mpr rfl)⟩
noncomputable def wLt:R2d
 | .int i, .int j,M,Q=>Q (.bl (decide (i < j))) M
 | _,_,_,_=>False
noncomputable def wLe:R2d
 | .int i, .int j,M,Q=>Q (.bl (decide (i<=j))) M
 | _,_,_,_=>False
noncomputable def wGt:R2d
 | .int i, .int j,M,Q=>Q (.bl (decide (j < i))) M
 | _,_,_,_=>False
noncomputable def wGe:R2d
 | .int i, .int j,M,Q=>Q (.bl (decide (j<=i))) M
 | _,_,_,_=>False
theorem zf:av wLt:=by
 intro x y M Q Q' h q
 cases x <;> cases y <;> first | exact q.elim | exact h _ _ q
theorem zg:av wGt:=by
 intro x y M Q Q' h q
 cases x <;> cases y <;> first | exact q.elim | exact h _ _ q
theorem zh:av wGe:=by
 intro x y M Q Q' h q
 cases x <;> cases y <;> first | exact q.elim | exact h _ _ q
theorem zi:OpR X (I7 .Lt) (l2 X.K wLt):=by
 refine OpR.of CC fun v u H Q h => ?_;obtain ⟨x,y,M,rm,rx,ry,q⟩:=h
 cases x <;> cases y <;> first
  | exact q.elim
  | (cases Q5.mp rx;cases Q5.mp ry;exact ⟨_,_,rfl,rfl,q _ H Ext.refl rm (Q7.mpr rfl)⟩)
theorem zj:OpR X (I7 .Gt) (l2 X.K wGt):=by
 refine OpR.of CD fun v u H Q h => ?_;obtain ⟨x,y,M,rm,rx,ry,q⟩:=h
 cases x <;> cases y <;> first
  | exact q.elim
  | (cases Q5.mp rx;cases Q5.mp ry;exact ⟨_,_,rfl,rfl,q _ H Ext.refl rm (Q7.mpr rfl)⟩)
theorem zk:OpR X (I7 .GtE) (l2 X.K wGe):=by
 refine OpR.of CF fun v u H Q h => ?_;obtain ⟨x,y,M,rm,rx,ry,q⟩:=h
 cases x <;> cases y <;> first
  | exact q.elim
  | (cases Q5.mp rx;cases Q5.mp ry;exact ⟨_,_,rfl,rfl,q _ H Ext.refl rm (Q7.mpr rfl)⟩)
end
end
section
noncomputable def wIx:R2d:=fun x y M Q=>match x with
 | .tup ds => ∃ i d,y = .int i/\atI ds i=some d/\Q d M
 | .con ds => ∃ i d,y = .int i/\atI ds i=some d/\Q d M
 | .ref a=>(∃ ds i d,M a=some (.lst ds)/\y = .int i/\atI ds i=some d/\Q d M)∨(∃ t kvs d,M a=some (.dct t kvs)/\dN t y=true/\dget kvs y=some d/\Q d M) ∨ ∃ kvs d,M a=some (.fdc kvs)/\dy y=true/\dget kvs y=some d/\Q d M
 | _=>False
theorem pT:av wIx:=by
 intro x y M Q Q' h q
 cases x with
 | tup ds=>obtain ⟨i,d,e,e2,q⟩:=q;exact ⟨i,d,e,e2,h _ _ q⟩
 | con ds=>obtain ⟨i,d,e,e2,q⟩:=q;exact ⟨i,d,e,e2,h _ _ q⟩
 | ref a =>
   rcases q with ⟨ds,i,d,e1,e2,j,q⟩ | ⟨t,kvs,d,e1,e2,j,q⟩ | ⟨kvs,d,e1,e2,j,q⟩
   ·exact .inl ⟨ds,i,d,e1,e2,j,h _ _ q⟩
   ·exact .inr (.inl ⟨t,kvs,d,e1,e2,j,h _ _ q⟩)
   ·exact .inr (.inr ⟨kvs,d,e1,e2,j,h _ _ q⟩)
 | _=>exact q.elim
theorem j5 {K:Frag} {H:Hp} {ds:List D} {vs:List V} {i:Int} {d:D} (r:RDs K H ds vs) (e:atI ds i=some d):∃ v,atI vs i=some v/\RD K H d v:=by
 unfold atI at e ⊢;rw [r.length]
 cases q:ixN ds.length i with
 | none=>rw [q] at e;cases e
 | some j =>
   rw [q] at e;exact r.get e
theorem jV {K:Frag} {H:Hp} {k:D} {q:Key} {v:V} (r:RKey k q) (h:RD K H k v):v=kV q:=by
 cases k <;> first
  | exact r.elim
  | (cases (show q=_ from r);first | exact Q5.mp h | exact Qe.mp h)
theorem ir {K:Frag} {H:Hp}:∀ {ds:List D} {ks:List Key} {vs:List V},HD RKey ds ks->RDs K H ds vs->vs=ks.map kV
 | _,_,vs, .nil,h=>by rw [RDs.nil_iff.mp h];rfl
 | _,_,vs, .cons r t,h=>by
   obtain ⟨v,vr,rfl,h1,h2⟩:=Q8.mp h;rw [jV r h1,ir t h2];rfl
theorem RKey.inj {d e:D} {k:Key} (a:RKey d k) (b:RKey e k):d=e:=by
 cases d <;> first
  | exact a.elim
  | (cases e <;> first | exact b.elim | (cases (show k=_ from a);injection (show _=_ from b) with z;rw [z]) | (cases (show k=_ from a);cases (show _=_ from b)))
theorem RKeysP.inj:∀ {d e:List D} {k:List Key},HD RKey d k->HD RKey e k->d=e
 | _,_,_, .nil, .nil=>rfl
 | _,_,_, .cons r t, .cons r' t'=>by rw [r.inj r',RKeysP.inj t t']
theorem RKeys.inj {d e:D} {k:List Key} (a:RKeys d k) (b:RKeys e k):d=e:=by
 cases d <;> first
  | exact a.elim
  | (cases e <;> first | exact b.elim | exact congrArg D.tup (RKeysP.inj a b))
theorem RKey.fun {d:D} {k k':Key} (a:RKey d k) (b:RKey d k'):k=k':=by
 cases d <;> first
  | exact a.elim
  | (cases (show k=_ from a);cases (show k'=_ from b);rfl)
theorem RKeysP.fun:∀ {d:List D} {k k':List Key},HD RKey d k->HD RKey d k'->k=k'
 | _,_,_, .nil, .nil=>rfl
 | _,_,_, .cons r t, .cons r' t'=>by rw [r.fun r',RKeysP.fun t t']
theorem RKeys.fun {d:D} {k k':List Key} (a:RKeys d k) (b:RKeys d k'):k=k':=by
 cases d <;> first
  | exact a.elim
  | exact RKeysP.fun a b
section
variable {κ:Type} [DecidableEq κ] {K:Frag} {H:Hp} {RK:D -> κ -> Prop} (inj:∀ {d e:D} {k : κ},RK d k->RK e k->d=e) (fn:∀ {d:D} {k k' : κ},RK d k->RK d k'->k=k')
include inj fn
theorem iu {k:D} {q : κ} (j:RK k q):∀ {kvs:List (D×D)} {ps:List (κ × V)},HD (fun p r=>RK p.1 r.1/\RD K H p.2 r.2) kvs ps ->
 (∀ d,dget kvs k=some d -> ∃ v,bA ps q=some v/\RD K H d v)/\(dget kvs k=none->bA ps q=none)
 | _,_, .nil=>⟨fun d e=>by simp [dget] at e,fun _=>rfl⟩
 | _,_, .cons (a:=p) (b:=r) (l₂ := ps) B t=>by
   obtain ⟨F,G⟩:=iu j t
   by_cases e:p.1=k
   ·have e':r.1=q:=by
     have h1:=B.1;rw [e] at h1;exact fn h1 j
    refine ⟨fun d he => ?_,fun he => ?_⟩
    ·simp [dget,HW,e] at he;subst he;exact ⟨r.2,eP e',B.2⟩
    ·simp [dget,HW,e] at he
   ·have e' : ¬ r.1=q:=fun z=>e (by
     have h1:=B.1;rw [z] at h1;exact inj h1 j)
    have eq1:∀ l:List (D×D),dget (p::l) k=dget l k:=fun l=>by simp [dget,HW,e]
    have eq2:bA (r::ps) q=bA ps q:=eQ e';refine ⟨fun d he => ?_,fun he => ?_⟩
    ·rw [eq1] at he;rw [eq2];exact F d he
    ·rw [eq1] at he;rw [eq2];exact G he
end
section
variable {X:Cx}
theorem mZ {K:Frag} {H:Hp} {a:Addr} {ps:List (List Key×V)} {kvs:List (D×D)} {k:D} {v:V} (B:Rd H a (.dT ps)) (pr:HD (fun (p:D×D) (q:List Key×V)=>RKeys p.1 q.1/\RD K H p.2 q.2) kvs ps) (ok:dy k=true) (rk:RD K H k v) :
 ∃ o,DGet H a v o/\(∀ d,dget kvs k=some d -> ∃ w,o=some w/\RD K H d w)/\(dget kvs k=none->o=none):=by
 obtain ⟨q,j⟩:=pR ok;obtain ⟨g1,g2⟩:=iu (RK:=RKeys) RKeys.inj RKeys.fun j pr;refine ⟨bA ps q, ?_,g1,g2⟩
 cases k <;> first
  | exact j.elim
  | (obtain ⟨b,us,rfl,z,ru⟩:=Qp (pS ok) rk
     rw [ir j ru] at z;exact .inr ⟨ps,q,b,B,rfl,z,rfl⟩)
theorem jW {K:Frag} {M:Mem} {H:Hp} {a:Addr} {t:Bool} {kvs:List (D×D)} {k:D} {v:V} (rm:RM K M H) (e:M a=some (.dct t kvs)) (ok:dN t k=true) (rk:RD K H k v) :
 ∃ o,DGet H a v o/\(∀ d,dget kvs k=some d -> ∃ w,o=some w/\RD K H d w)/\(dget kvs k=none->o=none):=by
 have ro:=rm a _ e
 cases t with
 | false =>
   obtain ⟨ps,j,pr⟩:=ro;obtain ⟨q,z⟩:=mP (show eR k=true from ok);obtain ⟨g1,g2⟩:=iu (RK:=RKey) RKey.inj RKey.fun z pr;refine ⟨bA ps q, ?_,g1,g2⟩;rw [jV z rk];exact DGet.k j
 | true =>
   obtain ⟨ps,j,pr⟩:=ro;exact mZ (.inl j) pr ok rk
theorem zm (j:X.A.units+1 < Ij):IxR X (fun x y H Q => ∃ a v,x = .ref a/\DGet H a y (some v)/\Q v H):=by
 intro value slice pins s σ H x y v u Q I rx ry h hs;obtain ⟨a,w,rfl,g,q⟩:=h
 cases rx
 have hd:IsD H a:=by
  rcases g with ⟨kvs,k,e,_⟩ | ⟨kvs,k,b,e,_⟩
  ·exact .inl ⟨kvs,e⟩
  ·exact .inr ⟨kvs,e⟩
 obtain ⟨z,_⟩:=iW I hd;exact tail_any z PySem.F.slot_dict_getitem.lookup (tq j I g ry fun w' s' I' r'=>⟨w,H,I',r',q⟩) hs
theorem DT (B:X.A.units+1 < Ij):IxR X (l2 X.K wIx):=by
 refine IxR.of (ix_list.or (ix_tup.or (zm B))) fun v u H Q h => ?_;obtain ⟨x,y,M,rm,rx,ry,q⟩:=h
 cases x with
 | tup ds =>
   obtain ⟨i,d,rfl,e,q⟩:=q;obtain ⟨a,vs,rfl,j,rs⟩:=Qb rx
   cases Q5.mp ry
   obtain ⟨w,hw,rw'⟩:=j5 rs e;exact .inr (.inl ⟨a,vs,i,w,rfl,rfl,j,hw,q w H Ext.refl rm rw'⟩)
 | con ds =>
   obtain ⟨i,d,rfl,e,q⟩:=q;obtain ⟨a,vs,rfl,j,rs⟩:=Q9.mp rx
   cases Q5.mp ry
   obtain ⟨w,hw,rw'⟩:=j5 rs e;exact .inl ⟨a,vs,i,w,rfl,rfl,j.sq,hw,q w H Ext.refl rm rw'⟩
 | ref a =>
   cases Q6.mp rx
   rcases q with ⟨ds,i,d,e1,rfl,z,q⟩ | ⟨t,kvs,d,e1,e2,z,q⟩ | ⟨kvs,d,e1,e2,z,q⟩
   ·cases Q5.mp ry
    obtain ⟨vs,j,rs⟩:=rm _ _ e1;obtain ⟨w,hw,rw'⟩:=j5 rs z;exact .inl ⟨a,vs,i,w,rfl,rfl,SqL.of j,hw,q w H Ext.refl rm rw'⟩
   ·obtain ⟨o,g,g1,_⟩:=jW rm e1 e2 ry;obtain ⟨w,rfl,rw'⟩:=g1 d z;exact .inr (.inr ⟨a,w,rfl,g,q w H Ext.refl rm rw'⟩)
   ·obtain ⟨ob,ps,F,pr⟩:=rm _ _ e1;obtain ⟨o,g,g1,_⟩:=mZ (.inr ⟨ob,F⟩) pr e2 ry;obtain ⟨w,rfl,rw'⟩:=g1 d z;exact .inr (.inr ⟨a,w,rfl,g,q w H Ext.refl rm rw'⟩)
 | _=>exact q.elim
noncomputable def n0 (M:Mem):D->Option Nat
 | .tup ds=>some ds.length
 | .con ds=>some ds.length
 | .ref a=>match M a with
  | some (.lst ds)=>some ds.length
  | _=>none
 | _=>none
noncomputable def fJ:RAd:=fun xs M Q => ∃ x n,xs=[x]/\n0 M x=some n/\Q (.int n) M
theorem n4:b4 fJ:=fun _ _ _ _ h ⟨x,n,e,l,q⟩=>⟨x,n,e,l,h _ _ q⟩
theorem RDs.one {K:Frag} {H:Hp} {d:D} {vs:List V} (h:RDs K H [d] vs):∃ v,vs=[v]/\RD K H d v:=by
 obtain ⟨v,r,rfl,h1,h2⟩:=Q8.mp h;rw [RDs.nil_iff.mp h2];exact ⟨v,rfl,h1⟩
theorem RDs.two {K:Frag} {H:Hp} {d e:D} {vs:List V} (h:RDs K H [d,e] vs):∃ v u,vs=[v,u]/\RD K H d v/\RD K H e u:=by
 obtain ⟨v,r,rfl,h1,h2⟩:=Q8.mp h;obtain ⟨u,rfl,j⟩:=RDs.one h2;exact ⟨v,u,rfl,h1,j⟩
theorem rl:CallR X (.builtin "len") (lR X.K fJ):=by
 refine CallR.of vL fun vs H Q h => ?_;obtain ⟨ds,M,rm,rs,x,n,rfl,l,q⟩:=h;obtain ⟨v,rfl,r⟩:=rs.one;refine ⟨v,n,rfl, ?_,q _ H Ext.refl rm (Q5.mpr rfl)⟩
 cases x with
 | tup ds =>
   cases l
   obtain ⟨a,us,rfl,j,ru⟩:=Qb r;exact .inr ⟨us,j,ru.length.symm⟩
 | con ds =>
   cases l
   obtain ⟨a,us,rfl,j,ru⟩:=Q9.mp r;exact .inl ⟨us,j.sq,ru.length.symm⟩
 | ref a =>
   cases Q6.mp r
   simp only [n0] at l
   cases e:M a with
   | none=>rw [e] at l;cases l
   | some o =>
     rw [e] at l
     cases o with
     | dct _ _=>cases l
     | fdc _=>cases l
     | lst ds =>
       cases l
       obtain ⟨us,j,ru⟩:=rm _ _ e;exact .inl ⟨us,SqL.of j,ru.length.symm⟩
 | _=>cases l
noncomputable def n6:RAd:=fun xs M Q => ∃ i,xs=[.int i]/\Q (.int (if i < 0 then -i else i)) M
noncomputable def m8:RAd:=fun xs M Q => ∃ i j,xs=[.int i, .int j]/\Q (.int (if j < i then j else i)) M
noncomputable def n8:RAd:=fun xs M Q=>(∃ i,xs=[.int i]/\Q (.int i) M) ∨ ∃ k,xs=[.bl k]/\Q (.int (if k then 1 else 0)) M
theorem n9:b4 n6:=fun _ _ _ _ h ⟨i,e,q⟩=>⟨i,e,h _ _ q⟩
theorem kQ:b4 m8:=fun _ _ _ _ h ⟨i,j,e,q⟩=>⟨i,j,e,h _ _ q⟩
theorem nc:b4 n8:=fun _ _ _ _ h q=>q.elim (fun ⟨i,e,q⟩ => .inl ⟨i,e,h _ _ q⟩) fun ⟨i,e,q⟩ => .inr ⟨i,e,h _ _ q⟩
theorem rn:CallR X (.builtin "abs") (lR X.K n6):=by
 refine CallR.of vK fun vs H Q h => ?_;obtain ⟨ds,M,rm,rs,i,rfl,q⟩:=h;obtain ⟨v,rfl,r⟩:=rs.one
 cases Q5.mp r
 exact ⟨i,rfl,q _ H Ext.refl rm (Q5.mpr rfl)⟩
theorem pq (z:X.calm=true):CallR X (.builtin "min") (lR X.K m8):=by
 refine CallR.of (sW z) fun vs H Q h => ?_;obtain ⟨ds,M,rm,rs,i,j,rfl,q⟩:=h;obtain ⟨v,u,rfl,B,F⟩:=rs.two
 cases Q5.mp B
 cases Q5.mp F
 exact ⟨i,j,rfl,q _ H Ext.refl rm (Q5.mpr rfl)⟩
theorem rp:CallR X (.type "int") (lR X.K n8):=by
 refine CallR.of sX fun vs H Q h => ?_;obtain ⟨ds,M,rm,rs,⟨i,rfl,q⟩ | ⟨i,rfl,q⟩⟩:=h
 ·obtain ⟨v,rfl,r⟩:=rs.one
  cases Q5.mp r
  exact .inl ⟨i,rfl,q _ H Ext.refl rm (Q5.mpr rfl)⟩
 ·obtain ⟨v,rfl,r⟩:=rs.one
  cases Q7.mp r
  exact .inr ⟨i,rfl,q _ H Ext.refl rm (Q5.mpr rfl)⟩
noncomputable def aq (M:Mem):D->Option (List D)
 | .tup ds=>some ds
 | .con ds=>some ds
 | .ref a=>match M a with
  | some (.lst ds)=>some ds
  | _=>none
 | _=>none
theorem j6 {K:Frag} {M:Mem} {H:Hp} {x:D} {ds:List D} {v:V} (rm:RM K M H) (r:RD K H x v) (e:aq M x=some ds):∃ p vs,v = .ref p/\(SqL K H p vs∨SqT K H p vs)/\RDs K H ds vs:=by
 cases x with
 | tup es =>
   cases e
   obtain ⟨a,us,rfl,j,ru⟩:=Qb r;exact ⟨a,us,rfl, .inr j,ru⟩
 | con es =>
   cases e
   obtain ⟨a,us,rfl,j,ru⟩:=Q9.mp r;exact ⟨a,us,rfl, .inl j.sq,ru⟩
 | ref a =>
   cases Q6.mp r
   simp only [aq] at e
   cases e0:M a with
   | none=>rw [e0] at e;cases e
   | some o =>
     rw [e0] at e
     cases o with
     | dct _ _=>cases e
     | fdc _=>cases e
     | lst es =>
       cases e
       obtain ⟨us,j,ru⟩:=rm _ _ e0;exact ⟨a,us,rfl, .inl (SqL.of j),ru⟩
 | _=>cases e
noncomputable def ng:RAd:=fun xs M Q => ∃ x ds,xs=[x]/\aq M x=some ds/\Q (.tup ds) M
theorem j7:b4 ng:=fun _ _ _ _ h ⟨x,ds,e,l,q⟩=>⟨x,ds,e,l,h _ _ q⟩
theorem nh:CallR X (.type "tuple") (lR X.K ng):=by
 refine CallR.of lU fun vs H Q h => ?_;obtain ⟨ds,M,rm,rs,x,es,rfl,l,q⟩:=h;obtain ⟨v,rfl,r⟩:=rs.one
 cases x with
 | tup ds' =>
   cases l
   obtain ⟨a,us,rfl,j,ru⟩:=Qb r;exact ⟨a,us,rfl, .inr ⟨j,q _ H Ext.refl rm r⟩⟩
 | con ds' =>
   cases l
   obtain ⟨a,us,rfl,j,ru⟩:=Q9.mp r;exact ⟨a,us,rfl, .inl ⟨j.sq,fun l' n=>dg rm ru q n⟩⟩
 | ref a =>
   cases Q6.mp r
   simp only [aq] at l
   cases e0:M a with
   | none=>rw [e0] at l;cases l
   | some o =>
     rw [e0] at l
     cases o with
     | dct _ _=>cases l
     | fdc _=>cases l
     | lst es' =>
       cases l
       obtain ⟨us,j,ru⟩:=rm _ _ e0;exact ⟨a,us,rfl, .inl ⟨SqL.of j,fun l' n=>dg rm ru q n⟩⟩
 | _=>cases l
end
end
section
section
variable {X:Cx}
noncomputable def rq:RAd:=fun xs M Q => ∃ (x:D) (ns:List Int),xs=[x]/\aq M x=some (ns.map D.int)/\Q (.int ns.sum) M
theorem ni:b4 rq:=fun _ _ _ _ h ⟨x,ds,e,l,q⟩=>⟨x,ds,e,l,h _ _ q⟩
theorem RDs.ints_eq {K:Frag} {H:Hp}:∀ {ns:List Int} {vs:List V},RDs K H (ns.map D.int) vs->vs=ns.map V.int
 | [],_,h=>RDs.nil_iff.mp h
 | n::ns,_,h=>by
   obtain ⟨v,r,rfl,h1,h2⟩:=Q8.mp h;rw [Q5.mp h1,RDs.ints_eq h2];rfl
theorem nj {pins:List (Addr×Obj)} {σ:St} {H:Hp} {s:h7} {Q:VK} {p:Addr} {ns:List Int} {its:List gV} (I:Inv X pins σ H s) (L:X.calm=true) (rv:Vals (ns.map V.int) its) (q:Q (.int ns.sum) H)
 (h:∀ (R:gV->h7->Prop),(∀ I' St fp,(∀ b∈fp,b < (s.heap.push I').objs.size)->St 0 (s.heap.push I')->Walks X.prog X.w X.A.in1 s.heap.objs.size fp [s.heap.objs.size] its.toArray.size (fun i v=>its.toArray[i]? = some v) St->R (.ref s.heap.objs.size) { s with heap:=s.heap.push I' })->Gm (model X.prog X.w) X.A.in1 (Nm (.ref p)) R X.xe s) :
 Gm (model X.prog X.w) X.A (call (.builtin "sum") [.ref p]) (EP X pins σ Q) X.xe s:=by
 refine call_sum_walkG (h _ fun ob St fp z st W=>⟨_,fp,_,_,_,St,fun i=>ns.getD i 0,rfl,W,st,z,fun i v F => ?_,fun h' tk t' G => ?_⟩)
 ·have j:its[i]? = some v:=by simpa using F
  have J:=rv.length;rw [r3] at J;have hi:i < its.length:=(GB.mp j).1;have e1:(ns.map V.int)[i]? = some (.int (ns.getD i 0)):=by
   rw [GH,tv (by lia)]
   simp [GG,tv (show i < ns.length by lia)]
  obtain ⟨u,B,t,rfl⟩:=rv.get e1;rw [j] at B;cases B;exact ⟨t,rfl⟩
 ·have e:preSum (fun i=>ns.getD i 0) its.toArray.size=ns.sum:=by
   rw [preSum_getD,Gf, <- rv.length,r3,List.take_length]
  rw [e];refine ⟨.int ns.sum,H,I.kept (h':=h') (t':=tk) fun b o eb => ?_,⟨t',rfl⟩,q⟩;exact G b o (by simp;exact GW (Ga eb)) (h6 _ eb)
theorem rA (B:X.calm=true):CallR X (.builtin "sum") (lR X.K rq):=by
 intro pins s σ H xs us Q I rv h;obtain ⟨ds,M,rm,rs,x,ns,rfl,l,q⟩:=h;obtain ⟨v,rfl,r⟩:=rs.one;obtain ⟨u,rfl,ru⟩:=dM rv;obtain ⟨p,vs,rfl,sq,L⟩:=j6 rm r l
 cases ru
 have e:=RDs.ints_eq L;subst e;have fin:=q (.int ns.sum) H Ext.refl rm (Q5.mpr rfl)
 rcases sq with sq | sq
 ·obtain ⟨its,rv,pl,O⟩:=I.list sq;have F:p≠s.heap.objs.size:=by
   obtain ⟨o,n,e,_⟩:=pl;exact GW (Ga e)
  refine nj I B rv fin fun R G=>Jm pl.isList ?_;refine G _ _ [s.heap.objs.size,p] (fun b J => ?_) ⟨⟨_,Gh _ rfl,rfl,rfl⟩,pl.isList.at fun o e=>h6 _ e⟩ (Walks.list (by rw [Oi];exact I.ok.hd B) s.heap.objs.size p F its.toArray)
  rw [HQ]
  rcases Gj.mp J with z | z
  ·lia
  ·have z':b=p:=by simpa using z
   subst z';obtain ⟨o,n,e,_⟩:=pl;exact Mh (Ga e)
 ·obtain ⟨its,rv,pl,O⟩:=I.tuple sq;have j:p < s.heap.objs.size:=by
   obtain ⟨o,e,_⟩:=pl;exact Ga e
  refine nj I B rv fin fun R G=>Ie (show s.heap.IsTuple p its.toArray from pl) ?_;refine G _ _ [s.heap.objs.size,p] (fun b J => ?_) ⟨⟨_,Gh _ rfl,rfl,rfl⟩, ?_⟩ (Walks.tuple (by rw [Oi];exact I.ok.hd B) s.heap.objs.size p (GW j) its.toArray)
  ·rw [HQ]
   rcases Gj.mp J with z | z
   ·lia
   ·have z':b=p:=by simpa using z
    rw [z'];exact Mh j
  ·obtain ⟨o,e,c,n,d⟩:=pl;exact ⟨o,h6 _ e,c,n,d⟩
noncomputable def wl (M:Mem):D->Option Bool
 | .non=>some false
 | .bl b=>some b
 | .int i=>some (i != 0)
 | .tup ds=>some (!ds.isEmpty)
 | .con ds=>some (!ds.isEmpty)
 | .ref a=>match M a with
  | some (.lst ds)=>some (!ds.isEmpty)
  | _=>none
 | _=>none
noncomputable def nn (t:TEd):TTd:=fun ρ M Q=>t ρ M fun x M1 => ∃ b,wl M1 x=some b/\Q b M1
theorem wm {t:TEd} (h:ad t):aC (nn t):=fun ρ M Q Q' i q=>h _ _ _ _ (fun x z ⟨k,e,j⟩=>⟨k,e,i _ _ j⟩) q
theorem Bl {K:Frag} {M:Mem} {H:Hp} {x:D} {b:Bool} {v:V} (rm:RM K M H) (r:RD K H x v) (e:wl M x=some b):vI K v H b:=by
 have emp:∀ {ds:List D} {vs:List V},RDs K H ds vs->(!ds.isEmpty) = !vs.isEmpty:=fun {ds vs} h=>by
  have l:=h.length
  cases ds <;> cases vs <;> first | rfl | (simp at l)
 cases x with
 | non=>cases e;cases Qc.mp r;rfl
 | bl k=>cases e;cases Q7.mp r;rfl
 | int i=>cases e;cases Q5.mp r;rfl
 | tup ds =>
   cases e
   obtain ⟨a,vs,rfl,j,rs⟩:=Qb r;exact .inr (.inl ⟨vs,j,emp rs⟩)
 | con ds =>
   cases e
   obtain ⟨a,vs,rfl,j,rs⟩:=Q9.mp r;exact .inl ⟨vs,j.sq,emp rs⟩
 | ref a =>
   cases Q6.mp r
   simp only [wl] at e
   cases e0:M a with
   | none=>rw [e0] at e;cases e
   | some o =>
     rw [e0] at e
     cases o with
     | dct _ _=>cases e
     | fdc _=>cases e
     | lst ds =>
       cases e
       obtain ⟨vs,j,rs⟩:=rm _ _ e0;exact .inl ⟨vs,SqL.of j,emp rs⟩
 | str _=>cases e
 | fn _=>cases e
variable {a b:Expr} {ta tb:TEd} {pos:Pos}
theorem Bm (m:ad ta) (B:PE X a (lE X.K ta)) (he:∀ whole,isTrue a X.env whole=(do let v <- whole;Md a.pos;holding [v] (truthy v))):PT X a (lT X.K (nn ta)):=by
 refine PT.imp (vJ B he) fun σ H Q h => ?_;obtain ⟨ρ,M,rs,rm,q⟩:=h;exact ⟨ρ,M,rs,rm,m _ _ _ _ (fun x G ⟨k,e,F⟩ v H1 x1 j z=>⟨k,Bl j z e,F H1 x1 j⟩) q⟩
noncomputable def j8 (t:TTd):TTd:=fun ρ M Q=>t ρ M fun c M1=>Q (!c) M1
theorem tJ {t:TTd} (h:aC t):aC (j8 t):=fun ρ M Q Q' i q=>h _ _ _ _ (fun c z j=>i _ _ j) q
theorem Bn {tA:TTd} (m:aC tA) (j:PT X a (lT X.K tA)):PT X (.UnaryOp .Not a pos) (lT X.K (j8 tA)):=by
 refine PT.imp (AB j) fun σ H Q h => ?_;obtain ⟨ρ,M,rs,rm,q⟩:=h;exact ⟨ρ,M,rs,rm,m _ _ _ _ (fun c B z=>z) q⟩
noncomputable def j9 (t u:TTd):TTd:=fun ρ M Q=>t ρ M fun c M1=>if c=true then u ρ M1 Q else Q false M1
noncomputable def no (t u:TTd):TTd:=fun ρ M Q=>t ρ M fun c M1=>if c=true then Q true M1 else u ρ M1 Q
theorem tK {t u:TTd} (h:aC t) (k:aC u):aC (j9 t u):=fun ρ M Q Q' i q=>h _ _ _ _ (fun c z j=>by
 cases c with
 | true=>rw [if_pos rfl] at j ⊢;exact k _ _ _ _ i j
 | false=>rw [if_neg Gb] at j ⊢;exact i _ _ j) q
theorem wn {t u:TTd} (h:aC t) (k:aC u):aC (no t u):=fun ρ M Q Q' i q=>h _ _ _ _ (fun c z j=>by
 cases c with
 | true=>rw [if_pos rfl] at j ⊢;exact i _ _ j
 | false=>rw [if_neg Gb] at j ⊢;exact k _ _ _ _ i j) q
theorem zn {tA:TTd} (j:PT X a (lT X.K tA)):PW X (.BoolOp .And [a] pos) (lT X.K tA):=yF j
theorem Bo {tA:TTd} (j:PT X a (lT X.K tA)):PW X (.BoolOp .Or [a] pos) (lT X.K tA):=Az j
theorem Bp {tA tB:TTd} {rest:List Expr} (mA:aC tA) (mB:aC tB) (B:PT X a (lT X.K tA)) (F:PW X (.BoolOp .And (b::rest) pos) (lT X.K tB)):PW X (.BoolOp .And (a::b::rest) pos) (lT X.K (j9 tA tB)):=by
 refine PW.imp (AA B F) fun σ H Q h => ?_;obtain ⟨ρ,M,rs,rm,q⟩:=h;refine ⟨ρ,M,rs,rm,mA _ _ _ _ (fun c G z H1 x1 j => ?_) q⟩
 cases c with
 | true=>rw [if_pos rfl] at z ⊢;exact ⟨ρ,G,rs.mono (x1.stab rm),j,mB _ _ _ _ (fun d M2 k=>k.ext x1) z⟩
 | false=>rw [if_neg Gb] at z ⊢;exact z H1 x1 j
theorem CW {tA tB:TTd} {rest:List Expr} (mA:aC tA) (mB:aC tB) (B:PT X a (lT X.K tA)) (F:PW X (.BoolOp .Or (b::rest) pos) (lT X.K tB)):PW X (.BoolOp .Or (a::b::rest) pos) (lT X.K (no tA tB)):=by
 refine PW.imp (Cp B F) fun σ H Q h => ?_;obtain ⟨ρ,M,rs,rm,q⟩:=h;refine ⟨ρ,M,rs,rm,mA _ _ _ _ (fun c G z H1 x1 j => ?_) q⟩
 cases c with
 | true=>rw [if_pos rfl] at z ⊢;exact z H1 x1 j
 | false=>rw [if_neg Gb] at z ⊢;exact ⟨ρ,G,rs.mono (x1.stab rm),j,mB _ _ _ _ (fun d M2 k=>k.ext x1) z⟩
noncomputable def ja (ta tb:TEd):TEd:=fun ρ M Q=>ta ρ M fun x M1 => ∃ c,x = .bl c/\if c=true then tb ρ M1 Q else Q (.bl false) M1
noncomputable def nt (ta tb:TEd):TEd:=fun ρ M Q=>ta ρ M fun x M1 => ∃ c,x = .bl c/\if c=true then Q (.bl true) M1 else tb ρ M1 Q
noncomputable def jb (ta:TEd):TEd:=fun ρ M Q=>ta ρ M fun x M1 => ∃ c,x = .bl c/\Q (.bl (!c)) M1
theorem tL (h:ad ta) (k:ad tb):ad (ja ta tb):=fun ρ M Q Q' i q=>h _ _ _ _ (fun x z ⟨c,e,j⟩=>⟨c,e,by
 cases c with
 | true=>rw [if_pos rfl] at j ⊢;exact k _ _ _ _ i j
 | false=>rw [if_neg Gb] at j ⊢;exact i _ _ j⟩) q
theorem wo (h:ad ta) (k:ad tb):ad (nt ta tb):=fun ρ M Q Q' i q=>h _ _ _ _ (fun x z ⟨c,e,j⟩=>⟨c,e,by
 cases c with
 | true=>rw [if_pos rfl] at j ⊢;exact i _ _ j
 | false=>rw [if_neg Gb] at j ⊢;exact k _ _ _ _ i j⟩) q
theorem tM (h:ad ta):ad (jb ta):=fun ρ M Q Q' i q=>h _ _ _ _ (fun x z ⟨c,e,j⟩=>⟨c,e,i _ _ j⟩) q
theorem tN {op:BoolOp} {t:TEd} (h:PE X a (lE X.K t)):PE X (.BoolOp op [a] pos) (lE X.K t):=AC h
theorem Bq {rest:List Expr} (ma:ad ta) (mb:ad tb) (F:PE X a (lE X.K ta)) (G:PE X (.BoolOp .And (b::rest) pos) (lE X.K tb)):PE X (.BoolOp .And (a::b::rest) pos) (lE X.K (ja ta tb)):=by
 refine PE.imp (AD F G) fun σ H Q h => ?_;obtain ⟨ρ,M,rs,rm,q⟩:=h;refine ⟨ρ,M,rs,rm,ma _ _ _ _ (fun x J ⟨c,e,z⟩ v H1 x1 j B => ?_) q⟩;subst e;refine ⟨c,Q7.mp B, ?_⟩
 cases c with
 | true=>rw [if_pos rfl] at z ⊢;exact ⟨ρ,J,rs.mono (x1.stab rm),j,mb _ _ _ _ (fun d M2 k=>k.ext x1) z⟩
 | false=>rw [if_neg Gb] at z ⊢;exact z _ H1 x1 j (Q7.mpr rfl)
theorem CY {rest:List Expr} (ma:ad ta) (mb:ad tb) (F:PE X a (lE X.K ta)) (G:PE X (.BoolOp .Or (b::rest) pos) (lE X.K tb)):PE X (.BoolOp .Or (a::b::rest) pos) (lE X.K (nt ta tb)):=by
 refine PE.imp (Ct F G) fun σ H Q h => ?_;obtain ⟨ρ,M,rs,rm,q⟩:=h;refine ⟨ρ,M,rs,rm,ma _ _ _ _ (fun x J ⟨c,e,z⟩ v H1 x1 j B => ?_) q⟩;subst e;refine ⟨c,Q7.mp B, ?_⟩
 cases c with
 | true=>rw [if_pos rfl] at z ⊢;exact z _ H1 x1 j (Q7.mpr rfl)
 | false=>rw [if_neg Gb] at z ⊢;exact ⟨ρ,J,rs.mono (x1.stab rm),j,mb _ _ _ _ (fun d M2 k=>k.ext x1) z⟩
theorem Br (ma:ad ta) (B:PE X a (lE X.K ta)):PE X (.UnaryOp .Not a pos) (lE X.K (jb ta)):=by
 refine PE.imp (AE B) fun σ H Q h => ?_;obtain ⟨ρ,M,rs,rm,q⟩:=h;refine ⟨ρ,M,rs,rm,ma _ _ _ _ (fun x G ⟨c,e,F⟩ v H1 x1 j z => ?_) q⟩;subst e;exact ⟨c,Q7.mp z,F _ H1 x1 j (Q7.mpr rfl)⟩
noncomputable def wIf (t:TTd) (ta tb:TEd):TEd:=fun ρ M Q=>t ρ M fun c M1=>if c=true then ta ρ M1 Q else tb ρ M1 Q
theorem zo {t:TTd} (h:aC t) (z:ad ta) (B:ad tb):ad (wIf t ta tb):=fun ρ M Q Q' i q=>h _ _ _ _ (fun c F j=>by
 cases c with
 | true=>rw [if_pos rfl] at j ⊢;exact z _ _ _ _ i j
 | false=>rw [if_neg Gb] at j ⊢;exact B _ _ _ _ i j) q
theorem CZ {c:Expr} {t:TTd} (mt:aC t) (ma:ad ta) (mb:ad tb) (F:PT X c (lT X.K t)) (G:PE X a (lE X.K ta)) (J:PE X b (lE X.K tb)):PE X (.IfExp c a b pos) (lE X.K (wIf t ta tb)):=by
 refine PE.imp (vB F G J) fun σ H Q h => ?_;obtain ⟨ρ,M,rs,rm,q⟩:=h;refine ⟨ρ,M,rs,rm,mt _ _ _ _ (fun x B z H1 x1 j => ?_) q⟩
 cases x with
 | true=>rw [if_pos rfl] at z ⊢;exact ⟨ρ,B,rs.mono (x1.stab rm),j,ma _ _ _ _ (fun d M2 k=>k.ext x1) z⟩
 | false=>rw [if_neg Gb] at z ⊢;exact ⟨ρ,B,rs.mono (x1.stab rm),j,mb _ _ _ _ (fun d M2 k=>k.ext x1) z⟩
noncomputable def cP (xs:List D) (lo hi:Option Int):List D:=(xs.drop (HT.sIx xs.length 0 lo)).take (HT.sIx xs.length xs.length hi - HT.sIx xs.length 0 lo)
theorem nu {K:Frag} {H:Hp} {ds:List D} {vs:List V} (r:RDs K H ds vs) (lo hi:Option Int):RDs K H (cP ds lo hi) (fE vs lo hi):=by
 unfold cP fE;rw [r.length];exact (r.drop _).take _
noncomputable abbrev TOd:=al->Mem->(Option Int->Mem->Prop)->Prop
def eS (T:TOd):Prop := ∀ ρ M Q Q',(∀ d M',Q d M'->Q' d M')->T ρ M Q->T ρ M Q'
noncomputable def eD:TOd:=fun _ M Q=>Q none M
noncomputable def jc (t:TEd):TOd:=fun ρ M Q=>t ρ M fun x M1 => ∃ i,x = .int i/\Q (some i) M1
theorem pA:eS eD:=fun _ _ _ _ h q=>h _ _ q
theorem tO (h:ad ta):eS (jc ta):=fun ρ M Q Q' i q=>h _ _ _ _ (fun x z ⟨c,e,j⟩=>⟨c,e,i _ _ j⟩) q
noncomputable def lO (K:Frag) (T:TOd):TO:=fun σ H Q => ∃ ρ M,RS K H σ ρ /\ RM K M H/\T ρ M (fun o M' => ∀ H',Ext M H M' H'->RM K M' H'->Q o H')
theorem zp:PO X none (lO X.K eD):=fun pins s σ H Q I h=>by
 obtain ⟨ρ,M,rs,rm,q⟩:=h;exact yS pins s σ H Q I (q H Ext.refl rm)
theorem zq {e:Expr} (m:ad ta) (h:PE X e (lE X.K ta)):PO X (some e) (lO X.K (jc ta)):=fun pins s σ H Q I hq=>by
 obtain ⟨ρ,M,rs,rm,q⟩:=hq;refine yT h pins s σ H Q I ⟨ρ,M,rs,rm,m _ _ _ _ (fun x F ⟨i,e,B⟩ v H1 x1 j z => ?_) q⟩;subst e;exact ⟨i,Q5.mp z,B H1 x1 j⟩
noncomputable def eE:D->Option Int->Option Int->Mem->QD->Prop:=fun x lo hi M Q=>match x with
 | .tup ds=>Q (.tup (cP ds lo hi)) M
 | .ref a => ∃ ds,M a=some (.lst ds) /\ ∀ p,M p=none->Q (.ref p) (af M p (.lst (cP ds lo hi)))
 | .con ds => ∀ p,M p=none->Q (.ref p) (af M p (.lst (cP ds lo hi)))
 | _=>False
noncomputable def wSl (te:TEd) (tl th:TOd):TEd:=fun ρ M Q=>te ρ M fun x M1=>tl ρ M1 fun l M2=>th ρ M2 fun u M3=>eE x l u M3 Q
theorem rB {x:D} {lo hi:Option Int} {M:Mem} {Q Q':QD} (h:∀ d M',Q d M'->Q' d M') (q:eE x lo hi M Q):eE x lo hi M Q':=by
 cases x with
 | tup ds=>exact h _ _ q
 | ref a=>obtain ⟨ds,e,q⟩:=q;exact ⟨ds,e,fun p n=>h _ _ (q p n)⟩
 | con ds=>exact fun p n=>h _ _ (q p n)
 | _=>exact q.elim
theorem zr {tl th:TOd} (m:ad ta) (ml:eS tl) (mh:eS th):ad (wSl ta tl th):=fun ρ M Q Q' i q =>
 m _ _ _ _ (fun x F j=>ml _ _ _ _ (fun l M2 z=>mh _ _ _ _ (fun u G B=>rB i B) z) j) q
theorem D3 {e:Expr} {lo hi:Option Expr} {tl th:TOd} {p2:Pos} (m:ad ta) (ml:eS tl) (mh:eS th) (he:PE X e (lE X.K ta)) (U:PO X lo (lO X.K tl)) (Y:PO X hi (lO X.K th)) :
 PE X (.Subscript e (.Slice lo hi none p2) pos) (lE X.K (wSl ta tl th)):=by
 refine PE.imp (vO (sl_tup.or (sl_list.or vR)) he U Y) fun σ H Q h => ?_;obtain ⟨ρ,M,rs,rm,q⟩:=h;refine ⟨ρ,M,rs,rm,m _ _ _ _ (fun x Z q1 v H1 x1 G O => ?_) q⟩;refine ⟨ρ,Z,rs.mono (x1.stab rm),G,ml _ _ _ _ (fun l M2 q2 H2 x2 L => ?_) q1⟩;refine ⟨ρ,M2,(rs.mono (x1.stab rm)).mono (x2.stab G),L,mh _ _ _ _ (fun u M3 z H3 x3 j => ?_) q2⟩;have B:=x1.trans (x2.trans x3);have F:=(O.mono (x2.stab G)).mono (x3.stab L)
 cases x with
 | tup ds =>
   obtain ⟨a,vs,rfl,J,r⟩:=Qb F
   by_cases hw:HT.sIx vs.length 0 l=0/\HT.sIx vs.length vs.length u=vs.length
   ·refine .inr (.inr ⟨a,vs,rfl,J,hw, ?_⟩);have e:cP ds l u=ds:=by
     unfold cP;rw [<- r.length,hw.1,hw.2,r.length];simp
    simp only [eE] at z;rw [e] at z;exact z.ext B _ H3 Ext.refl j F
   ·simp only [eE] at z;exact .inl ⟨a,vs,rfl,J,hw,fun p n=>dg j (nu r l u) (z.ext B) n⟩
 | ref a =>
   cases Q6.mp F
   obtain ⟨ds,e,z⟩:=z;obtain ⟨vs,J,r⟩:=j _ _ e;exact .inr (.inl ⟨a,vs,rfl,SqL.of J,fun p n=>cm j (nu r l u) (fun p' n'=>(z p' n').ext B) n⟩)
 | con ds =>
   obtain ⟨a,vs,rfl,J,r⟩:=Q9.mp F;exact .inr (.inl ⟨a,vs,rfl,J.sq,fun p n=>cm j (nu r l u) (fun p' n'=>(z p' n').ext B) n⟩)
 | _=>exact z.elim
end
end
section
section
variable {X:Cx}
noncomputable def wBM (rd:D->List D->Mem->QD->Prop) (to:TEd) (t:TAd):TEd:=fun ρ M Q=>to ρ M fun x M1=>(∃ a xs,x = .ref a/\M1 a=some (.lst xs))/\t ρ M1 fun ds M2=>rd x ds M2 Q
def dO (rd:D->List D->Mem->QD->Prop):Prop := ∀ x ds M Q Q',(∀ d M',Q d M'->Q' d M')->rd x ds M Q->rd x ds M Q'
theorem pU {rd:D->List D->Mem->QD->Prop} {to:TEd} {t:TAd} (j:dO rd) (mo:ad to) (mt:aU t):ad (wBM rd to t):=fun ρ M Q Q' i q =>
 mo _ _ _ _ (fun x F ⟨e,z⟩=>⟨e,mt _ _ _ _ (fun ds M2 B=>j _ _ _ _ _ i B) z⟩) q
theorem yc {K:Frag} {M:Mem} {H:Hp} {x:D} {v:V} (rm:RM K M H) (r:RD K H x v) (h:∃ a xs,x = .ref a/\M a=some (.lst xs)):tyV K "list" v H:=by
 obtain ⟨a,xs,rfl,e⟩:=h
 cases Q6.mp r
 obtain ⟨vs,j,_⟩:=rm _ _ e;exact .inl ⟨rfl,vs,SqL.of j⟩
theorem zt {K:Frag} {rd:D->List D->Mem->QD->Prop} {r:V->List V->Hp->VK->Prop} {to:TEd} {t:TAd} (G:dO rd) (mo:ad to) (mt:aU t)
 (J:∀ v vs H Q,lMt K rd v vs H Q->r v vs H Q) (σ:St) (H:Hp) (Q:VK) (h:lE K (wBM rd to t) σ H Q):tBM K "list" r (lE K to) (lA K t) σ H Q:=by
 obtain ⟨ρ,M,rs,rm,q⟩:=h;refine ⟨ρ,M,rs,rm,mo _ _ _ _ (fun x L ⟨e,O⟩ v H1 x1 j z=>⟨yc j z e, ?_⟩) q⟩;refine ⟨ρ,L,rs.mono (x1.stab rm),j,mt _ _ _ _ (fun ds M2 U vs H2 x2 B F => ?_) O⟩;exact J v vs H2 Q ⟨x,ds,M2,B,z.mono (x2.stab j),F,G _ _ _ _ _ (fun d M' k=>k.ext (x1.trans x2)) U⟩
theorem nv {K:Frag} {rd:D->List D->Mem->QD->Prop} {r:V->List V->Hp->VK->Prop} {to:TEd} (B:dO rd) (mo:ad to)
 (F:∀ v vs H Q,lMt K rd v vs H Q->r v vs H Q) (σ:St) (H:Hp) (Q:VK) (h:lE K (wBM rd to bB) σ H Q):B3 K "list" r (lE K to) σ H Q:=by
 obtain ⟨ρ,M,rs,rm,q⟩:=h;refine ⟨ρ,M,rs,rm,mo _ _ _ _ (fun x G ⟨e,J⟩ v H1 x1 j z=>⟨yc j z e, ?_⟩) q⟩;exact F v [] H1 Q ⟨x,[],G,j,z,RDs.nil,B _ _ _ _ _ (fun d M' k=>k.ext x1) J⟩
noncomputable def jX:D->List D->Mem->QD->Prop:=fun x ds M Q => ∃ a xs y,x = .ref a/\ds=[y]/\M a=some (.lst xs)/\xs.length < Gg/\Q .non (af M a (.lst (xs++[y])))
noncomputable def ny:D->List D->Mem->QD->Prop:=fun x ds M Q => ∃ a xs,x = .ref a/\ds=[]/\M a=some (.lst xs)/\Q .non (af M a (.lst []))
theorem i6:dO jX:=fun _ _ _ _ _ h ⟨a,xs,y,e1,e2,j,z,q⟩=>⟨a,xs,y,e1,e2,j,z,h _ _ q⟩
theorem jd:dO ny:=fun _ _ _ _ _ h ⟨a,xs,e1,e2,j,q⟩=>⟨a,xs,e1,e2,j,h _ _ q⟩
theorem gB {K:Frag} {M:Mem} {H:Hp} {Q:VK} {d:D} {v:V} {a:Addr} {o0:O} {ds:List D} {vs:List V} (rm:RM K M H) (m:M a=some o0) (rd:RDs K H ds vs) (r:RD K H d v) (q:KE' K M H Q d (af M a (.lst ds))) (w:fz (some o0)=false:=by rfl) :
 Q v (upd H a (.lst vs)):=by
 have st:Stab H (upd H a (.lst vs)):=rm.stabPut m w;exact q v _ (Ext.put m w) (rm.put m ⟨vs,aG,rd.mono st⟩ w) (r.mono st)
theorem wq {K:Frag} (v:V) (vs:List V) (H:Hp) (Q:VK) (h:lMt K jX v vs H Q):pN v vs H Q:=by
 obtain ⟨x,ds,M,rm,rx,rs,a,xs,y,rfl,rfl,e,z,q⟩:=h
 cases Q6.mp rx
 obtain ⟨w,rfl,rw'⟩:=rs.one;obtain ⟨us,j,ru⟩:=rm _ _ e;exact ⟨a,us,w,rfl,rfl,j,by rw [ru.length];exact z,gB rm e (ru.append (RDs.cons rw' RDs.nil)) (Qc.mpr rfl) q⟩
theorem zu {K:Frag} (v:V) (vs:List V) (H:Hp) (Q:VK) (h:lMt K ny v vs H Q):t9 v vs H Q:=by
 obtain ⟨x,ds,M,rm,rx,rs,a,xs,rfl,rfl,e,q⟩:=h
 cases Q6.mp rx
 obtain ⟨us,j,ru⟩:=rm _ _ e;exact ⟨a,us,rfl,RDs.nil_iff.mp rs,j,gB rm e RDs.nil (Qc.mpr rfl) q⟩
noncomputable abbrev BT:=D->al->Option al
noncomputable abbrev BTs:=List D->al->Option al
noncomputable def bQ (i:Nat):BT:=fun d ρ => some (ρ.set i (some d))
noncomputable def fK:BTs:=fun ds ρ => match ds with | [] => some ρ | _=>none
noncomputable def bJ (b:BT) (bs:BTs):BTs:=fun ds ρ => match ds with | d::r=>(b d ρ).bind fun ρ'=>bs r ρ' | [] => none
noncomputable def nA (bs:BTs):BT:=fun d ρ => match d with | .tup ds=>bs ds ρ | _=>none
noncomputable def lG (K:Frag) (b:BT):TG:=fun v σ H Q => ∃ d ρ ρ',RD K H d v/\RS K H σ ρ /\ b d ρ = some ρ' /\ ∀ σ',RS K H σ' ρ'->Q σ' H
noncomputable def lGs (K:Frag) (b:BTs):TGs:=fun vs σ H Q => ∃ ds ρ ρ',RDs K H ds vs/\RS K H σ ρ /\ b ds ρ = some ρ' /\ ∀ σ',RS K H σ' ρ'->Q σ' H
theorem PG.imp {e:Expr} {t t':TG} (h:PG X e t) (i:∀ v σ H Q,t' v σ H Q->t v σ H Q):PG X e t':=fun pins s σ H v u Q I r q=>h pins s σ H v u Q I r (i _ _ _ _ q)
theorem PGs.imp {e:List Expr} {t t':TGs} (h:PGs X e t) (i:∀ v σ H Q,t' v σ H Q->t v σ H Q):PGs X e t':=fun pins s σ H v u Q I r q=>h pins s σ H v u Q I r (i _ _ _ _ q)
theorem zw {i:Nat} {x:Str} {pos:Pos} (j:X.N.Nodup) (hi:X.N[i]? = some x) (hx:Loc X.env.scope x) (hf:X.fn x=true∨X.env.scope.names.lookup x=some .local):PG X (.Name x pos) (lG X.K (bQ i)) :=
 PG.imp (pK j hi hx hf) fun v σ H Q ⟨d, ρ, ρ',r,rs,e,q⟩=>by
  cases e
  exact q _ (rs.set i r)
theorem zx:PGs X [] (lGs X.K fK):=PGs.imp yJ fun vs σ H Q ⟨ds, ρ, ρ',r,rs,e,q⟩=>by
 cases ds with
 | nil=>cases e;exact ⟨RDs.nil_iff.mp r,q σ rs⟩
 | cons _ _=>cases e
theorem wt {e:Expr} {es:List Expr} {b:BT} {bs:BTs} (h1:PG X e (lG X.K b)) (h2:PGs X es (lGs X.K bs)) (hs:(IB (e::es) X.env).map (·.2)=assign e X.env::(IB es X.env).map (·.2)) :
 PGs X (e::es) (lGs X.K (bJ b bs)):=PGs.imp (vE h1 h2 hs) fun vs σ H Q ⟨ds, ρ, ρ',r,rs,e,q⟩=>by
 cases ds with
 | nil=>cases e
 | cons d ds =>
   obtain ⟨v,vr,rfl,j,z⟩:=Q8.mp r;simp only [bJ] at e
   cases e1:b d ρ with
   | none=>rw [e1] at e;cases e
   | some ρ1 =>
     rw [e1] at e;exact ⟨v,vr,rfl,d, ρ, ρ1,j,rs,e1,fun σ' rs'=>⟨ds, ρ1, ρ',z,rs',e,q⟩⟩
theorem Bs {es:List Expr} {k:Nat} {bs:BTs} {n:Nat} {pos:Pos} (z:X.calm=true) (hlen:∀ ds ρ ρ',bs ds ρ = some ρ'->ds.length=n) (h:PGs X es (lGs X.K bs)) (B:(IB es X.env).length=n) (j:(IB es X.env).findIdx? (·.1)=none) :
 PG X (.Tuple es k pos) (lG X.K (nA bs)):=PG.imp (AJ z h B j) fun v σ H Q ⟨d, ρ, ρ',r,rs,e,q⟩=>by
 cases d with
 | tup ds =>
   obtain ⟨a,vs,rfl,F,rv⟩:=Qb r;exact ⟨a,vs,rfl,F,by rw [rv.length];exact hlen _ _ _ e,ds, ρ, ρ',rv,rs,e,q⟩
 | _=>cases e
noncomputable abbrev TId:=al->Mem->(List D->(Mem->Prop)->Mem->Prop)->Prop
def bK (T:TId):Prop := ∀ ρ M Q Q',(∀ xs c M',Q xs c M'->Q' xs c M')->T ρ M Q->T ρ M Q'
def Yl (H H':Hp):Prop:=H'=H ∨ ∃ q vs,H q=none/\H'=upd H q (.tup vs)
def fL (K:Frag) (H1:Hp) (xs:List D) (chk:Mem->Prop) (J:It):Prop := ∀ M H,Stab H1 H->RM K M H->chk M -> ∀ i,(xs.length<=i->J.stop i H)/\(i < xs.length->J.go i H /\
 ∀ x H',J.yld i H x H'->Yl H H' /\ ∃ d,xs[i]? = some d/\RD K H' d x)
noncomputable def lI (K:Frag) (T:TId):TI:=fun σ H R => ∃ ρ M,RS K H σ ρ /\ RM K M H/\T ρ M (fun xs chk M1 => ∀ J H1,Ext M H M1 H1->RM K M1 H1->fL K H1 xs chk J->R J H1)
theorem PI.imp {tg e:Expr} {t t':TI} (h:PI X tg e t) (i:∀ σ H Q,t' σ H Q->t σ H Q):PI X tg e t':=fun pins s σ H Q I q=>h pins s σ H Q I (i _ _ _ q)
theorem Yl.ext {K:Frag} {M:Mem} {H H':Hp} (rm:RM K M H) (y:Yl H H'):Ext M H M H'/\RM K M H':=by
 rcases y with rfl | ⟨q,vs,n,rfl⟩
 ·exact ⟨Ext.refl,rm⟩
 ·exact ⟨Qg n,rm.new n⟩
noncomputable def DU (K:Frag) (tl:TE):TI:=fun σ H R=>tl σ H fun x H1 => ∃ a,x = .ref a/\(((∃ xs,SqL K H1 a xs)/\R (Itl K a) H1)∨((∃ xs,SqT K H1 a xs)/\R (Itt K a) H1))
theorem Bt {tg l:Expr} {tl:TE} (F:PE X l tl):PI X tg l (DU X.K tl):=by
 intro pins s σ H R I h;refine thn (F pins s σ H _ I h) fun v s1 ⟨x,H1,j,G,J⟩ => ?_;obtain ⟨a,e,q⟩:=J;subst e
 cases G
 rcases q with ⟨⟨xs,z⟩,q⟩ | ⟨⟨xs,z⟩,q⟩
 ·obtain ⟨its,rv,p,L⟩:=j.list z;refine Jm p.isList ?_;refine ⟨s1.heap.objs.size,[s1.heap.objs.size],_,_,H1,rfl,j.kept (t':=s1.toks) fun b o e=>h6 _ e,sQ a _,⟨_,Gh _ rfl,rfl,rfl⟩,fun b B => ?_,q⟩;have e:b=s1.heap.objs.size:=by simpa using B
  subst e;exact j.fpOk (Gi _) (j.hok.fresh (Gi _))
 ·obtain ⟨its,rv,p,L⟩:=j.tuple z;refine Ie (show s1.heap.IsTuple a its.toArray from p) ?_;refine ⟨s1.heap.objs.size,[s1.heap.objs.size],_,_,H1,rfl,j.kept (t':=s1.toks) fun b o e=>h6 _ e,qR a _,⟨_,Gh _ rfl,rfl,rfl⟩,fun b B => ?_,q⟩;have e:b=s1.heap.objs.size:=by simpa using B
  subst e;exact j.fpOk (Gi _) (j.hok.fresh (Gi _))
noncomputable def nB (ta:TEd):TId:=fun ρ M R=>ta ρ M fun x M1 => ∃ ds,aq M1 x=some ds/\R ds (fun M=>aq M x=some ds) M1
theorem wu {ta:TEd} (h:ad ta):bK (nB ta):=fun ρ M Q Q' i q=>h _ _ _ _ (fun x z ⟨ds,e,j⟩=>⟨ds,e,i _ _ _ j⟩) q
theorem tP {K:Frag} {H1:Hp} {a:Addr} {ds:List D} {chk:Mem->Prop} (h:∀ M H,Stab H1 H->RM K M H->chk M -> ∃ vs,SqL K H a vs/\RDs K H ds vs):fL K H1 ds chk (Itl K a):=fun M H st rm c i=>by
 obtain ⟨vs,sq,r⟩:=h M H st rm c;have l:=r.length;refine ⟨fun hi=>⟨vs,sq,by lia⟩,fun hi=>⟨⟨vs,vs[i]'(by lia),sq,tv (by lia)⟩,fun x H' y => ?_⟩⟩
 obtain ⟨e,y⟩:=y;subst e;exact ⟨.inl rfl,r.getV (y vs sq)⟩
theorem Bu {K:Frag} {H1:Hp} {a:Addr} {ds:List D} {chk:Mem->Prop} (h:∀ M H,Stab H1 H->RM K M H->chk M -> ∃ vs,SqT K H a vs/\RDs K H ds vs):fL K H1 ds chk (Itt K a):=fun M H st rm c i=>by
 obtain ⟨vs,sq,r⟩:=h M H st rm c;have l:=r.length;refine ⟨fun hi=>⟨vs,sq,by lia⟩,fun hi=>⟨⟨vs,vs[i]'(by lia),sq,tv (by lia)⟩,fun x H' y => ?_⟩⟩
 obtain ⟨e,y⟩:=y;subst e;exact ⟨.inl rfl,r.getV (y vs sq)⟩
theorem Bv {tg l:Expr} {ta:TEd} (m:ad ta) (F:PE X l (lE X.K ta)):PI X tg l (lI X.K (nB ta)):=by
 refine PI.imp (Bt F) fun σ H R h => ?_;obtain ⟨ρ,M,rs,rm,q⟩:=h;refine ⟨ρ,M,rs,rm,m _ _ _ _ (fun x J ⟨ds,e,B⟩ v H1 x1 j rd1 => ?_) q⟩
 cases x with
 | tup es =>
   cases e
   obtain ⟨a,vs,rfl,z,rv⟩:=Qb rd1;exact ⟨a,rfl, .inr ⟨⟨vs,z⟩,B _ H1 x1 j (Bu fun M' H' st _ _=>⟨vs,st.sqT z,rv.mono st⟩)⟩⟩
 | con es =>
   cases e
   obtain ⟨a,vs,rfl,z,rv⟩:=Q9.mp rd1;exact ⟨a,rfl, .inl ⟨⟨vs,z.sq⟩,B _ H1 x1 j (tP fun M' H' st _ _=>⟨vs,(st.sqF z).sq,rv.mono st⟩)⟩⟩
 | ref a =>
   cases Q6.mp rd1
   have get:∀ {M':Mem} {es:List D},aq M' (.ref a)=some es->M' a=some (.lst es):=fun {M' es} e=>by
    simp only [aq] at e
    cases e0:M' a with
    | none=>rw [e0] at e;cases e
    | some o =>
      rw [e0] at e
      cases o with
      | dct _ _=>cases e
      | fdc _=>cases e
      | lst es'=>cases e;rfl
   obtain ⟨vs,z,rv⟩:=j _ _ (get e);exact ⟨a,rfl, .inl ⟨⟨vs,SqL.of z⟩,B _ H1 x1 j (tP fun M' H' st rm' c=>by
    obtain ⟨us,G,ru⟩:=rm' _ _ (get c);exact ⟨us,SqL.of G,ru⟩)⟩⟩
 | _=>cases e
noncomputable def bO (lo:Int) (n:Nat):List D:=(D0 n).map fun i => .int (lo+(i:Nat))
theorem tQ {K:Frag} {H1:Hp} {lo:Int} {n:Nat}:fL K H1 (bO lo n) (fun _=>True) (Itr lo n):=fun M H st rm c i=>by
 have l:(bO lo n).length=n:=by simp [bO]
 refine ⟨fun hi=>by show n<=i;lia,fun hi=>⟨by show i < n;lia,fun x H' y => ?_⟩⟩
 obtain ⟨e,y⟩:=y;subst e y;refine ⟨.inl rfl, .int (lo+i), ?_,Q5.mpr rfl⟩;simp only [bO,GH,Hy (show i < n by lia),IU]
noncomputable def je (ta:TAd):TId:=fun ρ M R=>ta ρ M fun ds M1 => ∃ j:Int,ds=[.int j] /\ -(2 ^ 62)<=j/\j < 2 ^ 62/\R (bO 0 j.toNat) (fun _=>True) M1
noncomputable def jf (ta:TAd):TId:=fun ρ M R=>ta ρ M fun ds M1 => ∃ i j:Int,ds=[.int i, .int j]/\(-(2 ^ 62)<=i/\i < 2 ^ 62 /\ -(2 ^ 62)<=j/\j < 2 ^ 62)/\R (bO i (j - i).toNat) (fun _=>True) M1
theorem tR {ta:TAd} (h:aU ta):bK (je ta):=fun ρ M Q Q' i q=>h _ _ _ _ (fun x B ⟨j,e,a,b,z⟩=>⟨j,e,a,b,i _ _ _ z⟩) q
theorem tS {ta:TAd} (h:aU ta):bK (jf ta):=fun ρ M Q Q' i q=>h _ _ _ _ (fun x B ⟨k,j,e,a,z⟩=>⟨k,j,e,a,i _ _ _ z⟩) q
theorem zy {tg a:Expr} {ta:TAd} {p pos:Pos} (m:aU ta) (B:Gl X "range") (hm:X.mg "range" = none) (F:PA X [a] (lA X.K ta)) (hs:GN [a] X.env=[(false,eval a X.env)]):PI X tg (.Call (.Name "range" p) [a] [] pos) (lI X.K (je ta)):=by
 refine PI.imp (sR B hm F hs) fun σ H R h => ?_;obtain ⟨ρ,M,rs,rm,q⟩:=h;refine ⟨ρ,M,rs,rm,m _ _ _ _ (fun ds O ⟨j,e,G,J,L⟩ vs H1 x1 z rd1 => ?_) q⟩;subst e;obtain ⟨v,rfl,r⟩:=rd1.one
 cases Q5.mp r
 exact ⟨j,rfl,G,J,L _ H1 x1 z tQ⟩
theorem zz {tg a b:Expr} {ta:TAd} {p pos:Pos} (m:aU ta) (G:Gl X "range") (hm:X.mg "range" = none) (J:PA X [a,b] (lA X.K ta)) (hs:GN [a,b] X.env=[(false,eval a X.env),(false,eval b X.env)]) (B:GN [b] X.env=[(false,eval b X.env)]) :
 PI X tg (.Call (.Name "range" p) [a,b] [] pos) (lI X.K (jf ta)):=by
 refine PI.imp (sU G hm J hs B) fun σ H R h => ?_;obtain ⟨ρ,M,rs,rm,q⟩:=h;refine ⟨ρ,M,rs,rm,m _ _ _ _ (fun ds Y ⟨i,j,e,z,L⟩ vs H1 x1 F rd1 => ?_) q⟩;subst e;obtain ⟨v,u,rfl,O,U⟩:=rd1.two
 cases Q5.mp O
 cases Q5.mp U
 exact ⟨i,j,rfl,z,L _ H1 x1 F tQ⟩
end
end
section
section
variable {X:Cx}
noncomputable def isT:D->Bool | .tup _=>true | _=>false
theorem eF {K:Frag} {M:Mem} {H:Hp} {x:D} {ds:List D} {v:V} (rm:RM K M H) (r:RD K H x v) (e:aq M x=some ds):∃ p vs,v = .ref p/\SqV K (isT x) H p vs/\RDs K H ds vs:=by
 cases x with
 | tup es =>
   cases e
   obtain ⟨a,vs,rfl,j,rv⟩:=Qb r;exact ⟨a,vs,rfl,j,rv⟩
 | con es =>
   cases e
   obtain ⟨a,vs,rfl,j,rv⟩:=Q9.mp r;exact ⟨a,vs,rfl,j.sq,rv⟩
 | ref a =>
   cases Q6.mp r
   simp only [aq] at e
   cases e0:M a with
   | none=>rw [e0] at e;cases e
   | some o =>
     rw [e0] at e
     cases o with
     | dct _ _=>cases e
     | fdc _=>cases e
     | lst es =>
       cases e
       obtain ⟨vs,j,rv⟩:=rm _ _ e0;exact ⟨a,vs,rfl,SqL.of j,rv⟩
 | _=>cases e
noncomputable def jg (x y:D):D := .tup [x,y]
noncomputable def nC (ta tb:TEd):TId:=fun ρ M R=>b8 ta (b8 tb bB) ρ M fun ds M1 => ∃ x y xs ys,ds=[x,y]/\aq M1 x=some xs/\aq M1 y=some ys/\R (IH jg xs ys) (fun M=>aq M x=some xs/\aq M y=some ys) M1
theorem wv {ta tb:TEd} (j:ad ta) (z:ad tb):bK (nC ta tb):=fun ρ M Q Q' i q=>ao j (ao z au) _ _ _ _ (fun ds F ⟨x,y,xs,ys,e,e1,e2,B⟩=>⟨x,y,xs,ys,e,e1,e2,i _ _ _ B⟩) q
theorem nD {H:Hp} {p:Addr} {o:HO} (n:H p=none):Stab H (upd H p o):=⟨fun a xs e=>by rw [aj (fun z=>by rw [z,n] at e;cases e)];exact e,fun a o u e=>by rw [aj (fun z=>by rw [z,n] at e;cases e)];exact e⟩
theorem Bw {K:Frag} {H1:Hp} {x y:D} {xs ys:List D} {a b:Addr} (rx:RD K H1 x (.ref a)) (ry:RD K H1 y (.ref b)):fL K H1 (IH jg xs ys) (fun M=>aq M x=some xs/\aq M y=some ys) (Itz K (isT x) (isT y) a b):=fun M H st rm c i=>by
 obtain ⟨O,vs,e1,j,G⟩:=eF rm (rx.mono st) c.1;obtain ⟨p2,us,e2,q,J⟩:=eF rm (ry.mono st) c.2
 cases e1
 cases e2
 have l1:=G.length;have l2:=J.length;have lz:(IH jg xs ys).length=min xs.length ys.length:=NQ;refine ⟨fun hi=>⟨vs,us,j,q,by lia⟩,fun hi=>⟨⟨vs,us,vs[i]'(by lia),us[i]'(by lia),j,q,tv (by lia),tv (by lia)⟩,fun v H' L => ?_⟩⟩
 obtain ⟨p,v1,v2,n,rfl,rfl,g⟩:=L;obtain ⟨g1,g2⟩:=g vs us j q;obtain ⟨d1,z,B⟩:=G.getV g1;obtain ⟨d2,hd2,F⟩:=J.getV g2;have sb:=nD (o := .tup [v1,v2]) n;refine ⟨.inr ⟨p,[v1,v2],n,rfl⟩, .tup [d1,d2], ?_,Qf ⟨p,[v1,v2],rfl,aG,RDs.cons (B.mono sb) (RDs.cons (F.mono sb) RDs.nil)⟩⟩;rw [List.getElem?_zipWith,z,hd2];rfl
theorem By {elts:List Expr} {cx} {pos p pos':Pos} {a b:Expr} {ta tb:TEd} (ma:ad ta) (mb:ad tb) (G:Gl X "zip") (hm:X.mg "zip" = none) (J:PA X [a,b] (lA X.K (b8 ta (b8 tb bB)))) (hs:GN [a,b] X.env=[(false,eval a X.env),(false,eval b X.env)]) (z:GN [b] X.env=[(false,eval b X.env)]) :
 PI X (.Tuple elts cx pos) (.Call (.Name "zip" p) [a,b] [] pos') (lI X.K (nC ta tb)):=by
 refine PI.imp (Bc G hm J hs z) fun σ H R h => ?_;obtain ⟨ρ,M,rs,rm,q⟩:=h;refine ⟨ρ,M,rs,rm,ao ma (ao mb au) _ _ _ _ (fun ds U ⟨x,y,xs,ys,e,e1,e2,L⟩ vs H1 x1 j rd1 => ?_) q⟩;subst e;obtain ⟨v,u,rfl,B,F⟩:=rd1.two;obtain ⟨O,vs,rfl,s1,_⟩:=eF j B e1;obtain ⟨p2,us,rfl,s2,_⟩:=eF j F e2;exact ⟨O,p2,isT x,isT y,vs,us,rfl,s1,s2,L _ H1 x1 j (Bw B F)⟩
end
end
section
section
variable {X:Cx}
noncomputable def eU (xs:List D):List D:=xs.mapIdx fun i x => .tup [.int (i:Nat),x]
noncomputable def jh (ta:TEd):TId:=fun ρ M R=>ta ρ M fun x M1 => ∃ xs,aq M1 x=some xs/\R (eU xs) (fun M=>aq M x=some xs) M1
theorem tT {ta:TEd} (h:ad ta):bK (jh ta):=fun ρ M Q Q' i q=>h _ _ _ _ (fun x z ⟨ds,e,j⟩=>⟨ds,e,i _ _ _ j⟩) q
theorem Bz {K:Frag} {H1:Hp} {x:D} {xs:List D} {a:Addr} (rx:RD K H1 x (.ref a)):fL K H1 (eU xs) (fun M=>aq M x=some xs) (Ite K (isT x) a):=fun M H st rm c i=>by
 obtain ⟨G,vs,e1,j,B⟩:=eF rm (rx.mono st) c
 cases e1
 have l1:=B.length;have lz:(eU xs).length=xs.length:=by simp [eU]
 refine ⟨fun hi=>⟨vs,j,by lia⟩,fun hi=>⟨⟨vs,vs[i]'(by lia),j,tv (by lia)⟩,fun v H' F => ?_⟩⟩
 obtain ⟨p,v1,n,rfl,rfl,g⟩:=F;obtain ⟨d1,q,z⟩:=B.getV (g vs j);have sb:=nD (o := .tup [.int (i:Nat),v1]) n;refine ⟨.inr ⟨p,[.int (i:Nat),v1],n,rfl⟩, .tup [.int (i:Nat),d1], ?_,Qf ⟨p,[.int (i:Nat),v1],rfl,aG,RDs.cons (Q5.mpr rfl) (RDs.cons (z.mono sb) RDs.nil)⟩⟩;simp [eU,Ll,q]
theorem zA {elts:List Expr} {cx} {pos p pos':Pos} {a:Expr} {ta:TEd} (ma:ad ta) (B:Gl X "enumerate") (hm:X.mg "enumerate" = none) (F:PA X [a] (lA X.K (b8 ta bB))) (hs:GN [a] X.env=[(false,eval a X.env)]) :
 PI X (.Tuple elts cx pos) (.Call (.Name "enumerate" p) [a] [] pos') (lI X.K (jh ta)):=by
 refine PI.imp (yX B hm F hs) fun σ H R h => ?_;obtain ⟨ρ,M,rs,rm,q⟩:=h;refine ⟨ρ,M,rs,rm,ma _ _ _ _ (fun x L ⟨xs,e1,G⟩ vs H1 x1 j rd1 => ?_) q⟩;obtain ⟨v,rfl,z⟩:=rd1.one;obtain ⟨J,us,rfl,s1,_⟩:=eF j z e1;exact ⟨J,isT x,us,rfl,s1,G _ H1 x1 j (Bz z)⟩
end
end
section
noncomputable abbrev NC:=al->Mem->List D->Prop
noncomputable abbrev TCd:=al->Mem->List D->NC->Prop
def bM (T:TCd):Prop := ∀ ρ M acc N N',(∀ ρ' M' acc',N ρ' M' acc'->N' ρ' M' acc')->T ρ M acc N->T ρ M acc N'
structure ExtP (p:Addr) (M:Mem) (H:Hp) (M':Mem) (H':Hp):Prop where
 kp:∀ a o,a≠p->fz (M a)=true->H a=some o->H' a=some o
 nw:∀ a o,fz (M a)=true->H a=some o->M' a=M a
section
variable {K:Frag} {M M' M'':Mem} {H H' H'':Hp} {p:Addr}
theorem ExtP.new (x:ExtP p M H M' H') (a:Addr) (o:HO) (n:M a=none) (e:H a=some o):M' a=none:=(x.nw a o (by rw [n];rfl) e).trans n
theorem Ext.toP (x:Ext M H M' H'):ExtP p M H M' H':=⟨fun a o _=>x.kp a o,x.nw⟩
theorem ExtP.refl:ExtP p M H M H:=⟨fun _ _ _ _ h=>h,fun _ _ _ _=>rfl⟩
theorem ExtP.trans {vs:List V} (a:ExtP p M H M' H') (q:H p=some (.lst vs)) (j:∃ vs',H' p=some (.lst vs')) (b:ExtP p M' H' M'' H''):ExtP p M H M'' H'' :=
 ⟨fun c o ne n h=>b.kp c o ne (by rw [a.nw c o n h];exact n) (a.kp c o ne n h),fun c o n h=>by
   have n':fz (M' c)=true:=by rw [a.nw c o n h];exact n
   refine Eq.trans ?_ (a.nw c o n h)
   by_cases z:c=p
   ·subst z;obtain ⟨vs',e⟩:=j;exact b.nw c _ n' e
   ·exact b.nw c o n' (a.kp c o z n h)⟩
theorem ExtP.stab {vs:List V} (r:RM K M H) (j:H p=some (.lst vs)) (x:ExtP p M H M' H'):Stab H H' where
 tup:=fun a xs e=>x.kp a _ (fun z=>by subst z;rw [j] at e;cases e) (by rw [r.fzT e];rfl) e
 frz:=fun a o u e=>x.kp a _ (fun z=>by subst z;rw [j] at e;cases e) (r.fzF e) e
theorem nE {vs:List V} {ho:HO} (j:H p=some (.lst vs)):Stab H (upd H p ho) :=
 ⟨fun a xs e=>by rw [aj (fun z=>by subst z;rw [j] at e;cases e)];exact e,fun a o u e=>by rw [aj (fun z=>by subst z;rw [j] at e;cases e)];exact e⟩
theorem RM.side {vs:List V} {ho:HO} (r:RM K M H) (n:M p=none) (j:H p=some (.lst vs)):RM K M (upd H p ho):=fun a o e=>by
 have ne:a≠p:=fun z=>by subst z;rw [n] at e;cases e
 exact (r a o e).mono (nE j) fun B q=>by rw [aj ne];exact q
end
def gC (K:Frag) (H:Hp) (p:Addr) (acc:List D):Prop := ∃ vs,H p=some (.lst vs)/\RDs K H acc vs
noncomputable def KC (K:Frag) (p:Addr) (M:Mem) (H:Hp) (N:St->Hp->Prop):NC:=fun ρ' M' acc' => ∀ σ' H',ExtP p M H M' H'->RS K H' σ' ρ'->RM K M' H'->gC K H' p acc'->N σ' H'
noncomputable def lC (K:Frag) (p:Addr) (T:TCd):TC:=fun σ H N => ∃ ρ M acc,RS K H σ ρ /\ RM K M H/\M p=none/\gC K H p acc/\T ρ M acc (KC K p M H N)
theorem KC.ext {K:Frag} {p:Addr} {M M2 M':Mem} {H H2:Hp} {N:St->Hp->Prop} {ρ:al} {acc:List D} {vs:List V} (q:H p=some (.lst vs)) (j:∃ vs',H2 p=some (.lst vs')) (x:ExtP p M H M2 H2) (h:KC K p M H N ρ M' acc):KC K p M2 H2 N ρ M' acc :=
 fun σ' H' y=>h σ' H' (x.trans q j y)
noncomputable def dP (te:TEd):TCd:=fun ρ M acc N=>te ρ M fun x M1=>acc.length < Gg/\N ρ M1 (acc++[x])
noncomputable def be:List TTd->TCd->TCd
 | [],tb=>tb
 | t::r,tb=>fun ρ M acc N=>t ρ M fun b M1=>if b=true then be r tb ρ M1 acc N else N ρ M1 acc
noncomputable def bR (b:BT) (tb:TCd) (chk:Mem->Prop) (N:NC):List D->NC
 | [] => fun ρ M acc=>chk M/\N ρ M acc
 | x::xs=>fun ρ M acc=>chk M /\ ∃ ρ',b x ρ = some ρ'/\tb ρ' M acc (bR b tb chk N xs)
noncomputable def dh (src:TId) (b:BT) (tb:TCd):TCd:=fun ρ M acc N=>src ρ M fun xs chk M1=>bR b tb chk N xs ρ M1 acc
noncomputable def gD (fr:List (Option Nat)) (src:TId) (b:BT) (tb:TCd):TEd:=fun ρ M Q=>src ρ M fun xs chk M1=>bR b tb chk (fun _ M' acc => ∀ p,M' p=none->Q (.ref p) (af M' p (.lst acc))) xs (jS fr ρ) M1 []
theorem bj {te:TEd} (h:ad te):bM (dP te):=fun ρ M acc N N' i q=>h _ _ _ _ (fun x B ⟨z,j⟩=>⟨z,i _ _ _ j⟩) q
theorem aK {tb:TCd} (z:bM tb):∀ {ts:List TTd},(∀ t∈ts,aC t)->bM (be ts tb)
 | [],_=>z
 | t::r,h=>fun ρ M acc N N' i q=>h t HP _ _ _ _ (fun b F j=>by
   cases b with
   | true=>rw [if_pos rfl] at j ⊢;exact aK z (fun t' B=>h t' (GP _ B)) _ _ _ _ _ i j
   | false=>rw [if_neg Gb] at j ⊢;exact i _ _ _ j) q
theorem fM {b:BT} {tb:TCd} (z:bM tb) {chk:Mem->Prop} {N N':NC} (i:∀ ρ' M' acc',N ρ' M' acc'->N' ρ' M' acc'):∀ (xs:List D) (ρ:al) (M:Mem) (acc:List D),bR b tb chk N xs ρ M acc->bR b tb chk N' xs ρ M acc
 | [], ρ,M,acc,h=>⟨h.1,i _ _ _ h.2⟩
 | x::xs, ρ,M,acc,⟨c, ρ',e,q⟩=>⟨c, ρ',e,z _ _ _ _ _ (fun ρ2 M2 j B=>fM z i xs ρ2 M2 j B) q⟩
theorem i7 {src:TId} {b:BT} {tb:TCd} (hs:bK src) (j:bM tb):bM (dh src b tb):=fun ρ M acc N N' i q=>hs _ _ _ _ (fun xs c B z=>fM j i xs _ _ _ z) q
theorem kR {fr:List (Option Nat)} {src:TId} {b:BT} {tb:TCd} (hs:bK src) (j:bM tb):ad (gD fr src b tb):=fun ρ M Q Q' i q =>
 hs _ _ _ _ (fun xs c F z=>fM j (fun _ M' acc B p n=>i _ _ (B p n)) xs _ _ _ z) q
section
variable {K:Frag} {p:Addr}
theorem fN {te:TEd} (m:ad te) (σ:St) (H:Hp) (N:St->Hp->Prop) (h:lC K p (dP te) σ H N):ya p (lE K te) σ H N:=by
 obtain ⟨ρ,M,acc,rs,rm,n,⟨vs,J,ra⟩,q⟩:=h;refine ⟨ρ,M,rs,rm,m _ _ _ _ (fun x U ⟨z,L⟩ v H1 x1 F G => ?_) q⟩;have j:=x1.keep p _ n J;have O:=x1.new p _ n J;have st:=x1.stab rm;have B:Stab H1 (upd H1 p (.lst (vs++[v]))):=nE j;refine ⟨vs,j,by rw [ra.length];exact z,L σ _ ⟨fun a o ne m' e => ?_,x1.nw⟩ ((rs.mono st).mono B) (F.side O j) ⟨vs++[v],aG,((ra.mono st).mono B).append (RDs.cons (G.mono B) RDs.nil)⟩⟩
 rw [aj ne];exact x1.kp a o m' e
theorem ji {tb:TCd} (mb:bM tb):∀ {ts:List TTd},(∀ t∈ts,aC t) -> ∀ (σ:St) (H:Hp) (N:St->Hp->Prop),lC K p (be ts tb) σ H N->iX (ts.map (lT K)) (lC K p tb) σ H N
 | [],_, σ,H,N,h=>h
 | t::r,hm, σ,H,N,h=>by
   obtain ⟨ρ,M,acc,rs,rm,n,⟨vs,F,ra⟩,q⟩:=h;refine ⟨ρ,M,rs,rm,hm t HP _ _ _ _ (fun b J B H1 x1 z => ?_) q⟩;have j:=x1.keep p _ n F;have L:=x1.new p _ n F;have st:=x1.stab rm
   cases b with
   | false =>
     rw [if_neg Gb] at B;dsimp only;rw [if_neg Gb];exact B σ H1 x1.toP (rs.mono st) z ⟨vs,j,ra.mono st⟩
   | true =>
     rw [if_pos rfl] at B;dsimp only;rw [if_pos rfl];exact ji mb (fun t' G=>hm t' (GP _ G)) σ H1 N ⟨ρ,J,acc,rs.mono st,z,L,⟨vs,j,ra.mono st⟩,
      aK mb (fun t' G=>hm t' (GP _ G)) _ _ _ _ _ (fun ρ' M' acc' k=>k.ext F ⟨vs,j⟩ x1.toP) B⟩
theorem kS {b:BT} {tb:TCd} (mb:bM tb) {xs:List D} {chk:Mem->Prop} {J:It} {H1:Hp} {B:Mem} {Nd:NC} {N:St->Hp->Prop} {σ:St} {ρ:al} {acc:List D} (it:fL K H1 xs chk J) (rs:RS K H1 σ ρ) (rm:RM K B H1) (n:B p=none)
 (ac:gC K H1 p acc) (q:bR b tb chk Nd xs ρ B acc) (hN:∀ ρ' M' acc' σ' H',ExtP p B H1 M' H'->RS K H' σ' ρ'->RM K M' H'->gC K H' p acc'->Nd ρ' M' acc'->N σ' H') :
 ca J (lG K b) (lC K p tb) N σ H1:=by
 obtain ⟨E3,F,_⟩:=id ac;refine ⟨fun i m σ H=>m=xs.length - i/\i<=xs.length /\ ∃ ρ M acc,RS K H σ ρ /\ RM K M H/\M p=none/\gC K H p acc/\ExtP p B H1 M H/\bR b tb chk Nd (xs.drop i) ρ M acc,⟨xs.length,by simp,Ih _, ρ,B,acc,rs,rm,n,ac,ExtP.refl,q⟩, ?_⟩
 rintro i m σ H ⟨rfl,hi, ρ,M,acc,rs,j,n,ac,x,q⟩;have st:=x.stab rm F;obtain ⟨vs,hp,ra⟩:=id ac
 by_cases z:i < xs.length
 ·rw [HX z] at q;obtain ⟨c, ρ',hb,q⟩:=q;obtain ⟨go,yl⟩:=(it M H st j c i).2 z;refine .inr ⟨go,fun σ' H' => ∃ m',m' < xs.length - i/\(m'=xs.length - (i+1)/\i+1<=xs.length /\ ∃ ρ M acc,RS K H' σ' ρ /\ RM K M H'/\M p=none/\gC K H' p acc/\ExtP p B H1 M H'/\bR b tb chk Nd (xs.drop (i+1)) ρ M acc),fun σ' H' h=>h,fun x' H' y => ?_⟩;obtain ⟨yy,d,hd,rd⟩:=yl x' H' y;rw [tv z] at hd
  cases hd
  obtain ⟨xy,rmy⟩:=yy.ext j;have sty:=xy.stab j;have G:=xy.keep p _ n hp;refine ⟨_, ρ, ρ',rd,rs.mono sty,hb,fun σ2 O => ?_⟩;refine ⟨ρ',M,acc,O,rmy,n,⟨vs,G,ra.mono sty⟩,mb _ _ _ _ _ (fun ρ3 M3 L q3 σ3 H3 x3 U Y Z => ?_) q⟩;have n3:M3 p=none:=x3.new p _ n G;exact ⟨xs.length - (i+1),by lia,rfl,z, ρ3,M3,L,U,Y,n3,Z,(x.trans F ⟨vs,hp⟩ xy.toP).trans F ⟨vs,G⟩ x3,q3⟩
 ·have e:i=xs.length:=by lia
  subst e;rw [OT] at q;exact .inl ⟨(it M H st j q.1 _).1 (Gi _),hN ρ M acc σ H x rs j ac q.2⟩
theorem i8 {src:TId} {b:BT} {tb:TCd} (ms:bK src) (mb:bM tb) (σ:St) (H:Hp) (N:St->Hp->Prop) (h:lC K p (dh src b tb) σ H N):(lI K src) σ H fun J H1=>ca J (lG K b) (lC K p tb) N σ H1:=by
 obtain ⟨ρ,M,acc,rs,rm,n,⟨vs,z,ra⟩,q⟩:=h;refine ⟨ρ,M,rs,rm,ms _ _ _ _ (fun xs chk L F J H1 x1 B it => ?_) q⟩;have j:=x1.keep p _ n z;have G:=x1.new p _ n z;have st:=x1.stab rm;exact kS mb it (rs.mono st) B G ⟨vs,j,ra.mono st⟩ F fun ρ' M' acc' σ' H' x2 rs' rm' ac' k=>k σ' H' (x1.toP.trans z ⟨vs,j⟩ x2) rs' rm' ac'
theorem dQ {fr:List (Option Nat)} {src:TId} {b:BT} {tb:TCd} (ms:bK src) (mb:bM tb) (σ:St) (H:Hp) (Q:VK) (h:lE K (gD fr src b tb) σ H Q):r9 (lI K src) (lG K b) (fun p=>lC K p tb) fr σ H Q:=by
 obtain ⟨ρ,M,rs,rm,q⟩:=h;refine ⟨ρ,M,rs,rm,ms _ _ _ _ (fun xs chk B G J H1 x1 j it p n => ?_) q⟩;have st:=x1.stab rm;have xn:Ext B H1 B (upd H1 p (.lst [])):=Qg n;have stn:=xn.stab j;have F:B p=none:=j.out n;refine kS (p:=p) mb (xs:=xs) (chk:=chk) (fun M' H' st'=>it M' H' ⟨fun a xs e=>st'.tup _ _ (stn.tup _ _ e),fun a o u e=>st'.frz _ _ _ (stn.frz _ _ _ e)⟩) (((rs.mono st).mono stn).inh fr) (j.new n) F ⟨[],aG,RDs.nil⟩ G fun ρ' M' acc' σ' H' x2 rs' rm' ac' k => ?_;obtain ⟨vs,L,ra⟩:=ac';have n':M' p=none:=x2.new p _ F aG;refine k p n' (.ref p) H' ⟨fun a o m e => ?_,fun a o m e => ?_⟩ (fun a o e => ?_) (Q6.mpr rfl)
 ·have e1:=x1.kp a o m e;have ne:a≠p:=fun z=>by subst z;rw [n] at e1;cases e1
  exact x2.kp a o ne (by rw [x1.nw a o m e];exact m) (by rw [aj ne];exact e1)
 ·have e1:=x1.kp a o m e;have ne:a≠p:=fun z=>by subst z;rw [n] at e1;cases e1
  rw [aE ne];exact (x2.nw a o (by rw [x1.nw a o m e];exact m) (by rw [aj ne];exact e1)).trans (x1.nw a o m e)
 ·by_cases z:a=p
  ·subst z;rw [ab] at e;cases e;exact ⟨vs,L,ra⟩
  ·rw [aE z] at e;exact rm' a o e
end
end
section
noncomputable def gE:TSd:=fun D ρ M=>D.nx ρ M
noncomputable def nF (t u:TSd):TSd:=fun D ρ M=>t { D with nx:=u D } ρ M
noncomputable def fO:TSd:=fun D ρ M=>D.bk ρ M
noncomputable def jj:TSd:=fun D ρ M=>D.ct ρ M
noncomputable def jk (te:TEd):TSd:=fun D ρ M=>te ρ M fun _ M1=>D.nx ρ M1
noncomputable def nG (te:TEd):TSd:=fun D ρ M=>te ρ M D.rt
noncomputable def sIf (c:TTd) (t u:TSd):TSd:=fun D ρ M=>c ρ M fun b M1=>if b=true then t D ρ M1 else u D ρ M1
noncomputable def iw (te:TEd) (b:BT):TSd:=fun D ρ M=>te ρ M fun x M1 => ∃ ρ',b x ρ = some ρ'/\D.nx ρ' M1
noncomputable def nH (ta:TAd) (bs:BTs):TSd:=fun D ρ M=>ta ρ M fun xs M1 => ∃ ρ',bs xs ρ = some ρ'/\D.nx ρ' M1
noncomputable def bw (b:BT) (tb:TSd) (chk:Mem->Prop) (D:b7):List Mi.D->al->Mem->Prop
 | [] => fun ρ M=>chk M/\D.nx ρ M
 | x::xs=>fun ρ M=>chk M /\ ∃ ρ',b x ρ = some ρ'/\tb { D with nx:=bw b tb chk D xs,ct:=bw b tb chk D xs,bk:=D.nx } ρ' M
noncomputable def nI (src:TId) (b:BT) (tb:TSd):TSd:=fun D ρ M=>src ρ M fun xs chk M1=>bw b tb chk D xs ρ M1
noncomputable def b6 (c:TTd) (tb:TSd) (D:b7):Nat->al->Mem->Prop
 | 0=>fun _ _=>False
 | n+1=>fun ρ M=>c ρ M fun b M1=>if b=true then tb { D with nx:=b6 c tb D n,ct:=b6 c tb D n,bk:=D.nx } ρ M1 else D.nx ρ M1
noncomputable def fP (c:TTd) (tb:TSd):TSd:=fun D ρ M => ∃ n,b6 c tb D n ρ M
theorem kT:aB gE:=fun _ _ _ _ h q=>h.nx _ _ q
theorem rC:aB fO:=fun _ _ _ _ h q=>h.bk _ _ q
theorem tU:aB jj:=fun _ _ _ _ h q=>h.ct _ _ q
theorem tV {t u:TSd} (j:aB t) (z:aB u):aB (nF t u):=fun a b ρ M h q=>j { a with nx:=u a } { b with nx:=u b } _ _ ⟨fun ρ' M' q'=>z _ _ _ _ h q',h.rt,h.bk,h.ct⟩ q
theorem tW {te:TEd} (h:ad te):aB (jk te):=fun a b ρ M i q=>h _ _ _ _ (fun _ z j=>i.nx _ _ j) q
theorem ww {te:TEd} (h:ad te):aB (nG te):=fun a b ρ M i q=>h _ _ _ _ (fun d z j=>i.rt _ _ j) q
theorem wx {c:TTd} {t u:TSd} (z:aC c) (B:aB t) (F:aB u):aB (sIf c t u):=fun a b ρ M i q=>z _ _ _ _ (fun k G j=>by
 cases k with
 | true=>rw [if_pos rfl] at j ⊢;exact B _ _ _ _ i j
 | false=>rw [if_neg Gb] at j ⊢;exact F _ _ _ _ i j) q
theorem wy {te:TEd} {bt:BT} (h:ad te):aB (iw te bt):=fun a b ρ M i q=>h _ _ _ _ (fun d z ⟨ρ',e,j⟩=>⟨ρ',e,i.nx _ _ j⟩) q
theorem wz {ta:TAd} {bs:BTs} (h:aU ta):aB (nH ta bs):=fun a b ρ M i q=>h _ _ _ _ (fun d z ⟨ρ',e,j⟩=>⟨ρ',e,i.nx _ _ j⟩) q
theorem fQ {bt:BT} {tb:TSd} (j:aB tb) {chk:Mem->Prop} {a b:b7} (i:LeD a b):∀ (xs:List D) (ρ:al) (M:Mem),bw bt tb chk a xs ρ M->bw bt tb chk b xs ρ M
 | [], ρ,M,h=>⟨h.1,i.nx _ _ h.2⟩
 | x::xs, ρ,M,⟨c, ρ',e,q⟩=>⟨c, ρ',e,j { a with nx:=bw bt tb chk a xs,ct:=bw bt tb chk a xs,bk:=a.nx } { b with nx:=bw bt tb chk b xs,ct:=bw bt tb chk b xs,bk:=b.nx } _ _ ⟨fun ρ2 M2 z=>fQ j i xs ρ2 M2 z,i.rt,i.nx,fun ρ2 M2 z=>fQ j i xs ρ2 M2 z⟩ q⟩
theorem wB {src:TId} {bt:BT} {tb:TSd} (hs:bK src) (j:aB tb):aB (nI src bt tb):=fun a b ρ M i q=>hs _ _ _ _ (fun xs c B z=>fQ j i xs _ _ z) q
theorem e8 {c:TTd} {tb:TSd} (q:aC c) (z:aB tb) {a b:b7} (i:LeD a b):∀ (n:Nat) (ρ:al) (M:Mem),b6 c tb a n ρ M->b6 c tb b n ρ M
 | 0, ρ,M,h=>h
 | n+1, ρ,M,h=>q _ _ _ _ (fun k F j=>by
   cases k with
   | true=>rw [if_pos rfl] at j ⊢;exact z { a with nx:=b6 c tb a n,ct:=b6 c tb a n,bk:=a.nx } { b with nx:=b6 c tb b n,ct:=b6 c tb b n,bk:=b.nx } _ _ ⟨fun ρ2 M2 B=>e8 q z i n ρ2 M2 B,i.rt,i.nx,fun ρ2 M2 B=>e8 q z i n ρ2 M2 B⟩ j
   | false=>rw [if_neg Gb] at j ⊢;exact i.nx _ _ j) h
theorem rD {c:TTd} {tb:TSd} (j:aC c) (z:aB tb):aB (fP c tb):=fun a b ρ M i ⟨n,q⟩=>⟨n,e8 j z i n _ _ q⟩
section
variable {K:Frag}
theorem kU (D:bm) (σ:St) (H:Hp) (h:lS K gE D σ H):qO D σ H:=by
 obtain ⟨ρ,M,A,rs,rm,l,q⟩:=h;exact l.nx ρ M σ H Ext.refl rs rm q
theorem rE (D:bm) (σ:St) (H:Hp) (h:lS K fO D σ H):sM D σ H:=by
 obtain ⟨ρ,M,A,rs,rm,l,q⟩:=h;exact l.bk ρ M σ H Ext.refl rs rm q
theorem tX (D:bm) (σ:St) (H:Hp) (h:lS K jj D σ H):xU D σ H:=by
 obtain ⟨ρ,M,A,rs,rm,l,q⟩:=h;exact l.ct ρ M σ H Ext.refl rs rm q
theorem wD {t u:TSd} (mt:aB t) (mu:aB u) (D:bm) (σ:St) (H:Hp) (h:lS K (nF t u) D σ H):AF (lS K t) (lS K u) D σ H:=by
 obtain ⟨ρ,M,A,rs,rm,l,q⟩:=h;exact ⟨ρ,M, { A with nx:=u A },rs,rm,⟨fun ρ' M' σ' H' x rs' rm' q'=>⟨ρ',M',A,rs',rm',l.ext x,q'⟩,l.rt,l.bk,l.ct⟩,q⟩
theorem tY {te:TEd} (m:ad te) (D:bm) (σ:St) (H:Hp) (h:lS K (jk te) D σ H):xV (lE K te) D σ H:=by
 obtain ⟨ρ,M,A,rs,rm,l,q⟩:=h;exact ⟨ρ,M,rs,rm,m _ _ _ _ (fun d z B v H1 x1 j F=>l.nx ρ z σ H1 x1 (rs.mono (x1.stab rm)) j B) q⟩
theorem wF {te:TEd} (m:ad te) (D:bm) (σ:St) (H:Hp) (h:lS K (nG te) D σ H):AG (lE K te) D σ H:=by
 obtain ⟨ρ,M,A,rs,rm,l,q⟩:=h;exact ⟨ρ,M,rs,rm,m _ _ _ _ (fun d B F v H1 x1 j z=>l.rt d B v H1 x1 j z F) q⟩
theorem zB {c:TTd} {t u:TSd} (mc:aC c) (D:bm) (σ:St) (H:Hp) (h:lS K (sIf c t u) D σ H):AI (lT K c) (lS K t) (lS K u) D σ H:=by
 obtain ⟨ρ,M,A,rs,rm,l,q⟩:=h;refine ⟨ρ,M,rs,rm,mc _ _ _ _ (fun k B z H1 x1 j => ?_) q⟩
 cases k with
 | true=>rw [if_pos rfl] at z ⊢;exact ⟨ρ,B,A,rs.mono (x1.stab rm),j,l.ext x1,z⟩
 | false=>rw [if_neg Gb] at z ⊢;exact ⟨ρ,B,A,rs.mono (x1.stab rm),j,l.ext x1,z⟩
theorem wG {te:TEd} {b:BT} (m:ad te) (D:bm) (σ:St) (H:Hp) (h:lS K (iw te b) D σ H):qP (lE K te) (lG K b) D σ H:=by
 obtain ⟨ρ,M,A,rs,rm,l,q⟩:=h;refine ⟨ρ,M,rs,rm,m _ _ _ _ (fun d B ⟨ρ',e,F⟩ v H1 x1 j z => ?_) q⟩;exact ⟨d, ρ, ρ',z,rs.mono (x1.stab rm),e,fun σ' rs'=>l.nx ρ' B σ' H1 x1 rs' j F⟩
theorem kW {te:TEd} {i:Nat} (m:ad te) (D:bm) (σ:St) (H:Hp) (h:lS K (iw te (bQ i)) D σ H):qP (lE K te) (iM i) D σ H:=by
 obtain ⟨ρ,M,A,rs,rm,l,q⟩:=h;refine ⟨ρ,M,rs,rm,m _ _ _ _ (fun d j ⟨ρ',e,z⟩ v H1 x1 rm1 rd1 => ?_) q⟩
 cases e
 exact l.nx _ j _ H1 x1 ((rs.mono (x1.stab rm)).set i rd1) rm1 z
theorem wH {src:TId} {b:BT} {tb:TSd} (ms:bK src) (mb:aB tb) (D:bm) (σ:St) (H:Hp) (h:lS K (nI src b tb) D σ H):AQ (lI K src) (lG K b) (lS K tb) D σ H:=by
 obtain ⟨ρ,M,A,rs,rm,l,q⟩:=h;refine ⟨ρ,M,rs,rm,ms _ _ _ _ (fun xs chk Z q1 J H1 x1 G it => ?_) q⟩;refine ⟨fun i m σ H'=>m=xs.length - i/\i<=xs.length /\ ∃ ρ M2,RS K H' σ ρ /\ RM K M2 H'/\Ext Z H1 M2 H'/\bw b tb chk A (xs.drop i) ρ M2,⟨xs.length,by simp,Ih _, ρ,Z,rs.mono (x1.stab rm),G,Ext.refl,q1⟩, ?_⟩
 rintro i m σ2 H2 ⟨rfl,hi, ρ2,M2,L,j,x2,O⟩;have U:=x2.stab G
 by_cases B:i < xs.length
 ·rw [HX B] at O;obtain ⟨c, ρ',hb,q3⟩:=O;obtain ⟨go,yl⟩:=(it M2 H2 U j c i).2 B;refine .inr ⟨go,fun σ' H' => ∃ m',m' < xs.length - i/\(m'=xs.length - (i+1)/\i+1<=xs.length /\ ∃ ρ M,RS K H' σ' ρ /\ RM K M H'/\Ext Z H1 M H'/\bw b tb chk A (xs.drop (i+1)) ρ M),fun σ' H' h=>h,fun x' H' y => ?_⟩;obtain ⟨yy,d,hd,rd⟩:=yl x' H' y;rw [tv B] at hd
  cases hd
  obtain ⟨xy,rmy⟩:=yy.ext j;have Y:=x1.trans (x2.trans xy);refine ⟨_, ρ2, ρ',rd,L.mono (xy.stab j),hb,fun σ3 E3 => ?_⟩;have nx:∀ ρ5 F σ5 z,Ext M2 H' F z->RS K z σ5 ρ5->RM K F z->bw b tb chk A (xs.drop (i+1)) ρ5 F -> ∃ m',m' < xs.length - i/\(m'=xs.length - (i+1)/\i+1<=xs.length /\ ∃ ρ M,RS K z σ5 ρ /\ RM K M z/\Ext Z H1 M z/\bw b tb chk A (xs.drop (i+1)) ρ M) :=
   fun ρ5 F σ5 z x5 E4 E5 q5=>⟨xs.length - (i+1),by lia,rfl,B, ρ5,F,E4,E5,(x2.trans xy).trans x5,q5⟩
  refine ⟨ρ',M2, { A with nx:=bw b tb chk A (xs.drop (i+1)),ct:=bw b tb chk A (xs.drop (i+1)),bk:=A.nx },E3,rmy,⟨nx,fun d F v z x5=>l.rt d F v z (Y.trans x5),fun ρ5 F σ5 z x5=>l.nx ρ5 F σ5 z (Y.trans x5),nx⟩,q3⟩
 ·have e:i=xs.length:=by lia
  subst e;rw [OT] at O;exact .inl ⟨(it M2 H2 U j O.1 _).1 (Gi _),l.nx ρ2 M2 σ2 H2 (x1.trans x2) L j O.2⟩
theorem rF {c:TTd} {tb:TSd} (mc:aC c) (mb:aB tb) (D:bm) (σ:St) (H:Hp) (h:lS K (fP c tb) D σ H):sP (lT K c) (lS K tb) D σ H:=by
 obtain ⟨ρ,M,A,rs,rm,l,n,q⟩:=h;refine ⟨fun m σ' H' => ∃ ρ' M',RS K H' σ' ρ'/\RM K M' H'/\Ext M H M' H'/\b6 c tb A m ρ' M',⟨n, ρ,M,rs,rm,Ext.refl,q⟩, ?_⟩;rintro m σ1 H1 ⟨ρ1,M1,G,J,x1,q1⟩
 cases m with
 | zero=>exact q1.elim
 | succ m =>
   refine ⟨ρ1,M1,G,J,mc _ _ _ _ (fun k M2 Y H2 x2 L => ?_) q1⟩;have j:=x1.trans x2;have O:=G.mono (x2.stab J)
   cases k with
   | false=>rw [if_neg Gb] at Y;dsimp only;rw [if_neg Gb];exact l.nx ρ1 M2 σ1 H2 j O L Y
   | true =>
     rw [if_pos rfl] at Y;dsimp only;rw [if_pos rfl];refine ⟨fun σ' H' => ∃ ρ' M',RS K H' σ' ρ'/\RM K M' H'/\Ext M H M' H'/\b6 c tb A m ρ' M',fun σ' H' h=>⟨m,Nat.lt_succ_self m,h⟩, ρ1,M2, { A with nx:=b6 c tb A m,ct:=b6 c tb A m,bk:=A.nx },O,L,⟨?_,fun d z v U x5=>l.rt d z v U (j.trans x5),fun ρ5 z σ5 U x5=>l.nx ρ5 z σ5 U (j.trans x5), ?_⟩,Y⟩
     ·exact fun ρ5 z σ5 U x5 B F Z=>⟨ρ5,z,B,F,j.trans x5,Z⟩
     ·exact fun ρ5 z σ5 U x5 B F Z=>⟨ρ5,z,B,F,j.trans x5,Z⟩
end
noncomputable def eV:D->D->D->Mem->(Mem->Prop)->Prop:=fun o i v M Q => ∃ a,o = .ref a /\
 ((∃ xs k j,i = .int k/\M a=some (.lst xs)/\ixN xs.length k=some j/\Q (af M a (.lst (xs.set j v)))) ∨
  ∃ t kvs,M a=some (.dct t kvs)/\dN t i=true/\kvs.length < Gg/\Q (af M a (.dct t (e7 kvs i v))))
noncomputable def nJ (te to ti:TEd):TSd:=fun D ρ M=>te ρ M fun v M1=>to ρ M1 fun o M2=>ti ρ M2 fun i M3=>eV o i v M3 fun M4=>D.nx ρ M4
theorem kX {o i v:D} {M:Mem} {Q Q':Mem->Prop} (h:∀ M',Q M'->Q' M') (q:eV o i v M Q):eV o i v M Q':=by
 obtain ⟨a,e,⟨xs,k,j,e1,e2,z,q⟩ | ⟨t,kvs,e1,e2,z,q⟩⟩:=q
 ·exact ⟨a,e, .inl ⟨xs,k,j,e1,e2,z,h _ q⟩⟩
 ·exact ⟨a,e, .inr ⟨t,kvs,e1,e2,z,h _ q⟩⟩
theorem wJ {te to ti:TEd} (he:ad te) (ho:ad to) (hi:ad ti):aB (nJ te to ti):=fun a b ρ M i q =>
 he _ _ _ _ (fun v F j=>ho _ _ _ _ (fun o M2 z=>hi _ _ _ _ (fun k G B=>kX (fun M' q'=>i.nx _ _ q') B) z) j) q
section
variable {X:Cx} {K:Frag}
theorem nK (j:X.A.units+1 < Ij):PSet X (fun o i v H Q => ∃ a H',o = .ref a/\DPut H a i v H'/\Q H'):=by
 intro pins s σ H o i v ov iv u Q I ro ri rv h;obtain ⟨a,H',rfl,g,q⟩:=h
 cases ro
 exact tt j I g ri rv fun s' I'=>⟨H',I',q⟩
theorem PSet.or {t t':jN} (h:PSet X t) (h':PSet X t'):PSet X (fun o i v H Q=>t o i v H Q∨t' o i v H Q):=by
 intro pins s σ H o i v ov iv u Q I ro ri rv q
 rcases q with q | q
 ·exact h pins s σ H o i v ov iv u Q I ro ri rv q
 ·exact h' pins s σ H o i v ov iv u Q I ro ri rv q
section
variable {κ:Type} [DecidableEq κ] {H:Hp} {RK:D -> κ -> Prop} (inj:∀ {d e:D} {k : κ},RK d k->RK e k->d=e) (fn:∀ {d:D} {k k' : κ},RK d k->RK d k'->k=k')
include inj fn
theorem pV {k:D} {q : κ} (j:RK k q):∀ {kvs:List (D×D)} {ps:List (κ × V)},HD (fun p r=>RK p.1 r.1/\RD K H p.2 r.2) kvs ps ->
 (kvs.any fun p=>decide (p.1=k))=(ps.any fun p=>decide (p.1=q))
 | _,_, .nil=>rfl
 | _,_, .cons (a:=p) (b:=r) hr t=>by
   rw [IF,IF,pV j t];congr 1
   by_cases e:p.1=k
   ·have e':r.1=q:=by have h1:=hr.1;rw [e] at h1;exact fn h1 j
    rw [decide_eq_true e,decide_eq_true e']
   ·have e' : ¬ r.1=q:=fun z=>e (by have h1:=hr.1;rw [z] at h1;exact inj h1 j)
    rw [decide_eq_false e,decide_eq_false e']
theorem pW {k:D} {q : κ} (B:RK k q) {d:D} {v:V} (F:RD K H d v):∀ {kvs:List (D×D)} {ps:List (κ × V)},HD (fun p r=>RK p.1 r.1/\RD K H p.2 r.2) kvs ps ->
 HD (fun p r=>RK p.1 r.1/\RD K H p.2 r.2) (kvs.map fun p=>if p.1=k then (p.1,d) else p) (ps.map fun p=>if p.1=q then (p.1,v) else p)
 | _,_, .nil => .nil
 | _,_, .cons (a:=p) (b:=r) j t=>by
   refine .cons ?_ (pW B F t)
   by_cases e:p.1=k
   ·have e':r.1=q:=by have h1:=j.1;rw [e] at h1;exact fn h1 B
    dsimp only;rw [if_pos e,if_pos e'];exact ⟨j.1,F⟩
   ·have e' : ¬ r.1=q:=fun z=>e (by have h1:=j.1;rw [z] at h1;exact inj h1 B)
    dsimp only;rw [if_neg e,if_neg e'];exact j
theorem nL {k:D} {q : κ} (j:RK k q) {d:D} {v:V} (z:RD K H d v) {kvs:List (D×D)} {ps:List (κ × V)} (r:HD (fun p r=>RK p.1 r.1/\RD K H p.2 r.2) kvs ps) :
 HD (fun p r=>RK p.1 r.1/\RD K H p.2 r.2) (e7 kvs k d) (bN ps q v):=by
 unfold e7 bN;rw [pV (K:=K) (H:=H) (RK:=RK) inj fn j r]
 by_cases e:(ps.any fun p=>decide (p.1=q))=true
 ·rw [if_pos e,if_pos e];exact pW (RK:=RK) inj fn j z r
 ·rw [if_neg e,if_neg e];exact r.snoc ⟨j,z⟩
end
theorem nM {M:Mem} {H:Hp} {o i v:D} {ov iv vv:V} {Qd:Mem->Prop} {Q:Hp->Prop} (rm:RM K M H) (ro:RD K H o ov) (ri:RD K H i iv) (rv:RD K H v vv) (h:eV o i v M Qd) (J:∀ M' H',Ext M H M' H'->RM K M' H'->Qd M'->Q H') :
 y7 ov iv vv H Q ∨ ∃ a H',ov = .ref a/\DPut H a iv vv H'/\Q H':=by
 obtain ⟨a,rfl,⟨xs,k,j,rfl,e2,G,q⟩ | ⟨t,kvs,e1,e2,G,q⟩⟩:=h
 ·cases Q6.mp ro
  cases Q5.mp ri
  obtain ⟨vs,U,rs⟩:=rm _ _ e2;have st:Stab H (upd H a (.lst (vs.set j vv))):=rm.stabPut e2;exact .inl ⟨a,vs,k,j,rfl,rfl,U,by rw [rs.length];exact G,J _ _ (Ext.put e2) (rm.put (o := .lst (xs.set j v)) e2 ⟨_,aG,(rs.set j rv).mono st⟩) q⟩
 ·cases Q6.mp ro
  have ro':=rm _ _ e1
  cases t with
  | false =>
    obtain ⟨ps,L,pr⟩:=ro';obtain ⟨kq,F⟩:=mP (show eR i=true from e2);have st:Stab H (upd H a (.dK (bN ps kq vv))):=rm.stabPut e1;have B:=nL (RK:=RKey) RKey.inj RKey.fun F rv pr;rw [jV F ri];refine .inr ⟨a,_,rfl,DPut.k L (by rw [<- Kb pr];exact G),J _ _ (Ext.put e1) (rm.put (o := .dct false (e7 kvs i v)) e1 ⟨_,aG,Qa B fun _ _ z=>⟨z.1,z.2.mono st⟩⟩) q⟩
  | true =>
    obtain ⟨ps,L,pr⟩:=ro';obtain ⟨kq,F⟩:=pR (show dy i=true from e2);have st:Stab H (upd H a (.dT (bN ps kq vv))):=rm.stabPut e1;have B:=nL (RK:=RKeys) RKeys.inj RKeys.fun F rv pr
    cases i <;> first
     | exact F.elim
     | (obtain ⟨b,us,rfl,O,ru⟩:=Qp (pS e2) ri
        rw [ir F ru] at O;exact .inr ⟨a,_,rfl,DPut.t L O (by rw [<- Kb pr];exact G),J _ _ (Ext.put e1) (rm.put (o := .dct true (e7 kvs _ v)) e1 ⟨_,aG,Qa B fun _ _ z=>⟨z.1,z.2.mono st⟩⟩) q⟩)
theorem BA {o i e:Expr} {te to ti:TEd} {pos tpos:Pos} (U:X.A.units+1 < Ij) (me:ad te) (mo:ad to) (mi:ad ti) (he:PE X e (lE X.K te)) (ho:PE X o (lE X.K to)) (hi:PE X i (lE X.K ti))
 (hs:Kc [.Subscript o i tpos] e pos.line X.env=pure false) (hw:Jp [.Subscript o i tpos] e X.env=pure none)
 (Y:∀ v,assign (.Subscript o i tpos) X.env v=(do
   let ov <- holding [v] (eval o X.env)
   let iv <- holding [v,ov] (eval i X.env)
   Md tpos
   holding [v,ov,iv] (NJ ov iv v)
   release [v,ov,iv] [])):PS X (.Assign [.Subscript o i tpos] e pos) (lS X.K (nJ te to ti)):=by
 refine PS.imp (sN he (AK ho hi (PSet.or mG (nK U)) Y) hs hw rfl) fun D σ H h => ?_;obtain ⟨ρ,M,A,rs,rm,l,q⟩:=h;refine ⟨ρ,M,rs,rm,me _ _ _ _ (fun v Z q1 vv H1 x1 j F => ?_) q⟩;refine ⟨ρ,Z,rs.mono (x1.stab rm),j,mo _ _ _ _ (fun ov M2 q2 vo H2 x2 z G => ?_) q1⟩;refine ⟨ρ,M2,(rs.mono (x1.stab rm)).mono (x2.stab j),z,mi _ _ _ _ (fun iv M3 q3 vi H3 x3 J L => ?_) q2⟩;have B:=x1.trans (x2.trans x3);exact nM J (G.mono (x3.stab z)) L ((F.mono (x2.stab j)).mono (x3.stab z)) q3 fun M' H' x4 O q4=>l.nx ρ M' σ H' (B.trans x4) (rs.mono ((B.trans x4).stab rm)) O q4
noncomputable def m9:R2d
 | .int i, .int j,M,Q=>Q (.int (i+j)) M
 | _,_,_,_=>False
noncomputable def md:R2d
 | .int i, .int j,M,Q=>Q (.int (i - j)) M
 | _,_,_,_=>False
noncomputable def mf:R2d
 | .int i, .int j,M,Q=>MulOk i j/\Q (.int (i*j)) M
 | _,_,_,_=>False
theorem fR:av m9:=by
 intro x y M Q Q' h q
 cases x <;> cases y <;> first | exact q.elim | exact h _ _ q
theorem fS:av md:=by
 intro x y M Q Q' h q
 cases x <;> cases y <;> first | exact q.elim | exact h _ _ q
theorem fT:av mf:=by
 intro x y M Q Q' h q
 cases x <;> cases y <;> first | exact q.elim | exact ⟨q.1,h _ _ q.2⟩
theorem kY:OpR X (J6 .Add) (l2 X.K m9):=by
 refine OpR.of yL fun v u H Q h => ?_;obtain ⟨x,y,M,rm,rx,ry,q⟩:=h
 cases x <;> cases y <;> first
  | exact q.elim
  | (cases Q5.mp rx;cases Q5.mp ry;exact ⟨_,_,rfl,rfl,q _ H Ext.refl rm (Q5.mpr rfl)⟩)
theorem kZ:OpR X (J6 .Sub) (l2 X.K md):=by
 refine OpR.of yM fun v u H Q h => ?_;obtain ⟨x,y,M,rm,rx,ry,q⟩:=h
 cases x <;> cases y <;> first
  | exact q.elim
  | (cases Q5.mp rx;cases Q5.mp ry;exact ⟨_,_,rfl,rfl,q _ H Ext.refl rm (Q5.mpr rfl)⟩)
theorem tZ:OpR X (J6 .Mult) (rI MulOk fun i j => .int (i*j)):=opI fun _ _ _ _ _ _ _ z q=>imul_int q z.ok
theorem lc:OpR X (J6 .Mult) (l2 X.K mf):=by
 refine OpR.of tZ fun v u H Q h => ?_;obtain ⟨x,y,M,rm,rx,ry,q⟩:=h
 cases x <;> cases y <;> first
  | exact q.elim
  | (cases Q5.mp rx;cases Q5.mp ry;exact ⟨_,_,rfl,rfl,q.1,q.2 _ H Ext.refl rm (Q5.mpr rfl)⟩)
noncomputable def nN (i:Nat) (rd:R2d) (te:TEd):TSd:=fun D ρ M => ∃ x, ρ[i]? = some (some x)/\te ρ M fun y M1=>rd x y M1 fun z M2=>D.nx (ρ.set i (some z)) M2
theorem wK {i:Nat} {rd:R2d} {te:TEd} (j:av rd) (he:ad te):aB (nN i rd te):=fun a b ρ M l ⟨x,e,q⟩=>⟨x,e,he _ _ _ _ (fun y G B=>j _ _ _ _ _ (fun z M2 F=>l.nx _ _ F) B) q⟩
theorem jl {i:Nat} {x:Str} {e:Expr} {te:TEd} {op:JT} {rd:R2d} {pos pos':Pos} (L:X.N.Nodup) (hi:X.N[i]? = some x) (hx:Loc X.env.scope x) (he:PE X e (lE X.K te)) (ho:OpR X (J6 op) (l2 X.K rd)) (O:av rd) (me:ad te)
 (hf:X.fn x=true∨X.env.scope.names.lookup x=some .local):PS X (.AugAssign (.Name x pos') op e pos) (lS X.K (nN i rd te)):=by
 refine PS.imp (AN L hi hx he (ti:=l2 X.K rd) ho hf) fun D σ H h => ?_;obtain ⟨ρ,M,A,rs,rm,l,d,e,q⟩:=h;obtain ⟨v,U,j⟩:=rs.2 i d e;refine ⟨v,U, ρ,M,rs,rm,me _ _ _ _ (fun y Y Z u H1 x1 B F => ?_) q⟩;refine ⟨d,y,Y,B,j.mono (x1.stab rm),F,O _ _ _ _ _ (fun z M2 q2 w H2 x2 G J => ?_) Z⟩;exact l.nx _ M2 _ H2 (x1.trans x2) ((rs.mono ((x1.trans x2).stab rm)).set i J) G q2
end
end
end Mi
end L2
namespace L2
open PySem PySem.Spec PyProof.Rows
namespace Mi
variable {K:Frag}
theorem u4 {ta:TAd} {i j:Nat} (m:aU ta) (D:bm) (σ:St) (H:Hp) (h:lS K (nH ta (bJ (bQ i) (bJ (bQ j) fK))) D σ H):AL i j (lA K ta) D σ H:=by
 obtain ⟨ρ,M,A,rs,rm,l,q⟩:=h;refine ⟨ρ,M,rs,rm,m _ _ _ _ (fun ds F ⟨ρ',e,G⟩ vs H1 x1 B z => ?_) q⟩
 match ds,e,z with
 | [d1,d2],e,z =>
  obtain ⟨v,u,rfl,J,L⟩:=z.two;simp only [bJ,bQ,fK,My,OA] at e;subst e;exact ⟨v,u,rfl,l.nx _ F _ H1 x1 (((rs.mono (x1.stab rm)).set i J).set j L) B G⟩
end Mi
end L2
namespace L2
open PySem PySem.Spec PyProof.Rows
section
section
variable {X:Cx}
theorem ax:AO X (fun o i H Q => ∃ a xs k x,o = .ref a/\i = .int k/\SqL X.K H a xs/\atI xs k=some x/\Q x H):=by
 intro pins s σ H o i ov iv Q I ro ri h;obtain ⟨a,xs,k,x,rfl,rfl,sq,he,q⟩:=h
 cases ro
 obtain ⟨t,rfl⟩:=ri;obtain ⟨its,r,pl,J⟩:=I.list sq;obtain ⟨j,h1,h2,L,B,F⟩:=jO he;obtain ⟨w,ew,rw'⟩:=r.get h2;have G:=r.length;have O:=eB;have fin:EP X pins σ Q w s:=⟨x,H,I,rw',q⟩
 by_cases h0 : 0<=k
 ·have z:k.toNat=j:=Ig.inj (by rw [<- h1,Nq h0 F])
  exact wpAny_getItem_list pl.isList h0 (by lia) (by rw [z];simpa using ew) fin
 ·have z:(k+(its.toArray.size:Int)).toNat=j:=by
   rw [Gf, <- G];exact Ig.inj (by rw [<- h1,MM (by lia) B])
  exact MP pl.isList (by lia) (by rw [Gf];lia) (by lia) (by rw [z];simpa using ew) fin
end
namespace Mi
section
variable {X:Cx}
noncomputable def yd:R2d:=fun x y M Q => ∃ a ds k d,x = .ref a/\y = .int k/\M a=some (.lst ds)/\atI ds k=some d/\Q d M
theorem u5:av yd:=fun _ _ _ _ _ h ⟨a,ds,k,d,e1,e2,j,z,q⟩=>⟨a,ds,k,d,e1,e2,j,z,h _ _ q⟩
noncomputable def jm (to ti te:TEd) (rd:R2d):TSd:=fun D ρ M=>to ρ M fun o M1=>ti ρ M1 fun i M2=>yd o i M2 fun x M3=>te ρ M3 fun y M4=>rd x y M4 fun z M5=>eV o i z M5 fun M6=>D.nx ρ M6
theorem u6 {to ti te:TEd} {rd:R2d} (ho:ad to) (hi:ad ti) (he:ad te) (j:av rd):aB (jm to ti te rd):=fun a b ρ M l q =>
 ho _ _ _ _ (fun o U B=>hi _ _ _ _ (fun i M2 F=>u5 _ _ _ _ _ (fun x Y G=>he _ _ _ _ (fun y Z J=>j _ _ _ _ _ (fun z M5 L=>kX (fun M6 O=>l.nx _ _ O) L) J) G) F) B) q
theorem jY {o i e:Expr} {to ti te:TEd} {op:JT} {rd:R2d} {pos tpos:Pos} (hu:X.A.units+1 < Ij) (mo:ad to) (mi:ad ti) (me:ad te) (hr:av rd) (ho:PE X o (lE X.K to)) (hi:PE X i (lE X.K ti)) (he:PE X e (lE X.K te)) (J:OpR X (J6 op) (l2 X.K rd))
 (ha:∀ ov iv new,augStore i ov iv new=(do holding [new,ov,iv] (NJ ov iv new);release [new,ov,iv] [];pure .next)):PS X (.AugAssign (.Subscript o i tpos) op e pos) (lS X.K (jm to ti te rd)):=by
 refine PS.imp (yK ho hi ax he (tip:=l2 X.K rd) J (PSet.or mG (nK hu)) ha) fun D σ H h => ?_;obtain ⟨ρ,M,A,rs,rm,l,q⟩:=h;refine ⟨ρ,M,rs,rm,mo _ _ _ _ (fun d1 M1 q1 v1 H1 x1 j L => ?_) q⟩;have B:=rs.mono (x1.stab rm);refine ⟨ρ,M1,B,j,mi _ _ _ _ (fun d2 M2 q2 v2 H2 x2 z O => ?_) q1⟩;have U:=B.mono (x2.stab j);have F:=L.mono (x2.stab j);obtain ⟨a,ds,k,d,rfl,rfl,e3,e4,q3⟩:=q2
 cases Q6.mp F
 cases Q5.mp O
 obtain ⟨vs,Y,rv⟩:=z _ _ e3;obtain ⟨v3,Z,E3⟩:=j5 rv e4;refine ⟨a,vs,k,v3,rfl,rfl,SqL.of Y,Z, ?_⟩;refine ⟨ρ,M2,U,z,me _ _ _ _ (fun d4 M4 q4 v4 H4 x4 E4 E5 => ?_) q3⟩;refine ⟨d,d4,M4,E4,E3.mono (x4.stab z),E5,hr _ _ _ _ _ (fun d5 M5 q5 v5 H5 x5 E6 E7 => ?_) q4⟩;have G:=((x1.trans x2).trans x4).trans x5;exact nM E6 (Q6.mpr rfl) (Q5.mpr rfl) E7 q5 fun M' H' x6 E8 q6=>l.nx ρ M' σ H' (G.trans x6) (rs.mono ((G.trans x6).stab rm)) E8 q6
end
section
section
variable {X:Cx}
noncomputable def isD:D->D->Option Bool
 | x, .non=>some (match x with | .non=>true | _=>false)
 | x, .bl b=>some (match x with | .bl c=>c==b | _=>false)
 | _,_=>none
noncomputable def wL:R2d:=fun x y M Q => ∃ k,isD x y=some k/\Q (.bl (!k)) M
theorem wM:av wL:=fun _ _ _ _ _ h ⟨k,e,q⟩=>⟨k,e,h _ _ q⟩
theorem wN {M:Kv} {A:Hg} {E:gV->h7->Prop} {s:h7} {Q:gV->h7->Prop} {v:gV} {b:Bool} (j:∀ id,v ≠ .builtin id) (h:Q (.bool (!(v == .bool b))) s):Gm M A (I7 .IsNot v (.bool b)) Q E s:=by
 cases v <;> first | exact q7 h | exact absurd rfl (j _)
theorem BB {K:Frag} {H:Hp} {x y:D} {v w:V} {u t:gV} {k:Bool} (e:isD x y=some k) (rx:RD K H x v) (ry:RD K H y w) (ru:RelV v u) (rt:RelV w t):(t = .none/\(u == .none)=k) ∨ ∃ b,t = .bool b/\(u == .bool b)=k /\ ∀ id,u ≠ .builtin id:=by
 cases y with
 | non =>
   cases Qc.mp ry
   cases rt
   refine .inl ⟨rfl, ?_⟩
   cases x with
   | non=>cases Qc.mp rx;cases ru;cases e;rfl
   | bl c=>cases Q7.mp rx;cases ru;cases e;rfl
   | int i=>cases Q5.mp rx;obtain ⟨tk,rfl⟩:=ru;cases e;rfl
   | str z=>cases Qe.mp rx;obtain ⟨tk,rfl⟩:=ru;cases e;rfl
   | tup ds=>obtain ⟨a,vs,rfl,_⟩:=Qb rx;cases ru;cases e;rfl
   | con ds=>obtain ⟨a,vs,rfl,_⟩:=Q9.mp rx;cases ru;cases e;rfl
   | ref a=>cases Q6.mp rx;cases ru;cases e;rfl
   | fn z=>obtain ⟨a,rfl,_⟩:=Qm.mp rx;cases ru;cases e;rfl
 | bl b =>
   cases Q7.mp ry
   cases rt
   refine .inr ⟨b,rfl, ?_⟩
   cases x with
   | non=>cases Qc.mp rx;cases ru;cases e;exact ⟨rfl,fun _ z=>by cases z⟩
   | bl c=>cases Q7.mp rx;cases ru;cases e;exact ⟨by cases b <;> cases c <;> rfl,fun _ z=>by cases z⟩
   | int i=>cases Q5.mp rx;obtain ⟨tk,rfl⟩:=ru;cases e;exact ⟨rfl,fun _ z=>by cases z⟩
   | str z=>cases Qe.mp rx;obtain ⟨tk,rfl⟩:=ru;cases e;exact ⟨rfl,fun _ z=>by cases z⟩
   | tup ds=>obtain ⟨a,vs,rfl,_⟩:=Qb rx;cases ru;cases e;exact ⟨rfl,fun _ z=>by cases z⟩
   | con ds=>obtain ⟨a,vs,rfl,_⟩:=Q9.mp rx;cases ru;cases e;exact ⟨rfl,fun _ z=>by cases z⟩
   | ref a=>cases Q6.mp rx;cases ru;cases e;exact ⟨rfl,fun _ z=>by cases z⟩
   | fn z=>obtain ⟨a,rfl,_⟩:=Qm.mp rx;cases ru;cases e;exact ⟨rfl,fun _ z=>by cases z⟩
 | _=>cases e
theorem wP:OpR X (I7 .IsNot) (l2 X.K wL):=by
 intro pins s σ H v w u t Q I ru rt h;obtain ⟨x,y,M,rm,rx,ry,k,e,q⟩:=h;have fin:EP X pins σ Q (.bool (!k)) s:=⟨.bl (!k),H,I,rfl,q _ H Ext.refl rm (Q7.mpr rfl)⟩
 rcases BB e rx ry ru rt with ⟨rfl,e2⟩ | ⟨b,rfl,e2,nb⟩
 ·exact isnot_none_gen (by rw [e2];exact fin)
 ·exact wN nb (by rw [e2];exact fin)
noncomputable def jn (t:Bool):TEd:=fun _ M Q => ∀ p,M p=none->Q (.ref p) (af M p (.dct t []))
theorem u7 {t:Bool}:ad (jn t):=fun _ _ _ _ i q p n=>i _ _ (q p n)
theorem zC {t:Bool} {pos:Pos}:PE X (.Dict [] [] pos) (lE X.K (jn t)):=by
 cases t with
 | false =>
   refine PE.imp vU fun σ H Q ⟨ρ,M,rs,rm,q⟩ p n => ?_;exact q p (rm.out n) (.ref p) _ (Ext.lay n) (rm.lay n ⟨[],aG, .nil⟩) (Q6.mpr rfl)
 | true =>
   refine PE.imp vW fun σ H Q ⟨ρ,M,rs,rm,q⟩ p n => ?_;exact q p (rm.out n) (.ref p) _ (Ext.lay n) (rm.lay n ⟨[],aG, .nil⟩) (Q6.mpr rfl)
end
end
end Mi
end
end L2
namespace L2
namespace Srt
open PySem PySem.Spec PyProof.Rows
structure Cm (prog:GI) (w:Hf) (A:Hg) (s:h7) (kd:JX) (P:Gc->Prop) (lt:Gc->Gc->Bool):Prop where
 asym:∀ x y,lt x y=true->lt y x=false
 neg:∀ x y z,lt x z=true->lt x y=true∨lt y z=true
 run:∀ (x y:Gc) (E:gV->h7->Prop) (Q:Bool->h7->Prop),P x->P y->Q (lt x y) s->Gm (Gn prog w) A (keyLt' kd x.1 y.1) Q E s
section
variable {prog:GI} {w:Hf} {A:Hg} {E:gV->h7->Prop} {s:h7} {kd:JX} {P:Gc->Prop} {lt:Gc->Gc->Bool}
theorem aa {σ α:Type} {M:Kv} {x : α} {st : σ} {Q : α -> σ -> Prop} (q:Q x st):wpS M A E s (pure x) Q st :=
 fun _ _ _=>⟨rfl,q⟩
theorem cn {σ:Type} {M:Kv} {tag:String} {st : σ} {Q:Unit -> σ -> Prop} (q:Q () st):wpS M A E s (liftM (PySem.rule tag)) Q st :=
 wpS_lift (IC ⟨rfl,q⟩)
theorem zD {σ:Type} {M:Kv} {st st' : σ} {Q:PUnit -> σ -> Prop} (q:Q PUnit.unit st'):wpS M A E s (set st') Q st :=
 fun _ _ _=>⟨rfl,q⟩
theorem jo (c:Cm prog w A s kd P lt) {x y:Gc} {st:Hl} {Q:Option Bool->Hl->Prop} (j:HY st=kd) (hx:P x) (z:P y) (q:Q (some (lt x y)) st):wpS (Gn prog w) A E s (lt' x y) Q st:=by
 rw [lt'_eq];refine G9 (Kl ?_);refine G9 (wpS_lift ?_);rw [j];intro Γ p hp;rw [Sem.wp_attempt];exact c.run x y (fun e s'=>s'=s/\wpS (Gn prog w) A E s (do modify fun s=>IX (HY s) (GS s) (Gw s) (gallopOf s) (some e);pure none) Q st) (fun b s'=>s'=s/\wpS (Gn prog w) A E s (pure (some b)) Q st) hx z ⟨rfl,aa q⟩ Γ p hp
theorem ay {arr:Array Gc} {i:Nat} {x:Gc} {st:Hl} {Q:Gc->Hl->Prop} (h:arr[i]? = some x) (q:Q x st):wpS (Gn prog w) A E s (elem' arr i) Q st:=by
 rw [elem'_eq,h];exact aa q
theorem Cm.le_trans (c:Cm prog w A s kd P lt) {x y z:Gc} (h:lt y x=false) (h2:lt z y=false):lt z x=false:=by
 cases e:lt z x with
 | false=>rfl
 | true=>rcases c.neg z y x e with q | q <;> simp_all
theorem Cm.irr (c:Cm prog w A s kd P lt) {x:Gc}:lt x x=false:=by
 cases e:lt x x with
 | false=>rfl
 | true=>have:=c.asym x x e;rw [e] at this;exact this
theorem az {σ α:Type} {M:Kv} {m:StateT σ Sem α} {st : σ} {Q Q' : α -> σ -> Prop} (h:wpS M A E s m Q st) (q:∀ a st',Q a st'->Q' a st'):wpS M A E s m Q' st :=
 HF h (fun a s' z=>⟨z.1,q _ _ z.2⟩) fun _ _ z=>z
end
noncomputable abbrev BC:=Bool->Gc->Array Gc->Nat->Nat->Nat->StateT Hl Sem (Option Nat)
noncomputable abbrev BD:=Array Gc->Array Gc->StateT Hl Sem (Array Gc)
noncomputable def bey (lt:Gc->Gc->Bool) (left:Bool) (key x:Gc):Bool:=if left=true then lt x key else !(lt key x)
structure Same (st st':Hl):Prop where
 arr:GS st'=GS st
 kind:HY st'=HY st
 pend:Gw st'=Gw st
 fail:IK st'=IK st
def gF (prog:GI) (w:Hf) (A:Hg) (E:gV->h7->Prop) (s:h7) (kd:JX) (P:Gc->Prop) (lt:Gc->Gc->Bool) (g:BC):Prop :=
 ∀ (left:Bool) (key:Gc) (arr:Array Gc) (L xs R:List Gc) (base n hint:Nat) (st:Hl) (Q:Option Nat->Hl->Prop),HY st=kd->P key->arr.toList=L++xs++R->base=L.length->n=xs.length->(∀ x∈xs,P x)->hint < n ->
  xs.Pairwise (fun x y=>lt y x=false) ->
  (∀ X Y,xs=X++Y->(∀ x∈X,bey lt left key x=true)->(∀ x∈Y,bey lt left key x=false)->Q (some X.length) st) ->
  wpS (Gn prog w) A E s (g left key arr base n hint) Q st
def gG (prog:GI) (w:Hf) (A:Hg) (E:gV->h7->Prop) (s:h7) (kd:JX) (P:Gc->Prop) (lt:Gc->Gc->Bool) (m:BD):Prop :=
 ∀ (a b:Array Gc) (st:Hl) (Q:Array Gc->Hl->Prop),HY st=kd->(∀ x∈a.toList,P x)->(∀ x∈b.toList,P x)->0 < a.size->0 < b.size ->
  a.toList.Pairwise (fun x y=>lt y x=false)->b.toList.Pairwise (fun x y=>lt y x=false)->(∀ x y,a[0]? = some x->b[0]? = some y->lt x y=false)->(∀ x y,a[a.size - 1]? = some x->b[b.size - 1]? = some y->lt x y=false) ->
  (∀ r st',r.toList.Perm (a.toList++b.toList)->r.toList.Pairwise (fun x y=>lt y x=false)->Same st st'->Q r st') ->
  wpS (Gn prog w) A E s (m a b) Q st
section
variable {prog:GI} {w:Hf} {A:Hg} {E:gV->h7->Prop} {s:h7} {kd:JX} {P:Gc->Prop} {lt:Gc->Gc->Bool}
theorem fU (c:Cm prog w A s kd P lt) {left:Bool} {key x:Gc} {arr:Array Gc} {j:Nat} {st:Hl} {Q:Option Bool->Hl->Prop} (z:HY st=kd) (hx:P key) (B:P x) (e:arr[j]? = some x) (q:Q (some (bey lt left key x)) st) :
 wpS (Gn prog w) A E s (do
  let x <- elem' arr j
  if left=true then lt' x key else do
   let r <- lt' key x
   pure (Option.map (fun x => !x) r)) Q st:=by
 refine G9 (ay e ?_)
 cases left with
 | true=>exact jo c z B hx q
 | false=>exact G9 (jo c z hx B (aa q))
theorem nO (c:Cm prog w A s kd P lt) {left:Bool} {key x y:Gc} (h:lt y x=false) (j:bey lt left key y=true):bey lt left key x=true:=by
 unfold bey at j ⊢
 cases left with
 | true =>
   rw [if_pos rfl] at j ⊢
   rcases c.neg y x key j with q | q
   ·rw [h] at q;cases q
   ·exact q
 | false =>
   simp at j ⊢
   cases e:lt key x with
   | false=>rfl
   | true =>
     rcases c.neg key y x e with q | q
     ·rw [j] at q;cases q
     ·rw [h] at q;cases q
structure Gal (lt:Gc->Gc->Bool) (left:Bool) (key:Gc) (xs:List Gc) (lo hi:Nat):Prop where
 le:lo<=hi
 len:hi<=xs.length
 up:∀ i x,i < lo->xs[i]? = some x->bey lt left key x=true
 dn:∀ i x,hi<=i->xs[i]? = some x->bey lt left key x=false
theorem eG {xs:List Gc} {R:Gc->Gc->Prop} (h:xs.Pairwise R) {i j:Nat} {x y:Gc} (q:i < j) (hx:xs[i]? = some x) (z:xs[j]? = some y):R x y:=by
 obtain ⟨h1,e1⟩:=GB.mp hx;obtain ⟨h2,e2⟩:=GB.mp z;rw [<- e1, <- e2];exact List.pairwise_iff_getElem.mp h i j h1 h2 q
theorem gH (c:Cm prog w A s kd P lt) {left:Bool} {key:Gc} {xs:List Gc} (h:xs.Pairwise (fun x y=>lt y x=false)) {j:Nat} {y:Gc} (q:xs[j]? = some y) (z:bey lt left key y=true):∀ i x,i < j+1->xs[i]? = some x->bey lt left key x=true:=by
 intro i x hi hx
 by_cases e:i=j
 ·subst e;rw [hx] at q;cases q;exact z
 ·exact nO c (eG h (by lia) hx q) z
theorem gI (c:Cm prog w A s kd P lt) {left:Bool} {key:Gc} {xs:List Gc} (h:xs.Pairwise (fun x y=>lt y x=false)) {j:Nat} {y:Gc} (z:xs[j]? = some y) (B:bey lt left key y=false):∀ i x,j<=i->xs[i]? = some x->bey lt left key x=false:=by
 intro i x hi hx
 by_cases e:i=j
 ·subst e;rw [hx] at z;cases z;exact B
 ·cases q:bey lt left key x with
  | false=>rfl
  | true=>have:=nO c (eG h (by lia) z hx) q;rw [B] at this;cases this
theorem Gal.out {left:Bool} {key:Gc} {xs:List Gc} {k:Nat} (g:Gal lt left key xs k k):∃ X Y,xs=X++Y/\X.length=k/\(∀ x∈X,bey lt left key x=true)/\(∀ x∈Y,bey lt left key x=false):=by
 refine ⟨xs.take k,xs.drop k,(Iz k xs).symm,by rw [GZ];exact Jg g.len,fun x hx => ?_,fun x hx => ?_⟩
 ·obtain ⟨i,hi,e⟩:=HR.mp hx;rw [GZ] at hi;exact g.up i x (by lia) (by rw [List.getElem_take] at e;rw [<- e];exact tv _)
 ·obtain ⟨i,hi,e⟩:=HR.mp hx;rw [L7] at hi;refine g.dn (k+i) x (by lia) ?_
  rw [List.getElem_drop] at e;rw [<- e];exact tv _
noncomputable abbrev Ord (lt:Gc->Gc->Bool) (l:List Gc):Prop:=l.Pairwise fun x y=>lt y x=false
theorem nP {out X A' B:List Gc} (h1:Ord lt (out++(X++A'))) (h2:Ord lt (out++B)) (h:∀ x∈X, ∀ y∈B,lt y x=false):Ord lt ((out++X)++A')/\Ord lt ((out++X)++B):=by
 refine ⟨by rw [Gu];exact h1, ?_⟩
 rw [Gu];obtain ⟨j,q,F⟩:=F2.mp h1;obtain ⟨O,p2,G⟩:=F2.mp h2;obtain ⟨J,U,Y⟩:=F2.mp q;refine F2.mpr ⟨j,F2.mpr ⟨J,p2,h⟩,fun x hx y L => ?_⟩
 rcases Gy.mp L with z | z
 ·exact F x hx y (Hk _ z)
 ·exact G x hx y z
structure ML (lt:Gc->Gc->Bool) (la lb out:List Gc) (ia ib:Nat):Prop where
 pa:Ord lt (out++la.drop ia)
 pb:Ord lt (out++lb.drop ib)
 pm:(out++(la.drop ia++lb.drop ib)).Perm (la++lb)
theorem pX (c:Cm prog w A s kd P lt) {l:List Gc} {i:Nat} {x y:Gc} (h:Ord lt (l.drop i)) (j:l[i]? = some y) (hx:lt y x=false):∀ z∈l.drop i,lt z x=false:=by
 obtain ⟨hi,e⟩:=GB.mp j;rw [HX hi,e] at h ⊢;intro z B
 rcases Gj.mp B with q | q
 ·rw [q];exact hx
 ·exact c.le_trans hx ((Kq.mp h).1 z q)
theorem dB {l X Y:List Gc} {i:Nat} (e:l.drop i=X++Y):l.drop (i+X.length)=Y:=by
 rw [<- LU,e,List.drop_left]
theorem ML.galA (c:Cm prog w A s kd P lt) {la lb out X Y:List Gc} {ia ib:Nat} {y:Gc} (m:ML lt la lb out ia ib) (e:la.drop ia=X++Y) (j:lb[ib]? = some y) (h:∀ x∈X,lt y x=false):ML lt la lb (out++X) (ia+X.length) ib:=by
 have p2:=(F2.mp m.pb).2.1;have q:=nP (X:=X) (A':=Y) (by rw [<- e];exact m.pa) m.pb fun x hx=>pX c p2 j (h x hx)
 refine ⟨by rw [dB e];exact q.1,q.2, ?_⟩
 rw [dB e];refine J8.trans (JJ ?_) m.pm;rw [e];simp
theorem ML.galB (c:Cm prog w A s kd P lt) {la lb out X Y:List Gc} {ia ib:Nat} {y:Gc} (m:ML lt la lb out ia ib) (e:lb.drop ib=X++Y) (j:la[ia]? = some y) (h:∀ x∈X,lt y x=false):ML lt la lb (out++X) ia (ib+X.length):=by
 have p2:=(F2.mp m.pa).2.1;have q:=nP (X:=X) (A':=Y) (by rw [<- e];exact m.pb) m.pa fun x hx=>pX c p2 j (h x hx)
 refine ⟨q.2,by rw [dB e];exact q.1, ?_⟩
 rw [dB e];refine J8.trans ?_ m.pm;rw [e,Gu];refine H9 _ ?_;rw [<- Gu, <- Gu];exact Hw _ JP
theorem dC {l:List Gc} {i:Nat} {x:Gc} (h:l[i]? = some x):l.drop i=[x]++l.drop (i+1):=by
 obtain ⟨hi,e⟩:=GB.mp h;rw [HX hi,e];rfl
theorem ML.pushA (c:Cm prog w A s kd P lt) {la lb out:List Gc} {ia ib:Nat} {x y:Gc} (m:ML lt la lb out ia ib) (hx:la[ia]? = some x) (j:lb[ib]? = some y) (h:lt y x=false):ML lt la lb (out++[x]) (ia+1) ib :=
 m.galA c (dC hx) j (by simpa using h)
theorem ML.pushB (c:Cm prog w A s kd P lt) {la lb out:List Gc} {ia ib:Nat} {x y:Gc} (m:ML lt la lb out ia ib) (hx:la[ia]? = some x) (j:lb[ib]? = some y) (h:lt x y=false):ML lt la lb (out++[y]) ia (ib+1) :=
 m.galB c (dC j) hx (by simpa using h)
def Res (lt:Gc->Gc->Bool) (la lb r:List Gc):Prop:=r.Perm (la++lb)/\Ord lt r
theorem ML.fin {la lb out:List Gc} {ia ib:Nat} (m:ML lt la lb out ia ib) (h:lb.length<=ib):Res lt la lb (out++la.drop ia++lb.drop ib):=by
 rw [Io h,HU];refine ⟨?_,m.pa⟩;have:=m.pm;rw [Io h,HU] at this;exact this
theorem ML.finE {la lb out:List Gc} {ia ib:Nat} (m:ML lt la lb out ia ib) (h:la.length<=ia):Res lt la lb (out++la.drop ia++lb.drop ib):=by
 rw [Io h,HU];refine ⟨?_,m.pb⟩;have:=m.pm;rw [Io h,Ls] at this;exact this
theorem ML.finA {la lb out:List Gc} {ia ib:Nat} (m:ML lt la lb out ia ib) (h:∀ x∈lb, ∀ y∈la.drop ia,lt y x=false):Res lt la lb (out++lb.drop ib++la.drop ia):=by
 refine ⟨?_, ?_⟩
 ·refine J8.trans ?_ m.pm;rw [Gu];exact H9 _ JP
 ·obtain ⟨F,q,B⟩:=F2.mp m.pa;refine F2.mpr ⟨m.pb,q,fun x hx y j => ?_⟩
  rcases Gy.mp hx with z | z
  ·exact B x z y j
  ·exact h x (Lm z) y j
theorem ML.size {la lb out:List Gc} {ia ib:Nat} (m:ML lt la lb out ia ib) (j:ia<=la.length) (q:ib<=lb.length):out.length=ia+ib:=by
 have:=m.pm.length_eq;simp only [D2,L7] at this;lia
theorem ax {a:Array Gc} {i:Nat} (h:i < a.size):∃ x,a[i]? = some x/\a.toList[i]? = some x/\x∈a.toList:=by
 refine ⟨a[i],Hj h, ?_,Array.getElem_mem_toList h⟩;rw [GC];exact Hj h
theorem bn {a:Array Gc} {i:Nat}:(a.extract i).toList=a.toList.drop i:=by
 rw [IM];simp only [KQ];exact Ip (by simp)
theorem zE {a:Array Gc} {i:Nat} {X Y:List Gc} (e:a.toList.drop i=X++Y):(a.extract i (i+X.length)).toList=X:=by
 rw [IM];simp [KQ,e]
theorem Same.refl {st:Hl}:Same st st:=⟨rfl,rfl,rfl,rfl⟩
theorem Same.trans {a b c:Hl} (h:Same a b) (g:Same b c):Same a c:=⟨g.arr.trans h.arr,g.kind.trans h.kind,g.pend.trans h.pend,g.fail.trans h.fail⟩
theorem lf {O Y A' B:List Gc} (h1:Ord lt (A'++(Y++O))) (h2:Ord lt (B++O)) (h:∀ y∈Y, ∀ x∈B,lt y x=false):Ord lt (B++(Y++O)):=by
 obtain ⟨J,j,L⟩:=F2.mp h1;obtain ⟨q,p2,F⟩:=F2.mp h2;refine F2.mpr ⟨q,j,fun x hx y G => ?_⟩
 rcases Gy.mp G with z | z
 ·exact h y z x hx
 ·exact F x hx y z
structure MH (lt:Gc->Gc->Bool) (la lb out:List Gc) (na nb:Nat):Prop where
 pa:Ord lt (la.take na++out.reverse)
 pb:Ord lt (lb.take nb++out.reverse)
 pm:(la.take na++lb.take nb++out.reverse).Perm (la++lb)
theorem gJ (c:Cm prog w A s kd P lt) {l:List Gc} {n:Nat} {x y:Gc} (h:Ord lt (l.take n)) (G : 0 < n) (B:l[n - 1]? = some y) (hx:lt x y=false):∀ z∈l.take n,lt x z=false:=by
 intro z F;obtain ⟨i,hi,e⟩:=HR.mp F;have j:(l.take n)[i]? = some z:=by rw [<- e];exact tv hi
 have q:(l.take n)[n - 1]? = some y:=by rw [Ke (by lia)];exact B
 rw [GZ] at hi
 by_cases hin:i=n - 1
 ·subst hin;rw [q] at j;cases j;exact hx
 ·exact c.le_trans (eG h (by lia) j q) hx
theorem dD {l X Y:List Gc} {n:Nat} (e:l.take n=X++Y):l.take X.length=X:=by
 have h:X.length<=n:=by
  have:=congrArg Kz e;simp only [GZ,D2] at this;lia
 have h2:(l.take n).take X.length=X:=by rw [e,List.take_left]
 rw [List.take_take,Jg h] at h2;exact h2
theorem MH.galA (c:Cm prog w A s kd P lt) {la lb out X Y:List Gc} {na nb:Nat} {y:Gc} (m:MH lt la lb out na nb) (e:la.take na=X++Y) (j : 0 < nb) (z:lb[nb - 1]? = some y) (h:∀ x∈Y,lt x y=false):MH lt la lb (out++Y.reverse) X.length nb:=by
 have p2:=(F2.mp m.pb).1;have h1:Ord lt (X++(Y++out.reverse)):=by rw [<- Gu, <- e];exact m.pa
 have q:=lf h1 m.pb fun x hx=>gJ c p2 j z (h x hx);refine ⟨by rw [dD e];simpa using h1,by simpa using q, ?_⟩
 rw [dD e];refine J8.trans ?_ m.pm;rw [e];simp only [List.reverse_append,NA,Gu];refine H9 _ ?_;rw [<- Gu, <- Gu];exact Hw _ JP
theorem MH.galB (c:Cm prog w A s kd P lt) {la lb out X Y:List Gc} {na nb:Nat} {y:Gc} (m:MH lt la lb out na nb) (e:lb.take nb=X++Y) (j : 0 < na) (z:la[na - 1]? = some y) (h:∀ x∈Y,lt x y=false):MH lt la lb (out++Y.reverse) na X.length:=by
 have p2:=(F2.mp m.pa).1;have h1:Ord lt (X++(Y++out.reverse)):=by rw [<- Gu, <- e];exact m.pb
 have q:=lf h1 m.pa fun x hx=>gJ c p2 j z (h x hx);refine ⟨by simpa using q,by rw [dD e];simpa using h1, ?_⟩
 rw [dD e];refine J8.trans (JJ ?_) m.pm;rw [e];simp
theorem cq {l:List Gc} {n:Nat} {x:Gc} (j : 0 < n) (h:l[n - 1]? = some x):l.take n=l.take (n - 1)++[x]:=by
 obtain ⟨k,rfl⟩:∃ k,n=k+1:=⟨n - 1,by lia⟩
 rw [Nat.add_sub_cancel] at h ⊢;rw [OB,h];rfl
theorem pY {l:List Gc} {n:Nat} {x:Gc} (j : 0 < n) (h:l[n - 1]? = some x):(l.take (n - 1)).length=n - 1:=by
 obtain ⟨hi,_⟩:=GB.mp h;rw [GZ];lia
theorem MH.pushA (c:Cm prog w A s kd P lt) {la lb out:List Gc} {na nb:Nat} {x y:Gc} (m:MH lt la lb out na nb) (j : 0 < na) (z : 0 < nb) (hx:la[na - 1]? = some x) (B:lb[nb - 1]? = some y) (h:lt x y=false):MH lt la lb (out++[x]) (na - 1) nb:=by
 have q:=m.galA c (cq j hx) z B (by simpa using h)
 rw [pY j hx] at q;simpa using q
theorem MH.pushB (c:Cm prog w A s kd P lt) {la lb out:List Gc} {na nb:Nat} {x y:Gc} (m:MH lt la lb out na nb) (B : 0 < na) (j : 0 < nb) (hx:la[na - 1]? = some x) (z:lb[nb - 1]? = some y) (h:lt y x=false):MH lt la lb (out++[y]) na (nb - 1):=by
 have q:=m.galB c (cq j z) B hx (by simpa using h)
 rw [pY j z] at q;simpa using q
theorem MH.fin {la lb out:List Gc} {na nb:Nat} (m:MH lt la lb out na nb) (h:na=0∨nb=0):Res lt la lb (la.take na++lb.take nb++out.reverse):=by
 refine ⟨m.pm, ?_⟩
 rcases h with rfl | rfl
 ·simpa using m.pb
 ·simpa using m.pa
theorem MH.finB {la lb out:List Gc} {na nb:Nat} (m:MH lt la lb out na nb) (h:∀ x∈lb.take nb, ∀ y∈la,lt y x=false):Res lt la lb (lb.take nb++la.take na++out.reverse):=by
 refine ⟨J8.trans (Hw _ JP) m.pm, ?_⟩;obtain ⟨j,F,q⟩:=F2.mp m.pb;rw [Gu];refine F2.mpr ⟨j,m.pa,fun x hx y B => ?_⟩
 rcases Gy.mp B with z | z
 ·exact h x hx y (Ln z)
 ·exact q x hx y z
theorem MH.size {la lb out:List Gc} {na nb:Nat} (m:MH lt la lb out na nb) (j:na<=la.length) (q:nb<=lb.length):out.length+na+nb=la.length+lb.length:=by
 have:=m.pm.length_eq;simp only [D2,GZ,NR] at this;lia
theorem dR {a:Array Gc}:a.toList.take a.size=a.toList:=Ip (by simp)
theorem aZ {a:Array Gc} {i:Nat}:(a.extract 0 i).toList=a.toList.take i:=by
 rw [IM];simp [KQ]
theorem wQ {a:Array Gc} {n:Nat} {X Y:List Gc} (e:a.toList.take n=X++Y):(a.extract X.length n).toList=Y:=by
 rw [IM];simp only [KQ];rw [<- List.drop_take,e,List.drop_left]
theorem wR:∀ (m old L R:List Gc) (a:Array Gc),a.toList=L++old++R->m.length=old.length->(L8 (fun a x=>a.setIfInBounds (L.length+x.snd) x.fst) a m.zipIdx).toList=L++m++R:=by
 have g:∀ (m old L R:List Gc) (k:Nat) (a:Array Gc),a.toList=L++old++R->m.length=old.length -> ∀ b:Nat,b+k=L.length->(L8 (fun a x=>a.setIfInBounds (b+x.snd) x.fst) a (m.zipIdx k)).toList=L++m++R:=by
  intro m
  induction m with
  | nil =>
    intro old L R k a e h b j;have:old=[]:=Hh.mp h.symm;subst this;simpa using e
  | cons x m ih =>
    intro old L R k a e h b j
    cases old with
    | nil=>simp at h
    | cons y old =>
      rw [Mu,N7];have e2:(a.setIfInBounds (b+k) x).toList=(L++[x])++old++R:=by
       rw [LV,e,j];simp
      have:=ih old (L++[x]) R (k+1) _ e2 (by simpa using h) b (by simp;lia)
      rw [this];simp
 exact fun m old L R a e h=>g m old L R 0 a e h L.length (by lia)
theorem ae {σ α:Type} {M:Kv} {p:Prop} [Decidable p] {j q:StateT σ Sem α} {st : σ} {Q : α -> σ -> Prop} (h1:p->wpS M A E s j Q st) (h2 : ¬p->wpS M A E s q Q st):wpS M A E s (if p then j else q) Q st:=by
 split
 ·next h=>exact h1 h
 ·next h=>exact h2 h
theorem ML.cut {a out:Array Gc} {la lb X Y:List Gc} {i j n:Nat} (m:ML lt la lb (out.toList++X) i j) (e:a.toList.drop n=X++Y):ML lt la lb (out++a.extract n (n+X.length)).toList i j:=by
 rw [Gp,zE e];exact m
theorem MH.cut {a out:Array Gc} {la lb X Y:List Gc} {i j n:Nat} (m:MH lt la lb (out.toList++Y.reverse) i j) (e:a.toList.take n=X++Y):MH lt la lb (out++(a.extract X.length n).reverse).toList i j:=by
 rw [Gp,He,wQ e];exact m
theorem u8 {σ α:Type} {M:Kv} {m:StateT σ Sem α} {st : σ} {Q : α -> σ -> Prop} {P : σ -> Prop} (j:P st) (h:∀ st',P st'->wpS M A E s m Q st'):wpS M A E s m Q st:=h st j
theorem ye {σ α:Type} {M:Kv} {m:StateT σ Sem α} {st : σ} {Q : α -> σ -> Prop} (h:∀ Q' : α -> σ -> Prop,(∀ a st',Q a st'->Q' a st')->wpS M A E s m Q' st):wpS M A E s m Q st:=h Q fun _ _ h=>h
theorem yf {key x:Gc} (h:bey lt false key x=true):lt key x=false:=by simpa [bey] using h
theorem u9 {key x:Gc} (h:bey lt false key x=false):lt key x=true:=by simpa [bey] using h
theorem yg {key x:Gc} (h:bey lt true key x=true):lt x key=true:=by simpa [bey] using h
theorem ua {key x:Gc} (h:bey lt true key x=false):lt x key=false:=by simpa [bey] using h
theorem nQ {l X Y:List Gc} {i:Nat} {x:Gc} (e:l.drop i=X++Y) (h:l[i+X.length]? = some x):x∈Y:=by
 rw [<- dB e,dC h];simp
theorem nR {l X Y:List Gc} {n:Nat} {x:Gc} (e:l.take n=X++Y) (h0 : 0 < X.length) (h:l[X.length - 1]? = some x):x∈X:=by
 have:=cq h0 h;rw [dD e] at this;rw [this];simp
theorem nS {a:Array Gc} {X Y:List Gc} {i:Nat} (e:a.toList.drop i=X++Y):X.length<=a.size - i:=by
 have:=congrArg Kz e;simp at this;lia
theorem lg {a:Array Gc} {X Y:List Gc} {n:Nat} (e:a.toList.take n=X++Y) (h:n<=a.size):X.length+Y.length=n:=by
 have:=congrArg Kz e;simp at this;lia
theorem eW {a:Array Gc} {n:Nat} (h:n<=a.size):n=(a.toList.take n).length:=by simp;lia
theorem ML.finR {a b out:Array Gc} {ia ib:Nat} (m:ML lt a.toList b.toList out.toList ia ib) (h:b.size<=ib):Res lt a.toList b.toList (out++a.extract ia++b.extract ib).toList:=by
 have:=m.fin (by simpa using h)
 simpa only [Gp,bn] using this
theorem ML.finS {a b out:Array Gc} {ia ib:Nat} (m:ML lt a.toList b.toList out.toList ia ib) (h:a.size<=ia):Res lt a.toList b.toList (out++a.extract ia++b.extract ib).toList:=by
 have:=m.finE (by simpa using h)
 simpa only [Gp,bn] using this
theorem ML.finL {a b out:Array Gc} {ia ib:Nat} (m:ML lt a.toList b.toList out.toList ia ib) (h:∀ x∈b.toList, ∀ y∈a.toList.drop ia,lt y x=false):Res lt a.toList b.toList (out++b.extract ib++a.extract ia).toList:=by
 have:=m.finA h;simpa only [Gp,bn] using this
theorem MH.finR {a b out:Array Gc} {na nb:Nat} (m:MH lt a.toList b.toList out.toList na nb) (h:∀ x∈b.toList.take nb, ∀ y∈a.toList,lt y x=false):Res lt a.toList b.toList (b.extract 0 nb++a.extract 0 na++out.reverse).toList:=by
 have:=m.finB h;simpa only [Gp,He,aZ] using this
theorem MH.finL {a b out:Array Gc} {na nb:Nat} (m:MH lt a.toList b.toList out.toList na nb) (h:na=0∨nb=0):Res lt a.toList b.toList (a.extract 0 na++b.extract 0 nb++out.reverse).toList:=by
 have:=m.fin h;simpa only [Gp,He,aZ] using this
theorem D4 (c:Cm prog w A s kd P lt) :
 ∃ (g:BC) (lo hi:BD),(gF prog w A E s kd P lt g/\(gF prog w A E s kd P lt g->gG prog w A E s kd P lt lo)/\(gF prog w A E s kd P lt g->gG prog w A E s kd P lt hi))/\(gF prog w A E s kd P lt g->gG prog w A E s kd P lt lo->gG prog w A E s kd P lt hi ->
  ∀ (i sa na pa sb nb pb:Nat) (L r1 r2 R:List Gc) (st:Hl) (Q:Bool->Hl->Prop),HY st=kd->IK st=none->(Gw st)[i]? = some (sa,na,pa)->(Gw st)[i+1]? = some (sb,nb,pb) ->
   (GS st).toList=L++(r1++r2)++R->sa=L.length->na=r1.length->sb=L.length+r1.length->nb=r2.length->r1≠[]->r2≠[]->(∀ x∈r1,P x)->(∀ x∈r2,P x)->Ord lt r1->Ord lt r2 ->
   (∀ m st',(GS st').toList=L++m++R->m.Perm (r1++r2)->Ord lt m->HY st'=kd->IK st'=none->Gw st'=((Gw st).setIfInBounds i (sa,na+nb,pa)).eraseIdxIfInBounds (i+1)->Q true st') ->
   wpS (Gn prog w) A E s (PJ i) Q st):=by
 apply OC;apply OC;apply OC;apply L9
 rotate_left
 ·intro hg FR FS i sa na pa sb nb pb L r1 r2 R st Q hk hf h1 h2 Z Fk EI Fl EY FT FU Fu Fv o1 o2 q;unfold PJ;refine G9 (Kl ?_);rw [h1,h2];dsimp only;refine G9 (zD ?_);obtain ⟨y0,t2,rfl⟩:∃ y t,r2=y::t:=by cases r2 with | nil=>exact absurd rfl FU | cons y t=>exact ⟨y,t,rfl⟩
  have hz:(GS st)[sb]? = some y0:=by
   rw [<- GC,Z,Fl];simp
  refine G9 (ay hz ?_);refine G9 (hg false y0 (GS st) L r1 (y0::t2++R) sa na 0 _ _ hk (Fv _ (by simp)) (by rw [Z];simp) Fk EI Fu (by rw [EI];exact Hs.mpr FT) o1 fun X Y e hX hY => ?_)
  dsimp only;have lX:∀ x∈X,lt y0 x=false:=fun x hx=>by have:=hX x hx;simpa [bey] using this
  have lY:∀ x∈Y,lt x y0=false:=fun x hx=>c.asym _ _ (by have:=hY x hx;simpa [bey] using this)
  have hlen:na - X.length=Y.length:=by rw [EI,e];simp
  subst e;obtain ⟨oX,oY,oXY⟩:=F2.mp o1;have oy:=Kq.mp o2;have Fm:∀ x∈X, ∀ z∈y0::t2,lt z x=false:=fun x hx z hz=>by
   rcases Gj.mp hz with h | h
   ·rw [h];exact lX x hx
   ·exact c.le_trans (lX x hx) (oy.1 z h)
  refine ae (fun h => ?_) (fun h => ?_)
  ·have Fn:Y=[]:=Hh.mp (by rw [<- hlen];simpa using h)
   subst Fn;refine aa (q (X++(y0::t2)) _ (by simpa using Z) (by simp) ?_ hk hf rfl)
   exact F2.mpr ⟨oX,o2,Fm⟩
  ·have Fn : 0 < Y.length:=by
    have:na - X.length≠0:=by simpa using h
    lia
   obtain ⟨Y0,xl,rfl⟩:∃ Y0 xl,Y=Y0++[xl]:=⟨Y.dropLast,Y.getLast (by intro z;rw [z] at Fn;simp at Fn),(IY _).symm⟩
   have FV:(GS st)[sa+X.length+(na - X.length) - 1]? = some xl:=by
    rw [<- GC,Z,hlen,Fk];simp only [Gu,D2,I8];rw [z4 (by lia),z4 (by lia),z4 (by lia)]
    rw [show L.length+X.length+(Y0.length+1) - 1 - L.length - X.length - Y0.length=0 by lia];rfl
   refine G9 (ay FV ?_);refine G9 (hg true xl (GS st) (L++(X++(Y0++[xl]))) (y0::t2) R sb nb (nb - 1) _ _ hk (Fu _ (by simp)) (by rw [Z];simp) (by rw [Fl];simp) EY Fv (by rw [EY];simp) o2 fun X2 Y2 e2 EJ EK => ?_)
   dsimp only;have FW:∀ x∈X2,lt xl x=false:=fun x hx=>c.asym _ _ (by have:=EJ x hx;simpa [bey] using this)
   have FF:∀ x∈Y2,lt x xl=false:=fun x hx=>by have:=EK x hx;simpa [bey] using this
   have FX:Ord lt (X2++Y2):=by rw [<- e2];exact o2
   obtain ⟨FY,FZ,FG⟩:=F2.mp FX;obtain ⟨G7,_,oYl⟩:=F2.mp oY;have lYY:∀ x∈Y0++[xl], ∀ z∈Y2,lt z x=false:=fun x hx z hz=>by
    rcases Gy.mp hx with h | h
    ·exact c.le_trans (oYl x h xl (by simp)) (FF z hz)
    ·simp at h;subst h;exact FF z hz
   refine ae (fun h => ?_) (fun h => ?_)
   ·have EC:X2=[]:=Hh.mp (by simpa using h)
    subst EC;have e2:y0::t2=Y2:=by simpa using e2
    refine aa (q (X++(Y0++[xl])++(y0::t2)) _ (by simpa using Z) (KR _) ?_ hk hf rfl)
    refine F2.mpr ⟨o1,o2,fun x hx z hz => ?_⟩
    rcases Gy.mp hx with g | g
    ·exact Fm x g z hz
    ·exact lYY x g z (by rw [<- e2];exact hz)
   ·have EC:X2≠[]:=fun z=>h (by rw [z];rfl)
    have hx:((GS st).extract (sa+X.length) sb).toList=Y0++[xl]:=by
     rw [IM,Z,Fk,Fl];simp only [KQ];have e1:(L++(X++(Y0++[xl])++y0::t2)++R).drop (L.length+X.length)=(Y0++[xl])++(y0::t2++R):=by
      rw [<- LU];simp
     rw [e1,show L.length+(X++(Y0++[xl])).length - (L.length+X.length)=(Y0++[xl]).length by simp only [D2];lia,List.take_left]
    have hy:((GS st).extract sb (sb+X2.length)).toList=X2:=by
     rw [IM,Z,Fl];simp only [KQ];have e1:(L++(X++(Y0++[xl])++y0::t2)++R).drop (L.length+(X++(Y0++[xl])).length)=(y0::t2)++R:=by
      rw [<- LU];simp
     rw [e1,e2];simp
    have G:∀ (r:Array Gc) (E6:Hl),r.toList.Perm ((Y0++[xl])++X2)->Ord lt r.toList->Same (PyProof.Rows.SortSt.mk' (HY st) (GS st) (((Gw st).setIfInBounds i (sa,na+nb,pa)).eraseIdxIfInBounds (i+1)) (gallopOf st) (IK st)) E6 -> ∀ E3:Hl,GS E3=L8 (fun a x=>a.setIfInBounds (sa+X.length+x.snd) x.fst) (GS E6) r.toList.zipIdx->HY E3=HY E6->IK E3=IK E6->Gw E3=Gw E6->Q (IK E3).isNone E3:=by
     intro r E6 hp ho hs E3 g1 g2 g3 g4;have FH:IK E3=none:=g3.trans (hs.fail.trans hf);rw [FH];refine q (X++r.toList++Y2) E3 ?_ ?_ ?_ (g2.trans (hs.kind.trans hk)) FH (g4.trans hs.pend)
     ·rw [g1,hs.arr];have e3:(GS st).toList=(L++X)++((Y0++[xl])++X2)++(Y2++R):=by
       rw [Z,e2];simp
      rw [show sa+X.length=(L++X).length by rw [Fk];simp]
      rw [wR _ _ _ _ _ e3 (hp.length_eq)];simp
     ·rw [e2];refine J8.trans (Hw _ (H9 _ hp)) ?_;simp
     ·refine F2.mpr ⟨F2.mpr ⟨oX,ho,fun x hx z hz => ?_⟩,FZ,fun x hx z hz => ?_⟩
      ·rcases Gy.mp (hp.mem_iff.mp hz) with g | g
       ·exact oXY x hx z g
       ·exact Fm x hx z (by rw [e2];exact Hk _ g)
      ·rcases Gy.mp hx with g | g
       ·exact Fm x g z (by rw [e2];exact GA _ hz)
       ·rcases Gy.mp (hp.mem_iff.mp g) with g | g
        ·exact lYY x g z hz
        ·exact FG x g z hz
    have Fs:∀ x y,((GS st).extract (sa+X.length) sb)[0]? = some x->((GS st).extract sb (sb+X2.length))[0]? = some y->lt x y=false:=by
     intro x y Eu EZ;rw [<- GC,hx] at Eu;rw [<- GC,hy] at EZ;have F1:=Hc Eu;have:y=y0:=by
      cases X2 with
      | nil=>exact absurd rfl EC
      | cons z t=>simp at e2 EZ;rw [<- EZ, <- e2.1]
     subst this;exact lY x F1
    have preL:∀ x y,((GS st).extract (sa+X.length) sb)[((GS st).extract (sa+X.length) sb).size - 1]? = some x->((GS st).extract sb (sb+X2.length))[((GS st).extract sb (sb+X2.length)).size - 1]? = some y->lt x y=false:=by
     intro x y Eu EZ;rw [<- GC, <- GD,hx] at Eu;rw [<- GC, <- GD,hy] at EZ;have Ev:=Hc EZ;have:x=xl:=by simp at Eu;exact Eu.symm
     subst this;exact FW y Ev
    have FI : 0 < ((GS st).extract (sa+X.length) sb).size:=by rw [<- GD,hx];simp
    have FJ : 0 < ((GS st).extract sb (sb+X2.length)).size:=by rw [<- GD,hy];exact Hs.mpr EC
    have FK:∀ x∈((GS st).extract (sa+X.length) sb).toList,P x:=by rw [hx];exact fun x hx=>Fu x (GA _ hx)
    have FL:∀ x∈((GS st).extract sb (sb+X2.length)).toList,P x:=by rw [hy];exact fun x hx=>Fv x (by rw [e2];exact Hk _ hx)
    have FM:Ord lt ((GS st).extract (sa+X.length) sb).toList:=by rw [hx];exact oY
    have FN:Ord lt ((GS st).extract sb (sb+X2.length)).toList:=by rw [hy];exact FY
    refine ae (fun h => ?_) (fun h => ?_)
    ·refine G9 (FR _ _ _ _ hk FK FL FI FJ FM FN Fs preL fun r E6 hp ho hs => ?_);rw [hx,hy] at hp;refine G9 (ID ?_);refine G9 (Kl ?_);exact aa (G r E6 hp ho hs _ rfl rfl rfl rfl)
    ·refine G9 (FS _ _ _ _ hk FK FL FI FJ FM FN Fs preL fun r E6 hp ho hs => ?_);rw [hx,hy] at hp;refine G9 (ID ?_);refine G9 (Kl ?_);exact aa (G r E6 hp ho hs _ rfl rfl rfl rfl)
 apply L9
 ·intro left key arr L xs R base n hint st Q hk ED Z Fw hn hP hh hs q;subst Fw hn;have at_:∀ i,i < xs.length -> ∃ x,xs[i]? = some x/\arr[L.length+i]? = some x/\P x:=by
   intro i hi;refine ⟨xs[i],tv hi, ?_,hP _ (K0 _)⟩;rw [<- GC,Z,Gu,z4 (by lia),Gs (by lia)]
   rw [show L.length+i - L.length=i by lia]
   exact tv hi
  obtain ⟨x0,Eu,F3,G0⟩:=at_ hint hh;refine G9 (fU c hk ED G0 F3 ?_)
  try dsimp only
  refine ae (fun hb => ?_) (fun hb => ?_)
  ·skip
   refine G9 (az (Q:=fun r st'=>st'=st /\ ∃ la ofs,r=(none,la,ofs)/\hint+la < xs.length/\la < ofs/\(∀ j x,j < hint+la+1->xs[j]? = some x->bey lt left key x=true)/\(xs.length<=hint+ofs ∨ ∀ j x,hint+ofs<=j->xs[j]? = some x->bey lt left key x=false))
    (Hn (fun i r st'=>st'=st /\ ∃ la ofs,r=(none,la,ofs)/\hint+la < xs.length/\la < ofs/\i+1<=ofs/\(∀ j x,j < hint+la+1->xs[j]? = some x->bey lt left key x=true)) ?_ ?_ ⟨rfl,0,1,rfl,hh,by lia,by lia,gH c hs Eu hb⟩) ?_)
   ·rintro i r st' _ hi ⟨rfl,la,ofs,rfl,h1,h2,h3,h4⟩
    try dsimp only
    refine ae (fun EL => ?_) (fun EL => ?_)
    ·exact aa ⟨rfl,la,ofs,rfl,h1,h2,h4, .inl (by lia)⟩
    ·skip
     obtain ⟨x1,Eo,EM,EN⟩:=at_ (hint+ofs) (by lia)
     refine G9 (fU c hk ED EN EM ?_)
     try dsimp only
     refine ae (fun hf => ?_) (fun hf => ?_)
     ·exact aa ⟨rfl,la,ofs,rfl,h1,h2,h4, .inr (gI c hs Eo (by simpa using hf))⟩
     ·exact aa ⟨rfl,ofs,2*ofs+1,rfl,by lia,by lia,by lia,gH c hs Eo (by simpa using hf)⟩
   ·rintro r st' ⟨rfl,la,ofs,rfl,h1,h2,h3,h4⟩;exact ⟨rfl,la,ofs,rfl,h1,h2,h4, .inl (by lia)⟩
   ·rintro r st' ⟨rfl,la,ofs,rfl,h1,h2,h3,h4⟩
    try dsimp only
    have hG:Gal lt left key xs (hint+la+1) (hint+min ofs (xs.length - hint)):=by
     refine ⟨by lia,by lia,h3,fun i x hi hx => ?_⟩
     have G8:i < xs.length:=(GB.mp hx).1
     rcases h4 with h4 | h4
     ·lia
     ·exact h4 i x (by lia) hx
    generalize hint+la+1=lo at hG;generalize hint+min ofs (xs.length - hint)=hi at hG;refine G9 (az (Q:=fun r st''=>st''=st' /\ ∃ k,r=(none,k,k)/\Gal lt left key xs k k)
     (Hn (fun i r st''=>st''=st' /\ ∃ lo hi,r=(none,lo,hi)/\Gal lt left key xs lo hi/\hi - lo+i<=xs.length) ?_ ?_ ⟨rfl,lo,hi,rfl,hG,by have:=hG.len;lia⟩) ?_)
    ·rintro i r st'' _ hi ⟨rfl,lo,hi,rfl,hG,hm⟩
     try dsimp only
     have hl:=hG.le;have F4:=hG.len;refine ae (fun EL => ?_) (fun EL => ?_)
     ·exact aa ⟨rfl,hi,by rw [show lo=hi by lia],by rw [show lo=hi by lia] at hG;exact hG⟩
     ·skip
      obtain ⟨x1,Eo,EM,EN⟩:=at_ (lo+(hi - lo) / 2) (by lia)
      refine G9 (fU c hk ED EN EM ?_)
      try dsimp only
      refine ae (fun hf => ?_) (fun hf => ?_)
      ·exact aa ⟨rfl,_,_,rfl,⟨by lia,F4,gH c hs Eo hf,hG.dn⟩,by lia⟩
      ·exact aa ⟨rfl,_,_,rfl,⟨by lia,by lia,hG.up,gI c hs Eo (by simpa using hf)⟩,by lia⟩
    ·rintro r st'' ⟨rfl,lo,hi,rfl,hG,hm⟩;have hl:=hG.le;exact ⟨rfl,hi,by rw [show lo=hi by lia],by rw [show lo=hi by lia] at hG;exact hG⟩
    ·rintro r st'' ⟨rfl,k,rfl,hG⟩;obtain ⟨X,Y,e,hl,hX,hY⟩:=hG.out;subst hl;exact aa (q X Y e hX hY)
  ·skip
   refine G9 (az (Q:=fun r st'=>st'=st /\ ∃ la ofs,r=(none,la,ofs)/\la<=hint/\la < ofs/\(∀ j x,hint - la<=j->xs[j]? = some x->bey lt left key x=false)/\(hint < ofs ∨ ∀ j x,j < hint - ofs+1->xs[j]? = some x->bey lt left key x=true))
    (Hn (fun i r st'=>st'=st /\ ∃ la ofs,r=(none,la,ofs)/\la<=hint/\la < ofs/\i+1<=ofs/\(∀ j x,hint - la<=j->xs[j]? = some x->bey lt left key x=false)) ?_ ?_ ⟨rfl,0,1,rfl,by lia,by lia,by lia,gI c hs Eu (by simpa using hb)⟩) ?_)
   ·rintro i r st' _ hi ⟨rfl,la,ofs,rfl,h1,h2,h3,h4⟩
    try dsimp only
    refine ae (fun EL => ?_) (fun EL => ?_)
    ·exact aa ⟨rfl,la,ofs,rfl,h1,h2,h4, .inl (by lia)⟩
    ·skip
     obtain ⟨x1,Eo,EM,EN⟩:=at_ (hint - ofs) (by lia)
     refine G9 (fU c hk ED EN EM ?_)
     try dsimp only
     refine ae (fun hf => ?_) (fun hf => ?_)
     ·exact aa ⟨rfl,la,ofs,rfl,h1,h2,h4, .inr (gH c hs Eo hf)⟩
     ·exact aa ⟨rfl,ofs,2*ofs+1,rfl,by lia,by lia,by lia,gI c hs Eo (by simpa using hf)⟩
   ·rintro r st' ⟨rfl,la,ofs,rfl,h1,h2,h3,h4⟩;exact ⟨rfl,la,ofs,rfl,h1,h2,h4, .inl (by lia)⟩
   ·rintro r st' ⟨rfl,la,ofs,rfl,h1,h2,h3,h4⟩
    try dsimp only
    have hG:Gal lt left key xs (hint+1 - min ofs (hint+1)) (hint - la):=by
     refine ⟨by lia,by lia,fun i x hi hx => ?_,h3⟩
     rcases h4 with h4 | h4
     ·lia
     ·exact h4 i x (by lia) hx
    generalize hint+1 - min ofs (hint+1)=lo at hG;generalize hint - la=hi at hG;refine G9 (az (Q:=fun r st''=>st''=st' /\ ∃ k,r=(none,k,k)/\Gal lt left key xs k k)
     (Hn (fun i r st''=>st''=st' /\ ∃ lo hi,r=(none,lo,hi)/\Gal lt left key xs lo hi/\hi - lo+i<=xs.length) ?_ ?_ ⟨rfl,lo,hi,rfl,hG,by have:=hG.len;lia⟩) ?_)
    ·rintro i r st'' _ hi ⟨rfl,lo,hi,rfl,hG,hm⟩
     try dsimp only
     have hl:=hG.le;have F4:=hG.len;refine ae (fun EL => ?_) (fun EL => ?_)
     ·exact aa ⟨rfl,hi,by rw [show lo=hi by lia],by rw [show lo=hi by lia] at hG;exact hG⟩
     ·skip
      obtain ⟨x1,Eo,EM,EN⟩:=at_ (lo+(hi - lo) / 2) (by lia)
      refine G9 (fU c hk ED EN EM ?_)
      try dsimp only
      refine ae (fun hf => ?_) (fun hf => ?_)
      ·exact aa ⟨rfl,_,_,rfl,⟨by lia,F4,gH c hs Eo hf,hG.dn⟩,by lia⟩
      ·exact aa ⟨rfl,_,_,rfl,⟨by lia,by lia,hG.up,gI c hs Eo (by simpa using hf)⟩,by lia⟩
    ·rintro r st'' ⟨rfl,lo,hi,rfl,hG,hm⟩;have hl:=hG.le;exact ⟨rfl,hi,by rw [show lo=hi by lia],by rw [show lo=hi by lia] at hG;exact hG⟩
    ·rintro r st'' ⟨rfl,k,rfl,hG⟩;obtain ⟨X,Y,e,hl,hX,hY⟩:=hG.out;subst hl;exact aa (q X Y e hX hY)
 apply L9
 ·intro hg a b st Q hk EO EQ Fo Fp sa sb F5 F6 q;refine G9 (cn ?_);obtain ⟨b0,Fq,F7,G2⟩:=ax Fp;obtain ⟨a0,F3,EW,G3⟩:=ax Fo;refine G9 (ay Fq ?_);have m0:ML lt a.toList b.toList [] 0 0:=⟨sa,sb,by simp⟩
  have m1:ML lt a.toList b.toList [b0] 0 1:=m0.pushB c EW F7 (F5 a0 b0 F3 Fq);have Ew:∀ x∈b.toList, ∀ (i:Nat),i+1=a.size -> ∀ y∈a.toList.drop i,lt y x=false:=by
   intro x hx i hi y hy;obtain ⟨aL,Fr,F8,_⟩:=ax (a:=a) (i:=i) (by lia)
   obtain ⟨bL,Fx,EX,_⟩:=ax (a:=b) (i:=b.size - 1) (by lia)
   have e:a.toList.drop i=[aL]:=by
    rw [dC F8,Io (by simp;lia)];rfl
   rw [e] at hy;simp at hy;subst hy;have hl:=F6 y bL (by rw [show a.size - 1=i by lia];exact Fr) Fx
   obtain ⟨j,hj,e⟩:=HR.mp hx;have ER:b.toList[j]? = some x:=by rw [<- e];exact tv hj
   by_cases hjb:j=b.size - 1
   ·subst hjb;rw [EX] at ER;cases ER;exact hl
   ·have:=eG sb (show j < b.size - 1 by simp at hj;lia) ER EX
    exact c.le_trans this hl
  try dsimp -zeta -zetaHave -zetaUnused only
  refine ae (fun h => ?_) (fun h => ?_)
  ·skip
   have h : 1=b.size:=by simpa using h
   refine aa ?_;have r:=m1.fin (by simp;lia)
   exact q _ _ (by simpa only [Gp,Gv,GO,bn] using r.1) (by simpa only [Gp,Gv,GO,bn] using r.2) Same.refl
  ·skip
   refine ae (fun h2 => ?_) (fun h2 => ?_)
   ·skip
    have h2 : 0+1=a.size:=by simpa using h2
    refine aa ?_;have r:=m1.finA (Ew · · 0 h2);exact q _ _ (by simpa only [Gp,Gv,GO,bn] using r.1) (by simpa only [Gp,Gv,GO,bn] using r.2) Same.refl
   ·skip
    have h : 1≠b.size:=by simpa using h
    have h2 : 0+1≠a.size:=by simpa using h2
    refine G9 (Kl ?_)
    try dsimp -zeta -zetaHave -zetaUnused only
    refine G9 (az (Q:=fun r st'=>Same st st' /\ ∃ res t,r=(some res,t)/\Res lt a.toList b.toList res.toList)
     (Hn (fun i r st'=>Same st st' /\ ∃ out ia ib mg,r=(none,out,ia,ib,mg)/\ML lt a.toList b.toList out.toList ia ib/\ia+1 < a.size/\ib < b.size/\i+1<=out.size) ?_ ?_ ⟨Same.refl,_,_,_,_,rfl,m1,by lia,by lia,by simp⟩) ?_)
    ·rintro i r Ep _ hi ⟨sm,out,ia,ib,mg,rfl,m,Fy,Fz,hsz⟩
     try dsimp -zeta -zetaHave -zetaUnused only
     refine G9 (az (Q:=fun r st'=>st'=Ep/\((∃ B Eg Ek ac bc,r=(none,B,Eg,Ek,ac,bc)/\ML lt a.toList b.toList B.toList Eg Ek/\Eg+1 < a.size/\Ek < b.size/\i+2<=B.size) ∨ ∃ res t,r=(some res,t)/\Res lt a.toList b.toList res.toList))
      (Hn (fun j r st'=>st'=Ep /\ ∃ B Eg Ek ac bc,r=(none,B,Eg,Ek,ac,bc)/\ML lt a.toList b.toList B.toList Eg Ek/\Eg+1 < a.size/\Ek < b.size/\i+1+j<=B.size) ?_ ?_ ⟨rfl,_,_,_,_,_,rfl,m,Fy,Fz,by lia⟩) ?_)
     ·rintro j r E6 _ hj ⟨rfl,B,Eg,Ek,ac,bc,rfl,m2,h1,h2,h3⟩
      try dsimp only
      obtain ⟨y,hy,Er,Ev⟩:=ax (a:=b) h2;obtain ⟨x,hx,F9,F1⟩:=ax (a:=a) (i:=Eg) (by lia)
      refine G9 (ay hy (G9 (ay hx (G9 (jo c (sm.kind.trans hk) (EQ _ Ev) (EO _ F1) ?_)))))
      try dsimp only
      refine ae (fun hl => ?_) (fun hl => ?_)
      ·skip
       refine G9 (ay hy ?_)
       try dsimp only
       have m3:=m2.pushB c F9 Er (c.asym _ _ hl);refine ae (fun h => ?_) (fun h => ?_)
       ·skip
        have h:Ek+1=b.size:=by simpa using h
        exact aa ⟨rfl, .inr ⟨_,_,rfl,by simpa only [Gp,Gv,GO,bn] using m3.fin (by simp;lia)⟩⟩
       ·skip
        have h:Ek+1≠b.size:=by simpa using h
        refine ae (fun _ => ?_) (fun _ => ?_)
        ·exact aa ⟨rfl, .inl ⟨_,_,_,_,_,rfl,by simpa only [Gp,Gv] using m3,h1,by lia,by simp;lia⟩⟩
        ·exact aa ⟨rfl,_,_,_,_,_,rfl,by simpa only [Gp,Gv] using m3,h1,by lia,by simp;lia⟩
      ·skip
       refine G9 (ay hx ?_)
       try dsimp only
       have m3:=m2.pushA c F9 Er (by simpa using hl)
       refine ae (fun h => ?_) (fun h => ?_)
       ·skip
        have h:Eg+1+1=a.size:=by simpa using h
        exact aa ⟨rfl, .inr ⟨_,_,rfl,by simpa only [Gp,Gv,GO,bn] using m3.finA (Ew · · _ h)⟩⟩
       ·skip
        have h:Eg+1+1≠a.size:=by simpa using h
        refine ae (fun _ => ?_) (fun _ => ?_)
        ·exact aa ⟨rfl, .inl ⟨_,_,_,_,_,rfl,by simpa only [Gp,Gv] using m3,by lia,h2,by simp;lia⟩⟩
        ·exact aa ⟨rfl,_,_,_,_,_,rfl,by simpa only [Gp,Gv] using m3,by lia,h2,by simp;lia⟩
     ·rintro r E6 ⟨rfl,B,Eg,Ek,ac,bc,rfl,m2,h1,h2,h3⟩;exact ⟨rfl, .inl ⟨_,_,_,_,_,rfl,m2,h1,h2,by lia⟩⟩
     ·rintro r E6 ⟨rfl,⟨B,Eg,Ek,ac,bc,rfl,m2,h1,h2,h3⟩ | ⟨res,t,rfl,J⟩⟩
      ·dsimp -zeta -zetaHave -zetaUnused only;refine G9 (cn ?_);refine G9 (az (Q:=fun r st'=>Same st st'/\((∃ F E8 E4 Eh ac bc,r=(none,F,E8,E4,Eh,ac,bc)/\ML lt a.toList b.toList F.toList E8 E4/\E8+1 < a.size/\E4 < b.size/\i+2<=F.size) ∨ ∃ res t,r=(some res,t)/\Res lt a.toList b.toList res.toList))
        (Hn (fun j r st'=>Same st st' /\ ∃ F E8 E4 Eh ac bc,r=(none,F,E8,E4,Eh,ac,bc)/\ML lt a.toList b.toList F.toList E8 E4/\E8+1 < a.size/\E4 < b.size/\i+2<=F.size) ?_ ?_ ⟨sm,_,_,_,_,_,_,rfl,m2,h1,h2,h3⟩) ?_)
       ·rintro j r E3 _ hj ⟨Ei,F,E8,E4,Eh,Fa,Fb,rfl,m3,h1,h2,h5⟩;obtain ⟨y,hy,Er,Ev⟩:=ax (a:=b) h2;refine ye fun QQ hQ => ?_;have G:∀ (st':Hl) (res:Array Gc) t,Same st st'->Res lt a.toList b.toList res.toList->QQ (.done (some res,t)) st':=fun st' res t hs hr=>hQ _ _ ⟨hs, .inr ⟨_,_,rfl,hr⟩⟩;have FA:∀ (st':Hl) (out:Array Gc) ia ib mg ac bc,Same st st'->ML lt a.toList b.toList out.toList ia ib->ia+1 < a.size->ib < b.size->i+2<=out.size->QQ (.done (none,out,ia,ib,mg,ac,bc)) st'/\QQ (.yield (none,out,ia,ib,mg,ac,bc)) st':=fun st' out ia ib mg ac bc hs p1 p2 p3 p4=>⟨hQ _ _ ⟨hs, .inl ⟨_,_,_,_,_,_,rfl,p1,p2,p3,p4⟩⟩,hQ _ _ ⟨hs,_,_,_,_,_,_,rfl,p1,p2,p3,p4⟩⟩;clear hQ hj
        extract_lets -underBinder s0 vout s1 via s2 vib s3 vmg s4 vac vbc jp vmx
        have Fc:∀ mg,wpS (Gn prog w) A E s (jp () mg) QQ E3:=by
         intro mg;dsimp -zeta -zetaHave -zetaUnused only [jp,s0,vout,s1,via,s2,vib,s3,vmg,s4,vac,vbc];clear vmx jp vbc vac s4 vmg s3 vib s2 via s1 vout s0;refine G9 (ID ?_);refine u8 (P:=Same st) (Ei.trans ⟨rfl,rfl,rfl,rfl⟩) fun ES E9 => ?_;have Fd:=E9.kind.trans hk;refine G9 (ay hy ?_);refine G9 (hg false y a (a.toList.take E8) (a.toList.drop E8) [] _ _ _ _ _ Fd (EQ _ Ev) (by simp) (eW (by lia)) (by simp) (fun x hx=>EO x (Lm hx)) (by lia) ((F2.mp m3.pa).2.1) fun X Y e hX hY => ?_)
         dsimp -zeta -zetaHave -zetaUnused only;have m4:=m3.galA c e Er fun x hx=>yf (hX x hx);have Ea:∀ x4,a.toList[E8+X.length]? = some x4->lt x4 y=false:=fun x4 Ex=>c.asym _ _ (u9 (hY x4 (nQ e Ex)));have ET:=nS e
         extract_lets -underBinder +onlyGivenNames vac Ey
         clear_value vac
         have EE:∀ (O:Array Gc) (Es:Nat),ML lt a.toList b.toList O.toList Es E4->(∀ x4,a.toList[Es]? = some x4->lt x4 y=false)->Es+1 < a.size->i+2<=O.size->wpS (Gn prog w) A E s (Ey () O Es) QQ ES:=by
          intro O Es FB Ez G4 Fe;dsimp -zeta -zetaHave -zetaUnused only [Ey];clear Ey ET Ea m4 hX hY;obtain ⟨x4,Ex,Ee,Ff⟩:=ax (a:=a) (i:=Es) (by lia)
          refine G9 (ay hy ?_);have m5:=FB.pushB c Ee Er (Ez x4 Ee);rw [<- Gv] at m5;have Ef:i+2<=(O.push y).size:=by rw [Lx];lia
          try dsimp -zeta -zetaHave -zetaUnused only
          extract_lets -underBinder +onlyGivenNames vo5 vi5
          dsimp -zeta -zetaHave -zetaUnused only [vo5];clear vo5;have e5:vi5=E4+1:=rfl
          clear_value vi5
          subst e5
          revert m5 Ef
          generalize O.push y=out5;intro m5 Ef;refine ae (fun h => ?_) (fun h => ?_)
          ·exact aa (G _ _ _ E9 (m5.finR (by have h:=Jx h;lia)))
          ·have h:E4+1≠b.size:=by simpa using h
           refine G9 (ay Ex ?_);refine G9 (hg true x4 b (b.toList.take (E4+1)) (b.toList.drop (E4+1)) [] _ _ _ _ _ Fd (EO _ Ff) (by simp) (eW (by lia)) (by simp) (fun x hx=>EQ x (Lm hx)) (by lia) ((F2.mp m5.pb).2.1) fun X2 Y2 e2 EJ EK => ?_)
           dsimp -zeta -zetaHave -zetaUnused only;have m6:=m5.galB c e2 Ee fun x hx=>c.asym _ _ (yg (EJ x hx));have Eb:∀ y6,b.toList[E4+1+X2.length]? = some y6->lt y6 x4=false:=fun y6 Fg=>ua (EK y6 (nQ e2 Fg));have EU:=nS e2
           extract_lets -underBinder +onlyGivenNames vbc EA
           clear_value vbc
           have EF:∀ (E5:Array Gc) (EV:Nat),ML lt a.toList b.toList E5.toList Es EV->(∀ y6,b.toList[EV]? = some y6->lt y6 x4=false)->EV < b.size->i+2<=E5.size->wpS (Gn prog w) A E s (EA () E5 EV) QQ ES:=by
            intro E5 EV FC EB Ft FO;dsimp -zeta -zetaHave -zetaUnused only [EA];clear EA EU Eb m6 EJ EK m5 Ef Fe h5 h1 h2 hsz Fz Fy h3;obtain ⟨y6,Fg,EG,FP⟩:=ax (a:=b) (i:=EV) Ft;refine G9 (ay Ex ?_);have m7:=FC.pushA c Ee EG (EB y6 EG);rw [<- Gv] at m7;dsimp only;refine ae (fun h => ?_) (fun h => ?_)
            ·exact aa (G _ _ _ E9 (m7.finL (Ew · · (Es+1) (Jx h))))
            ·have h:Es+1+1≠a.size:=by simpa using h
             have:=FA ES (E5.push x4) (Es+1) EV mg vac vbc E9 m7 (by lia) Ft (by rw [Lx];lia)
             exact ae (fun _=>aa this.1) (fun _=>aa this.2)
           clear_value EA
           refine ae (fun h0 => ?_) (fun h0 => ?_)
           ·dsimp only;have m6:=m6.cut (a:=b) e2;refine ae (fun h => ?_) (fun h => ?_)
            ·exact aa (G _ _ _ E9 (m6.finR (by have h:=Jx h;lia)))
            ·have h:E4+1+X2.length≠b.size:=by simpa using h
             exact EF _ _ m6 Eb (by lia) (by rw [JR];lia)
           ·have EC:X2=[]:=Hh.mp (by lia)
            subst EC;exact EF _ _ m5 Eb (by lia) Ef
         clear_value Ey
         refine ae (fun h0 => ?_) (fun h0 => ?_)
         ·dsimp only;have m4:=m4.cut (a:=a) e;refine ae (fun h => ?_) (fun h => ?_)
          ·exact aa (G _ _ _ E9 (m4.finL (Ew · · _ (Jx h))))
          ·have h:E8+X.length+1≠a.size:=by simpa using h
           refine ae (fun h => ?_) (fun h9 => ?_)
           ·exact aa (G _ _ _ E9 (m4.finS (by have h:=Jx h;lia)))
           ·have h9:E8+X.length≠a.size:=by simpa using h9
            exact EE _ _ m4 Ea (by lia) (by rw [JR];lia)
         ·have EC:X=[]:=Hh.mp (by lia)
          subst EC;exact EE _ _ m3 Ea h1 h5
        clear_value jp
        exact ae (fun _=>Fc _) (fun _=>Fc _)
       ·rintro r E3 ⟨Ei,F,E8,E4,Eh,Fa,Fb,rfl,m3,h1,h2,h5⟩;exact ⟨Ei, .inl ⟨_,_,_,_,_,_,rfl,m3,h1,h2,h5⟩⟩
       ·rintro r E3 ⟨Ei,⟨F,E8,E4,Eh,Fa,Fb,rfl,m3,h1,h2,h5⟩ | ⟨res,t,rfl,J⟩⟩
        ·dsimp -zeta -zetaHave -zetaUnused only;refine G9 (ID ?_);exact aa ⟨Ei.trans ⟨rfl,rfl,rfl,rfl⟩,_,_,_,_,rfl,m3,h1,h2,by lia⟩
        ·exact aa ⟨Ei,_,_,rfl,J⟩
      ·exact aa ⟨sm,_,_,rfl,J⟩
    ·rintro r Ep ⟨sm,out,ia,ib,mg,rfl,m,Fy,Fz,hsz⟩;have:=m.size (by simp;lia) (by simp;lia)
     simp at this;lia
    ·rintro r Ep ⟨sm,res,t,rfl,J⟩;exact aa (q res Ep J.1 J.2 sm)
 ·intro hg a b st Q hk EO EQ Fo Fp sa sb F5 F6 q;refine G9 (cn ?_);obtain ⟨bL,Fx,EX,G5⟩:=ax (a:=b) (i:=b.size - 1) (by lia)
  obtain ⟨aL,Fr,F8,G6⟩:=ax (a:=a) (i:=a.size - 1) (by lia)
  refine G9 (ay Fr ?_);have m0:MH lt a.toList b.toList [] a.size b.size:=⟨by rw [dR];simpa using sa,by rw [dR];simpa using sb,by rw [dR,dR];simp⟩
  have m1:MH lt a.toList b.toList [aL] (a.size - 1) b.size:=m0.pushA c Fo Fp F8 EX (F6 aL bL Fr Fx);have Em:∀ x∈b.toList.take 1, ∀ y∈a.toList,lt y x=false:=by
   intro x hx y hy;obtain ⟨b0,Fq,F7,_⟩:=ax Fp;obtain ⟨a0,F3,EW,_⟩:=ax Fo;have ex:x=b0:=by
    rw [cq (by lia) F7] at hx
    simpa using hx
   subst ex;have h:=F5 a0 x F3 Fq;obtain ⟨j,hj,e⟩:=HR.mp hy;have ER:a.toList[j]? = some y:=by rw [<- e];exact tv hj
   by_cases hj0:j=0
   ·subst hj0;rw [EW] at ER;cases ER;exact h
   ·exact c.le_trans h (eG sa (by lia) EW ER)
  try dsimp -zeta -zetaHave -zetaUnused only
  refine ae (fun h => ?_) (fun h => ?_)
  ·skip
   have h:a.size - 1=0:=by simpa using h
   refine aa ?_;have r:=m1.fin (.inl h);exact q _ _ (by simpa only [Gp,Gv,He,GO,aZ] using r.1) (by simpa only [Gp,Gv,He,GO,aZ] using r.2) Same.refl
  ·skip
   refine ae (fun h2 => ?_) (fun h2 => ?_)
   ·skip
    have h2:b.size=1:=by simpa using h2
    refine aa ?_;have r:=m1.finB (by rw [h2];exact Em)
    exact q _ _ (by simpa only [Gp,Gv,He,GO,aZ] using r.1) (by simpa only [Gp,Gv,He,GO,aZ] using r.2) Same.refl
   ·skip
    have h:a.size - 1≠0:=by simpa using h
    have h2:b.size≠1:=by simpa using h2
    refine G9 (Kl ?_)
    try dsimp -zeta -zetaHave -zetaUnused only
    refine G9 (az (Q:=fun r st'=>Same st st' /\ ∃ res t,r=(some res,t)/\Res lt a.toList b.toList res.toList)
     (Hn (fun i r st'=>Same st st' /\ ∃ na nb out mg,r=(none,na,nb,out,mg)/\MH lt a.toList b.toList out.toList na nb/\0 < na/\1 < nb/\na < a.size/\nb<=b.size/\i+1<=out.size) ?_ ?_ ⟨Same.refl,_,_,_,_,rfl,m1,by lia,by lia,by lia,by lia,by simp⟩) ?_)
    ·rintro i r Ep _ hi ⟨sm,na,nb,out,mg,rfl,m,EI,EY,Fh,Fi,hsz⟩
     try dsimp -zeta -zetaHave -zetaUnused only
     refine G9 (az (Q:=fun r st'=>st'=Ep/\((∃ Ec Ed B ac bc,r=(none,Ec,Ed,B,ac,bc)/\MH lt a.toList b.toList B.toList Ec Ed/\0 < Ec/\1 < Ed/\Ec < a.size/\Ed<=b.size/\i+2<=B.size) ∨ ∃ res t,r=(some res,t)/\Res lt a.toList b.toList res.toList))
      (Hn (fun j r st'=>st'=Ep /\ ∃ Ec Ed B ac bc,r=(none,Ec,Ed,B,ac,bc)/\MH lt a.toList b.toList B.toList Ec Ed/\0 < Ec/\1 < Ed/\Ec < a.size/\Ed<=b.size/\i+1+j<=B.size) ?_ ?_ ⟨rfl,_,_,_,_,_,rfl,m,EI,EY,Fh,Fi,by lia⟩) ?_)
     ·rintro j r E6 _ hj ⟨rfl,Ec,Ed,B,ac,bc,rfl,m2,h1,h2,Ej,El,h3⟩
      try dsimp only
      obtain ⟨y,hy,Er,Ev⟩:=ax (a:=b) (i:=Ed - 1) (by lia)
      obtain ⟨x,hx,F9,F1⟩:=ax (a:=a) (i:=Ec - 1) (by lia)
      refine G9 (ay hy (G9 (ay hx (G9 (jo c (sm.kind.trans hk) (EQ _ Ev) (EO _ F1) ?_)))))
      try dsimp only
      refine ae (fun hl => ?_) (fun hl => ?_)
      ·skip
       refine G9 (ay hx ?_)
       try dsimp only
       have m3:=m2.pushA c h1 (by lia) F9 Er (c.asym _ _ hl)
       refine ae (fun h => ?_) (fun h => ?_)
       ·skip
        have h:Ec - 1=0:=by simpa using h
        exact aa ⟨rfl, .inr ⟨_,_,rfl,by have r:=m3.fin (.inl h);simpa only [Gp,Gv,He,GO,aZ] using r⟩⟩
       ·skip
        have h:Ec - 1≠0:=by simpa using h
        refine ae (fun _ => ?_) (fun _ => ?_)
        ·exact aa ⟨rfl, .inl ⟨_,_,_,_,_,rfl,by simpa only [Gp,Gv,He,GO,aZ] using m3,by lia,h2,by lia,El,by simp;lia⟩⟩
        ·exact aa ⟨rfl,_,_,_,_,_,rfl,by simpa only [Gp,Gv,He,GO,aZ] using m3,by lia,h2,by lia,El,by simp;lia⟩
      ·skip
       refine G9 (ay hy ?_)
       try dsimp only
       have m3:=m2.pushB c h1 (by lia) F9 Er (by simpa using hl)
       refine ae (fun h => ?_) (fun h => ?_)
       ·skip
        have h:Ed - 1=1:=by simpa using h
        exact aa ⟨rfl, .inr ⟨_,_,rfl,by have r:=m3.finB (by rw [h];exact Em);simpa only [Gp,Gv,He,GO,aZ] using r⟩⟩
       ·skip
        have h:Ed - 1≠1:=by simpa using h
        refine ae (fun _ => ?_) (fun _ => ?_)
        ·exact aa ⟨rfl, .inl ⟨_,_,_,_,_,rfl,by simpa only [Gp,Gv,He,GO,aZ] using m3,h1,by lia,Ej,by lia,by simp;lia⟩⟩
        ·exact aa ⟨rfl,_,_,_,_,_,rfl,by simpa only [Gp,Gv,He,GO,aZ] using m3,h1,by lia,Ej,by lia,by simp;lia⟩
     ·rintro r E6 ⟨rfl,Ec,Ed,B,ac,bc,rfl,m2,h1,h2,Ej,El,h3⟩;exact ⟨rfl, .inl ⟨_,_,_,_,_,rfl,m2,h1,h2,Ej,El,by lia⟩⟩
     ·rintro r E6 ⟨rfl,⟨Ec,Ed,B,ac,bc,rfl,m2,h1,h2,Ej,El,h3⟩ | ⟨res,t,rfl,J⟩⟩
      ·try dsimp -zeta -zetaHave -zetaUnused only
       refine G9 (cn ?_);refine G9 (az (Q:=fun r st'=>Same st st'/\((∃ E7 U F Eh ac bc,r=(none,E7,U,F,Eh,ac,bc)/\MH lt a.toList b.toList F.toList E7 U/\0 < E7/\1 < U/\E7 < a.size/\U<=b.size/\i+2<=F.size) ∨ ∃ res t,r=(some res,t)/\Res lt a.toList b.toList res.toList))
        (Hn (fun j r st'=>Same st st' /\ ∃ E7 U F Eh ac bc,r=(none,E7,U,F,Eh,ac,bc)/\MH lt a.toList b.toList F.toList E7 U/\0 < E7/\1 < U/\E7 < a.size/\U<=b.size/\i+2<=F.size) ?_ ?_ ⟨sm,_,_,_,_,_,_,rfl,m2,h1,h2,Ej,El,h3⟩) ?_)
       ·rintro j r E3 _ hj ⟨Ei,E7,U,F,Eh,Fa,Fb,rfl,m3,h1,h2,Ej,El,h5⟩;obtain ⟨y,hy,Er,Ev⟩:=ax (a:=b) (i:=U - 1) (by lia)
        refine ye fun QQ hQ => ?_;have G:∀ (st':Hl) (res:Array Gc) t,Same st st'->Res lt a.toList b.toList res.toList->QQ (.done (some res,t)) st':=fun st' res t hs hr=>hQ _ _ ⟨hs, .inr ⟨_,_,rfl,hr⟩⟩;have FA:∀ (st':Hl) (out:Array Gc) na nb mg ac bc,Same st st'->MH lt a.toList b.toList out.toList na nb->0 < na->1 < nb->na < a.size->nb<=b.size->i+2<=out.size->QQ (.done (none,na,nb,out,mg,ac,bc)) st'/\QQ (.yield (none,na,nb,out,mg,ac,bc)) st':=fun st' out ia ib mg ac bc hs p1 p2 p3 p4 p5 p6=>⟨hQ _ _ ⟨hs, .inl ⟨_,_,_,_,_,_,rfl,p1,p2,p3,p4,p5,p6⟩⟩,hQ _ _ ⟨hs,_,_,_,_,_,_,rfl,p1,p2,p3,p4,p5,p6⟩⟩;clear hQ hj
        extract_lets -underBinder s0 vna s1 vnb s2 vout s3 vmg s4 vac vbc jp vmx
        have Fc:∀ mg,wpS (Gn prog w) A E s (jp () mg) QQ E3:=by
         intro mg;dsimp -zeta -zetaHave -zetaUnused only [jp,s0,vna,s1,vnb,s2,vout,s3,vmg,s4,vac,vbc];clear vmx jp vbc vac s4 vmg s3 vout s2 vnb s1 vna s0;refine G9 (ID ?_);refine u8 (P:=Same st) (Ei.trans ⟨rfl,rfl,rfl,rfl⟩) fun ES E9 => ?_;have Fd:=E9.kind.trans hk;refine G9 (ay hy ?_);refine G9 (hg false y a [] (a.toList.take E7) (a.toList.drop E7) _ _ _ _ _ Fd (EQ _ Ev) (by simp) rfl (eW (by lia)) (fun x hx=>EO x (Ln hx)) (by lia) ((F2.mp m3.pa).1) fun X Y e hX hY => ?_)
         dsimp -zeta -zetaHave -zetaUnused only;have m4:=m3.galA c e (by lia) Er fun x hx=>c.asym _ _ (u9 (hY x hx))
         have Ea : 0 < X.length -> ∀ x4,a.toList[X.length - 1]? = some x4->lt y x4=false:=fun h0 x4 Ex=>yf (hX x4 (nR e h0 Ex));have ET:=lg e (by lia)
         extract_lets -underBinder +onlyGivenNames vk vac Ey
         clear_value vac
         have EE:∀ (Et:Nat) (O:Array Gc),MH lt a.toList b.toList O.toList Et U->(∀ x4,a.toList[Et - 1]? = some x4->lt y x4=false)->0 < Et->Et < a.size->i+2<=O.size->wpS (Gn prog w) A E s (Ey () Et O) QQ ES:=by
          intro Et O FB Ez Fj G1 Fe;dsimp -zeta -zetaHave -zetaUnused only [Ey];clear Ey vk ET Ea m4 hX hY;obtain ⟨x4,Ex,Ee,Ff⟩:=ax (a:=a) (i:=Et - 1) (by lia)
          refine G9 (ay hy ?_);have m5:=FB.pushB c Fj (by lia) Ee Er (Ez x4 Ee)
          rw [<- Gv] at m5;have Ef:i+2<=(O.push y).size:=by rw [Lx];lia
          try dsimp -zeta -zetaHave -zetaUnused only
          extract_lets -underBinder +onlyGivenNames vo5
          dsimp -zeta -zetaHave -zetaUnused only [vo5];clear vo5
          revert m5 Ef
          generalize O.push y=out5;intro m5 Ef;refine ae (fun h => ?_) (fun h => ?_)
          ·exact aa (G _ _ _ E9 (m5.finR (by rw [Jx h];exact Em)))
          ·have h:U - 1≠1:=by simpa using h
           refine G9 (ay Ex ?_);refine G9 (hg true x4 b [] (b.toList.take (U - 1)) (b.toList.drop (U - 1)) _ _ _ _ _ Fd (EO _ Ff) (by simp) rfl (eW (by lia)) (fun x hx=>EQ x (Ln hx)) (by lia) ((F2.mp m5.pb).1) fun X2 Y2 e2 EJ EK => ?_)
           dsimp -zeta -zetaHave -zetaUnused only;have m6:=m5.galB c e2 Fj Ee fun x hx=>ua (EK x hx);have Eb : 0 < X2.length -> ∀ y6,b.toList[X2.length - 1]? = some y6->lt x4 y6=false:=fun h0 y6 Fg=>c.asym _ _ (yg (EJ y6 (nR e2 h0 Fg)));have EU:=lg e2 (by lia)
           extract_lets -underBinder +onlyGivenNames vk vbc EA
           clear_value vbc
           have EF:∀ (EH:Nat) (E5:Array Gc),MH lt a.toList b.toList E5.toList Et EH->(∀ y6,b.toList[EH - 1]? = some y6->lt x4 y6=false)->1 < EH->EH<=b.size->i+2<=E5.size->wpS (Gn prog w) A E s (EA () EH E5) QQ ES:=by
            intro EH E5 FC EB FQ FE FO;dsimp -zeta -zetaHave -zetaUnused only [EA];clear EA vk EU Eb m6 EJ EK m5 Ef Fe h5 h1 h2 Ej El hsz EI EY Fh Fi h3;obtain ⟨y6,Fg,EG,FP⟩:=ax (a:=b) (i:=EH - 1) (by lia)
            refine G9 (ay Ex ?_);have m7:=FC.pushA c Fj (by lia) Ee EG (EB y6 EG)
            rw [<- Gv] at m7;dsimp only;refine ae (fun h => ?_) (fun h => ?_)
            ·exact aa (G _ _ _ E9 (m7.finL (.inl (Jx h))))
            ·have h:Et - 1≠0:=by simpa using h
             have:=fun mg ac bc=>FA ES (E5.push x4) (Et - 1) EH mg ac bc E9 m7 (by lia) FQ (by lia) FE (by rw [Lx];lia)
             exact ae (fun _=>aa (this _ _ _).1) (fun _=>aa (this _ _ _).2)
           clear_value EA
           refine ae (fun h0 => ?_) (fun h0 => ?_)
           ·dsimp only;have m6:=m6.cut (a:=b) e2;refine ae (fun h => ?_) (fun h => ?_)
            ·exact aa (G _ _ _ E9 (m6.finR (by rw [Jx h];exact Em)))
            ·have h:X2.length≠1:=by simpa using h
             refine ae (fun h9 => ?_) (fun h9 => ?_)
             ·exact aa (G _ _ _ E9 (m6.finL (.inr (Jx h9))))
             ·have h9:X2.length≠0:=by simpa using h9
              exact EF _ _ m6 (Eb (by lia)) (by lia) (by lia) (by rw [JR];lia)
           ·have h0 : ¬ (U - 1 - X2.length > 0):=h0;have hl:X2.length=U - 1:=by lia
            have F4 : 0 < X2.length:=by lia
            have hr:=Eb F4;rw [hl] at hr;exact EF _ _ m5 hr (by lia) (by lia) Ef
         clear_value Ey
         refine ae (fun h0 => ?_) (fun h0 => ?_)
         ·dsimp only;have m4:=m4.cut (a:=a) e;refine ae (fun h => ?_) (fun h => ?_)
          ·exact aa (G _ _ _ E9 (m4.finL (.inl (Jx h))))
          ·have h:X.length≠0:=by simpa using h
           exact EE _ _ m4 (Ea (by lia)) (by lia) (by lia) (by rw [JR];lia)
         ·have h0 : ¬ (E7 - X.length > 0):=h0;have hl:X.length=E7:=by lia
          have hr:=Ea (by lia)
          rw [hl] at hr;exact EE _ _ m3 hr h1 Ej h5
        clear_value jp
        exact ae (fun _=>Fc _) (fun _=>Fc _)
       ·rintro r E3 ⟨Ei,E7,U,F,Eh,Fa,Fb,rfl,m3,h1,h2,Ej,El,h5⟩;exact ⟨Ei, .inl ⟨_,_,_,_,_,_,rfl,m3,h1,h2,Ej,El,h5⟩⟩
       ·rintro r E3 ⟨Ei,⟨E7,U,F,Eh,Fa,Fb,rfl,m3,h1,h2,Ej,El,h5⟩ | ⟨res,t,rfl,J⟩⟩
        ·try dsimp -zeta -zetaHave -zetaUnused only
         refine G9 (ID ?_);exact aa ⟨Ei.trans ⟨rfl,rfl,rfl,rfl⟩,_,_,_,_,rfl,m3,h1,h2,Ej,El,by lia⟩
        ·exact aa ⟨Ei,_,_,rfl,J⟩
      ·exact aa ⟨sm,_,_,rfl,J⟩
    ·rintro r Ep ⟨sm,na,nb,out,mg,rfl,m,EI,EY,Fh,Fi,hsz⟩;have:=m.size (by simp;lia) (by simp;lia)
     simp at this;lia
    ·rintro r Ep ⟨sm,res,t,rfl,J⟩;exact aa (q res Ep J.1 J.2 sm)
end
end Srt
end L2
namespace L2
namespace Srt
open PySem PySem.Spec PyProof.Rows
section
variable {prog:GI} {w:Hf} {A:Hg} {E:gV->h7->Prop} {s:h7} {kd:JX} {P:Gc->Prop} {lt:Gc->Gc->Bool}
structure Kp (st st':Hl):Prop where
 kind:HY st'=HY st
 pend:Gw st'=Gw st
 fail:IK st'=IK st
theorem Kp.refl {st:Hl}:Kp st st:=⟨rfl,rfl,rfl⟩
theorem Kp.trans {a b c:Hl} (h:Kp a b) (g:Kp b c):Kp a c:=⟨g.kind.trans h.kind,g.pend.trans h.pend,g.fail.trans h.fail⟩
theorem pB {a:Array Gc} {L B R:List Gc} (e:a.toList=L++(B++R)) {i j:Nat} (hi:i=L.length) (q:j=L.length+B.length):(mirror a i j ((j - i) / 2)).toList=L++(B.reverse++R):=by
 have hs:a.size=L.length+(B.length+R.length):=by rw [<- GD,e];simp
 apply Jn;intro k;rw [GC,getElem?_mirror_all (by lia)]
 have g:∀ n:Nat,a[n]? = (L++(B++R))[n]? := fun n=>by rw [<- GC,e]
 rw [g,g]
 by_cases h1:k < L.length
 ·rw [if_neg (by lia),Gs h1,Gs h1]
 ·by_cases h2:k < j
  ·rw [if_pos (by lia),z4 (by lia),Gs (by lia),z4 (by lia),Gs (by simp;lia),List.getElem?_reverse (by lia)]
   congr 1;lia
  ·rw [if_neg (by lia),z4 (by lia),z4 (by lia),z4 (by lia),z4 (by simp;lia)]
   simp
theorem pC {a:Array Gc} {L j q R:List Gc} {x:Gc} (e:a.toList=L++((j++q)++x::R)) {src d:Nat} (hi:src=L.length+(j.length+q.length)) (hd:d=q.length):(bubble a src d).toList=L++((j++x::q)++R):=by
 have hs:a.size=L.length+(j.length+q.length+(R.length+1)):=by rw [<- GD,e];simp;lia
 apply Jn;intro k;rw [GC,getElem?_bubble (by lia) d (by lia)]
 have g:∀ n:Nat,a[n]? = (L++((j++q)++x::R))[n]? := fun n=>by rw [<- GC,e]
 rw [g,g,g]
 by_cases h1:k < L.length
 ·rw [if_neg (by lia),if_neg (by lia),Gs h1,Gs h1]
 ·by_cases h2:k < L.length+j.length
  ·rw [if_neg (by lia),if_neg (by lia),z4 (by lia),Gs (by simp;lia),Gs (by lia),z4 (by lia),Gs (by simp;lia),Gs (by lia)]
  ·by_cases h3:k=L.length+j.length
   ·rw [if_pos (by lia),z4 (by lia),z4 (by simp;lia),z4 (by lia),Gs (by simp;lia),z4 (by lia)]
    have e1:src - L.length - (j++q).length=0:=by simp;lia
    have e2:k - L.length - j.length=0:=by lia
    rw [e1,e2];rfl
   ·by_cases h4:k<=src
    ·rw [if_neg (by lia),if_pos (by lia),z4 (by lia),Gs (by simp;lia),z4 (by lia),z4 (by lia),Gs (by simp;lia),z4 (by lia)]
     have e2:k - L.length - j.length=(k - 1 - L.length - j.length)+1:=by lia
     rw [e2,Jz]
    ·rw [if_neg (by lia),if_neg (by lia),z4 (by lia),z4 (by simp;lia),z4 (by lia),z4 (by simp;lia)]
     have e2:k - L.length - (j++q).length=(k - L.length - (j++x::q).length)+1:=by simp;lia
     rw [e2,Jz]
theorem di (c:Cm prog w A s kd P lt) {i j:Nat} {x y:Gc} {st:Hl} {Q:Option Bool->Hl->Prop} (z:HY st=kd) (hx:(GS st)[i]? = some x) (B:(GS st)[j]? = some y) (px:P x) (py:P y) (q:Q (some (lt x y)) st):wpS (Gn prog w) A E s (ltAt' i j) Q st:=by
 rw [ltAt'_eq];exact G9 (Kl (G9 (ay hx (G9 (ay B (jo c z px py q))))))
theorem jq {i j:Nat} {st:Hl} {Q:Unit->Hl->Prop} {L B R:List Gc} (e:(GS st).toList=L++(B++R)) (hi:i=L.length) (z:j=L.length+B.length) (q:∀ st',(GS st').toList=L++(B.reverse++R)->Kp st st'->Q () st'):wpS (Gn prog w) A E s (reverseSlice' i j) Q st:=by
 rw [reverseSlice'_eq];exact ID (q _ (pB e hi z) ⟨rfl,rfl,rfl⟩)
theorem bP {st:Hl} {L xs:List Gc} (e:(GS st).toList=L++xs) {i n:Nat} (hi:i=L.length+n):(GS st)[i]? = xs[n]? := by
 rw [<- GC,e,hi,z4 (by lia)]
 congr 1;lia
theorem nT (c:Cm prog w A s kd P lt) {xs:List Gc} {n:Nat} {x y:Gc} (h:Ord lt (xs.take n)) (q : 0 < n) (hx:xs[n]? = some x) (B:xs[n - 1]? = some y) (F:lt x y=false):Ord lt (xs.take (n+1)):=by
 rw [OB,hx];refine F2.mpr ⟨h,by simp,fun z G u j => ?_⟩
 simp at j;subst j;exact gJ c h q B F z G
noncomputable abbrev cE (lt:Gc->Gc->Bool) (l:List Gc):Prop:=l.Pairwise fun x y=>lt x y=false
theorem iy (c:Cm prog w A s kd P lt) {D:List Gc} {e x:Gc} (h:cE lt (D++[e])) (hx:lt e x=false):cE lt (D++[e]++[x]):=by
 refine F2.mpr ⟨h,by simp,fun z B u j => ?_⟩
 simp at j;subst j;obtain ⟨_,_,F⟩:=F2.mp h
 rcases Gy.mp B with g | g
 ·cases q:lt z u with
  | false=>rfl
  | true=>rcases c.neg z e u q with r | r
          ·rw [F z g e (by simp)] at r;cases r
          ·rw [hx] at r;cases r
 ·simp at g;subst g;exact hx
theorem pZ {q F:List Gc} (h:cE lt (q++F)) (he:∀ x∈F, ∀ y∈F,lt x y=false):cE lt (q++F.reverse):=by
 obtain ⟨h1,h2,z⟩:=F2.mp h;refine F2.mpr ⟨h1, ?_,fun x hx y j=>z x hx y (K1.mp j)⟩;rw [Nh];exact h2.imp_of_mem fun hx j _=>he _ j _ hx
theorem perm_take {xs:List Gc} {n:Nat}:(xs.take n++xs.drop n).Perm xs:=by rw [Iz]
theorem pE (c:Cm prog w A s kd P lt) {L xs:List Gc} {st:Hl} {Q:Option Nat->Hl->Prop} (hk:HY st=kd) (O:(GS st).toList=L++xs) (h0:xs≠[]) (hP:∀ x∈xs,P x)
 (q:∀ r R st',(GS st').toList=L++(r++R)->(r++R).Perm xs->r≠[]->Ord lt r->Kp st st'->Q (some r.length) st'):wpS (Gn prog w) A E s (countRun' L.length xs.length) Q st:=by
 have Es : 0 < xs.length:=Hs.mpr h0;rw [countRun'_eq]
 try dsimp -zeta -zetaHave -zetaUnused only
 refine G9 (az (Q:=fun r st'=>st'=st /\ ∃ n,r=(none,n)/\1<=n/\n<=xs.length/\Ord lt (xs.take n)/\(n=xs.length ∨ ∃ x y,xs[n]? = some x/\xs[n - 1]? = some y/\lt x y=true))
  (Hn (fun i r st'=>st'=st/\r=(none,i)/\Ord lt (xs.take i)) ?_ ?_ ⟨rfl,rfl,by
    cases xs with
    | nil=>exact absurd rfl h0
    | cons x t=>simp⟩) ?_)
 ·rintro i r st' h1 hi ⟨rfl,rfl,ho⟩;dsimp only;obtain ⟨x,hx⟩:∃ x,xs[i]? = some x:=⟨_,tv hi⟩;obtain ⟨y,hy⟩:∃ y,xs[i - 1]? = some y:=⟨_,tv (by lia)⟩
  refine G9 (di c hk ((bP O rfl).trans hx) ((bP O (by lia)).trans hy) (hP _ (Hc hx)) (hP _ (Hc hy)) ?_)
  dsimp only;refine ae (fun h => ?_) (fun h => ?_)
  ·exact aa ⟨rfl,i,rfl,h1,by lia,ho, .inr ⟨x,y,hx,hy,h⟩⟩
  ·exact aa ⟨rfl,rfl,nT c ho (by lia) hx hy (by simpa using h)⟩
 ·rintro r st' ⟨rfl,rfl,ho⟩;exact ⟨rfl,_,rfl,by lia,by lia,ho, .inl (by lia)⟩
 ·rintro r st' ⟨rfl,n,rfl,EQ,Et,ho,hc⟩;dsimp -zeta -zetaHave -zetaUnused only;have Ee:Q (some n) st':=by
   have:=q (xs.take n) (xs.drop n) st' (by rw [O,Iz]) perm_take (fun z=>by
    have h3:=congrArg Kz z;rw [GZ,Jf] at h3;lia) ho Kp.refl
   rw [GZ,Jg Et] at this;exact this
  extract_lets -underBinder +onlyGivenNames vr vn
  dsimp -zeta -zetaHave -zetaUnused only [vr];clear vr;have en:n=vn:=rfl
  clear_value vn
  subst en;refine ae (fun h=>aa Ee) (fun h => ?_);have EE:n≠xs.length:=by simpa using h
  obtain ⟨x,y,hx,hy,EF⟩:=hc.resolve_left EE;have ER:n < xs.length:=by lia
  have exs:xs=xs.take n++x::xs.drop (n+1):=by
   have h1:=(Iz n xs).symm;rw [dC hx] at h1;exact h1
  have Eu:y∈xs.take n:=by rw [cq (by lia) hy];simp
  extract_lets -underBinder +onlyGivenNames jp
  have Ev:∀ (B:List Gc) (E4:Hl),(GS E4).toList=L++(B++x::xs.drop (n+1))->B.Perm (xs.take n)->B.length=n->(∀ u∈B, ∀ v∈B,lt u v=false)->y∈B->Kp st' E4->wpS (Gn prog w) A E s (jp ()) Q E4:=by
   intro B E4 e1 hB E5 E6 E7 E8;dsimp -zeta -zetaHave -zetaUnused only [jp];clear jp;refine G9 (cn ?_)
   try dsimp -zeta -zetaHave -zetaUnused only
   extract_lets -underBinder +onlyGivenNames vn1 vq1
   have EG:vn1=n+1:=rfl;have eq1:vq1=0:=rfl
   clear_value vn1 vq1
   subst EG eq1;refine G9 (az (Q:=fun r U => ∃ G F R neq,Kp st' U/\(GS U).toList=L++((G++F)++R)/\((G++F)++R).Perm xs/\r=(none,(G++F).length,neq)/\F.length=neq+1/\cE lt (G++F)/\(∀ u∈F, ∀ v∈F,lt u v=false))
    (Hn (fun i r U => ∃ G F R neq,Kp st' U/\(GS U).toList=L++((G++F)++R)/\((G++F)++R).Perm xs/\r=(none,(G++F).length,neq)/\F.length=neq+1/\cE lt (G++F)/\(∀ u∈F, ∀ v∈F,lt u v=false)/\(G++F).length=i) ?_ ?_ ?_) ?_)
   ·rintro i r U ES hi ⟨G,F,R,neq,kp,ea,hp,rfl,hF,hN,hE,Ew⟩;subst Ew;have hlen:=hp.length_eq;rw [D2] at hlen;obtain ⟨z,R',rfl⟩:∃ z R',R=z::R':=by
     cases R with
     | nil=>simp at hlen;simp at hi;lia
     | cons z R'=>exact ⟨z,R',rfl⟩
    have EH:F≠[]:=fun z=>by rw [z] at hF;simp at hF
    obtain ⟨F0,e,rfl⟩:∃ F0 e,F=F0++[e]:=⟨F.dropLast,F.getLast EH,(IY _).symm⟩;have hz:(GS U)[L.length+(G++(F0++[e])).length]? = some z:=by
     rw [bP ea rfl,z4 (by lia),LG];rfl
    have he:(GS U)[L.length+(G++(F0++[e])).length - 1]? = some e:=by
     rw [bP ea (n:=(G++F0).length) (by simp <;> lia),Gs (by simp <;> lia), <- Gu,z4 (by lia),LG];rfl
    have Ex:P z:=hP z (hp.mem_iff.mp (by simp))
    have Ey:P e:=hP e (hp.mem_iff.mp (by simp))
    dsimp only;refine G9 (di c (kp.kind.trans hk) hz he Ex Ey ?_);dsimp only;have Ei:cE lt (G++F0++[e]):=by rw [Gu];exact hN
    refine ae (fun Ej => ?_) (fun Ej => ?_)
    ·have E9:lt e z=false:=c.asym _ _ Ej;refine ae (fun Ea => ?_) (fun Ea => ?_)
     ·refine G9 (jq (L:=L++G) (B:=F0++[e]) (R:=z::R') (by rw [ea];simp) (by simp only [D2] at hF ⊢;simp only [I8] at hF ⊢;lia) (by simp <;> lia) fun Z e3 Y => ?_)
      refine aa ⟨G++(F0++[e]).reverse,[z],R',0,kp.trans Y,by rw [e3];simp, ?_,by simp <;> lia,rfl, ?_, ?_,by simp <;> lia⟩
      ·refine J8.trans ?_ hp;rw [Gu,Gu,Gu];exact H9 _ (Hw _ (KS _))
      ·have h1:=pZ hN hE;refine F2.mpr ⟨h1,by simp,fun u j v J => ?_⟩
       simp at J;subst J;have hm:=iy c Ei E9;refine (F2.mp hm).2.2 u ?_ v (by simp)
       rw [Gu]
       rcases Gy.mp j with g | g
       ·exact Hk _ g
       ·exact GA _ (K1.mp g)
      ·intro u j v J;simp at j J;subst j J;exact c.irr
     ·refine aa ⟨G++(F0++[e]),[z],R',0,kp,by rw [ea];simp,by simpa using hp,by simp <;> lia,rfl, ?_, ?_,by simp <;> lia⟩
      ·have hm:=iy c Ei E9;simpa using hm
      ·intro u j v J;simp at j J;subst j J;exact c.irr
    ·have EI:lt z e=false:=by simpa using Ej
     refine G9 (di c (kp.kind.trans hk) he hz Ey Ex ?_);dsimp only;refine ae (fun Ez => ?_) (fun Ez => ?_)
     ·exact aa ⟨G,F0++[e],z::R',neq,kp,ea,hp,rfl,hF,hN,hE⟩
     ·have E9:lt e z=false:=by simpa using Ez
      refine aa ⟨G,(F0++[e])++[z],R',neq+1,kp,by rw [ea];simp,by simpa using hp,by simp <;> lia,by simp at hF ⊢;lia, ?_, ?_,by simp <;> lia⟩
      ·have hm:=iy c Ei E9;simpa using hm
      ·have EJ:∀ u∈F0++[e],lt u z=false:=fun u j=>by
        cases q1:lt u z with
        | false=>rfl
        | true=>rcases c.neg u e z q1 with r | r
                ·rw [hE u j e (by simp)] at r;cases r
                ·rw [E9] at r;cases r
       have EK:∀ u∈F0++[e],lt z u=false:=fun u j=>by
        cases q1:lt z u with
        | false=>rfl
        | true=>rcases c.neg z e u q1 with r | r
                ·rw [EI] at r;cases r
                ·rw [hE e (by simp) u j] at r;cases r
       intro u j v J
       rcases Gy.mp j with g | g <;> rcases Gy.mp J with g2 | g2
       ·exact hE u g v g2
       ·simp at g2;subst g2;exact EJ u g
       ·simp at g;subst g;exact EK v g2
       ·simp at g g2;subst g g2;exact c.irr
   ·rintro r U ⟨G,F,R,neq,kp,ea,hp,hr,hF,hN,hE,Ew⟩;exact ⟨G,F,R,neq,kp,ea,hp,hr,hF,hN,hE⟩
   ·refine ⟨B,[x],xs.drop (n+1),0,E8,by rw [e1];simp, ?_,by simp [E5],rfl, ?_, ?_,by simp [E5]⟩
    ·have h9:(B++x::xs.drop (n+1)).Perm xs:=by
      have h9:=Hw (x::xs.drop (n+1)) hB;rw [<- exs] at h9;exact h9
     simpa using h9
    ·refine F2.mpr ⟨Mn (fun j J _=>E6 _ j _ J) (List.pairwise_of_forall_mem_list (r:=fun _ _=>True) fun _ _ _ _=>trivial),by simp,fun u j v J => ?_⟩
     simp at J;subst J
     cases q1:lt u v with
     | false=>rfl
     | true=>rcases c.neg u y v q1 with r | r
             ·rw [E6 u j y E7] at r;cases r
             ·rw [c.asym _ _ EF] at r;cases r
    ·intro u j v J;simp at j J;subst j J;exact c.irr
   ·rintro r U ⟨G,F,R,neq,kp,ea,hp,rfl,hF,hN,hE⟩;dsimp -zeta -zetaHave -zetaUnused only
    extract_lets -underBinder +onlyGivenNames vr vs vn2 vq2
    dsimp -zeta -zetaHave -zetaUnused only [vr];have EL:vn2=(G++F).length:=rfl;have eq2:neq=vq2:=rfl
    clear_value vn2 vq2
    clear vs vr;subst EL eq2
    extract_lets -underBinder +onlyGivenNames Eb
    have Ef:∀ (D:List Gc) (Z:Hl),(GS Z).toList=L++(D++R)->cE lt D->(D++R).Perm xs->D.length=(G++F).length->0 < D.length->Kp st' Z->wpS (Gn prog w) A E s (Eb ()) Q Z:=by
     intro D Z e3 Ek El Ec Eg Y;dsimp -zeta -zetaHave -zetaUnused only [Eb];clear Eb;have EM : 0 < D.length:=by lia
     refine G9 (jq (L:=L) (B:=D) (R:=R) e3 rfl (by rw [Ec]) fun EA e4 EB => ?_)
     have o4:Ord lt D.reverse:=Nh.mpr Ek;have Ed:(D.reverse++R).Perm xs:=(Hw _ (KS D)).trans El;have EC:(D.reverse++R).length=xs.length:=Ed.length_eq;have Em:Ord lt ((D.reverse++R).take D.length):=by
      rw [JC (by simp),Ip (by simp)];exact o4
     have Eo:∀ u∈D.reverse++R,P u:=fun u j=>hP u (Ed.mem_iff.mp j);have EN:D.length<=xs.length:=by rw [<- EC];simp
     rw [<- Ec];generalize D.length=N0 at Em EM EN;generalize D.reverse++R=ys at e4 Ed EC Em Eo;refine G9 (az (Q:=fun r E3=>E3=EA /\ ∃ n,r=(none,n)/\1<=n/\n<=xs.length/\Ord lt (ys.take n))
      (Hn (fun i r E3=>E3=EA/\r=(none,i)/\Ord lt (ys.take i)) ?_ ?_ ⟨rfl,rfl,Em⟩) ?_)
     ·rintro i r E3 h1 hi ⟨rfl,rfl,ho⟩;dsimp only;obtain ⟨u,j⟩:∃ u,ys[i]? = some u:=⟨_,tv (by lia)⟩
      obtain ⟨v,J⟩:∃ v,ys[i - 1]? = some v:=⟨_,tv (by lia)⟩
      refine G9 (di c ((Y.trans EB).kind.trans hk) ((bP e4 rfl).trans j) ((bP e4 (by lia)).trans J) (Eo _ (Hc j)) (Eo _ (Hc J)) ?_)
      dsimp only;refine ae (fun h => ?_) (fun h => ?_)
      ·exact aa ⟨rfl,i,rfl,by lia,by lia,ho⟩
      ·exact aa ⟨rfl,rfl,nT c ho (by lia) j J (by simpa using h)⟩
     ·rintro r E3 ⟨rfl,rfl,ho⟩;exact ⟨rfl,_,rfl,by lia,by lia,ho⟩
     ·rintro r E3 ⟨rfl,m,rfl,ET,EU,ho⟩;refine aa ?_;have:=q (ys.take m) (ys.drop m) E3 (by rw [e4,Iz]) (perm_take.trans Ed) (fun z=>by
       have h3:=congrArg Kz z;rw [GZ,Jf] at h3;lia) ho (Y.trans EB)
      rw [GZ,Jg (by lia)] at this
      exact this
    clear_value Eb
    refine ae (fun Ea => ?_) (fun Ea => ?_)
    ·refine G9 (jq (L:=L++G) (B:=F) (R:=R) (by rw [ea];simp) (by simp <;> lia) (by simp <;> lia) fun Z e3 Y => ?_)
     have Y:=kp.trans Y;have e3:(GS Z).toList=L++((G++F.reverse)++R):=by rw [e3];simp
     have Ek:=pZ hN hE;have El:((G++F.reverse)++R).Perm xs:=(Hw _ (H9 _ (KS _))).trans hp;have Ec:(G++F.reverse).length=(G++F).length:=by simp
     have Eg : 0 < (G++F.reverse).length:=by simp <;> lia
     exact Ef _ _ e3 Ek El Ec Eg Y
    ·exact Ef _ _ ea hN hp rfl (by simp <;> lia) kp
  clear_value jp
  refine ae (fun h1 => ?_) (fun h1 => ?_)
  ·obtain ⟨x0,Ep⟩:∃ x0,xs[0]? = some x0:=⟨_,tv Es⟩;refine G9 (di c hk ((bP O (n := 0) (by lia)).trans Ep) ((bP O (by lia)).trans hy) (hP _ (Hc Ep)) (hP _ (Hc hy)) ?_)
   dsimp only;refine ae (fun hr=>aa Ee) (fun hr => ?_);have hr:lt x0 y=false:=by simpa using hr
   have ED:∀ u∈xs.take n,lt u x0=false:=fun u j=>by
    obtain ⟨i,hi,eu⟩:=HR.mp j;have Er:(xs.take n)[i]? = some u:=by rw [<- eu];exact tv hi
    have Eh:(xs.take n)[0]? = some x0:=by rw [Ke (by lia)];exact Ep
    by_cases hi0:i=0
    ·subst hi0;rw [Eh] at Er;cases Er;exact c.irr
    ·exact eG ho (by lia) Eh Er
   have EO:∀ u∈xs.take n,lt y u=false:=gJ c ho (by lia) hy c.irr
   have heq:∀ u∈xs.take n, ∀ v∈xs.take n,lt u v=false:=fun u j v J=>by
    exact c.le_trans (c.le_trans (EO v J) hr) (ED u j)
   refine G9 (jq (L:=L) (B:=xs.take n) (R:=x::xs.drop (n+1)) (by rw [O];exact congrArg (L ++ ·) exs) rfl (by rw [GZ,Jg Et]) fun E4 e1 E8 => ?_)
   have hB:(xs.take n).reverse.Perm (xs.take n):=KS _;have E5:(xs.take n).reverse.length=n:=by rw [NR,GZ];lia
   have E6:∀ u∈(xs.take n).reverse, ∀ v∈(xs.take n).reverse,lt u v=false:=fun u j v J=>heq u (K1.mp j) v (K1.mp J);have E7:y∈(xs.take n).reverse:=K1.mpr Eu;exact Ev _ _ e1 hB E5 E6 E7 E8
  ·have E4:=st';have hn:n=1:=by lia
   have E8:Kp st' st':=Kp.refl;have e1:(GS st').toList=L++(xs.take n++x::xs.drop (n+1)):=by rw [O];exact congrArg (L ++ ·) exs
   have hB:(xs.take n).Perm (xs.take n):=KR _;have E5:(xs.take n).length=n:=by rw [GZ];lia
   have E7:=Eu;have E6:∀ u∈xs.take n, ∀ v∈xs.take n,lt u v=false:=fun u j v J=>by
    have e0:xs.take n=[y]:=by
     subst hn;rw [cq (by lia) hy];rfl
    rw [e0] at j J;simp at j J;subst j J;exact c.irr
   exact Ev _ _ e1 hB E5 E6 E7 E8
end
end Srt
end L2
namespace L2
namespace Srt
open PySem PySem.Spec PyProof.Rows
section
variable {prog:GI} {w:Hf} {A:Hg} {E:gV->h7->Prop} {s:h7} {kd:JX} {P:Gc->Prop} {lt:Gc->Gc->Bool}
theorem ub (c:Cm prog w A s kd P lt) {L r R:List Gc} {n:Nat} {st:Hl} {Q:Bool->Hl->Prop} (hk:HY st=kd) (Z:(GS st).toList=L++(r++R)) (h0:r≠[]) (ho:Ord lt r) (hn:r.length<=n) (E3:n<=(r++R).length) (hP:∀ x∈r++R,P x)
 (q:∀ r' R' st',(GS st').toList=L++(r'++R')->(r'++R').Perm (r++R)->r'.length=n->Ord lt r'->Kp st st'->Q true st'):wpS (Gn prog w) A E s (binarySort' L.length n r.length) Q st:=by
 have E9 : 0 < r.length:=Hs.mpr h0;rw [binarySort'_eq];refine G9 (az (Q:=fun x st'=>x=(none,()) /\ ∃ D T,Kp st st'/\(GS st').toList=L++(D++T)/\(D++T).Perm (r++R)/\D.length=n/\Ord lt D)
  (Hn (fun i x st'=>x=(none,()) /\ ∃ D T,Kp st st'/\(GS st').toList=L++(D++T)/\(D++T).Perm (r++R)/\D.length=i/\Ord lt D) ?_ ?_ ⟨rfl,r,R,Kp.refl,Z,KR _,by lia,ho⟩) ?_)
 ·rintro k x B Ea Eb ⟨rfl,D,T,kp,ea,J,hD,O⟩;dsimp only;subst hD;have hlen:=J.length_eq;rw [D2] at hlen;obtain ⟨z,T',rfl⟩:∃ z T',T=z::T':=by
   cases T with
   | nil=>simp at hlen E3;lia
   | cons z T'=>exact ⟨z,T',rfl⟩
  have E4:∀ u∈D,P u:=fun u G=>hP u (J.mem_iff.mp (Hk _ G));have E5:P z:=hP z (J.mem_iff.mp (by simp))
  have hz:(GS B)[L.length+D.length]? = some z:=by
   rw [bP ea rfl,z4 (by lia),LG];rfl
  refine G9 (az (Q:=fun x st'=>st'=B /\ ∃ k,x=(none,k,k)/\Gal lt false z D k k)
   (Hn (fun i x st'=>st'=B /\ ∃ lo hi,x=(none,lo,hi)/\Gal lt false z D lo hi/\hi - lo+i<=D.length) ?_ ?_ ⟨rfl,0,D.length,rfl,⟨by lia,by lia,fun _ _ h=>by lia,fun i x hi hx=>by
     have:=(GB.mp hx).1;lia⟩,by lia⟩) ?_)
  ·rintro i x U _ hi ⟨rfl,lo,j,rfl,F,hm⟩;dsimp only;have hl:=F.le;have E6:=F.len;refine ae (fun E7 => ?_) (fun E7 => ?_)
   ·exact aa ⟨rfl,j,by rw [show lo=j by lia],by rw [show lo=j by lia] at F;exact F⟩
   ·obtain ⟨u,G⟩:∃ u,D[(lo+j) / 2]? = some u:=⟨_,tv (by lia)⟩
    have E8:(GS U)[L.length+(lo+j) / 2]? = some u:=by
     rw [bP ea rfl,Gs (by lia)];exact G
    refine G9 (di c (kp.kind.trans hk) hz E8 E5 (E4 _ (Hc G)) ?_);dsimp only;refine ae (fun hf => ?_) (fun hf => ?_)
    ·exact aa ⟨rfl,_,_,rfl,⟨by lia,by lia,F.up,gI c O G (by simp [bey,hf])⟩,by lia⟩
    ·exact aa ⟨rfl,_,_,rfl,⟨by lia,E6,gH c O G (by simpa [bey] using hf),F.dn⟩,by lia⟩
  ·rintro x U ⟨rfl,lo,j,rfl,F,hm⟩;have hl:=F.le;exact ⟨rfl,j,by rw [show lo=j by lia],by rw [show lo=j by lia] at F;exact F⟩
  ·rintro x U ⟨rfl,l,rfl,F⟩;dsimp only;obtain ⟨X,Y,e,hl,hX,hY⟩:=F.out;subst hl e;rw [moveDown'_eq];refine G9 (ID ?_);refine aa ⟨rfl,X++z::Y,T',kp.trans ⟨rfl,rfl,rfl⟩,pC ea (by simp) (by simp;lia), ?_,by simp;lia, ?_⟩
   ·refine J8.trans ?_ J;rw [Gu,Gu];refine H9 _ ?_;rw [K5];exact OU.symm
   ·obtain ⟨o1,o2,o3⟩:=F2.mp O;refine F2.mpr ⟨o1,Kq.mpr ⟨fun u G=>c.asym _ _ (by have:=hY u G;simpa [bey] using this),o2⟩,fun u G v hv => ?_⟩
    rcases Gj.mp hv with g | g
    ·subst g;have:=hX u G;simpa [bey] using this
    ·exact o3 u G v g
 ·rintro x B ⟨rfl,D,T,kp,ea,J,hD,O⟩;exact ⟨rfl,D,T,kp,ea,J,by lia,O⟩
 ·rintro x B ⟨rfl,D,T,kp,ea,J,hD,O⟩;exact aa (q D T B ea J hD O kp)
noncomputable def Pd:Nat->List (List Gc)->List (Nat×Nat×Nat)->Prop
 | _,[],ps=>ps=[]
 | s,r::rs,ps => ∃ p t,ps=(s,r.length,p)::t/\Pd (s+r.length) rs t
theorem Pd.split:∀ {l t:List (List Gc)} {s:Nat} {ps:List (Nat×Nat×Nat)},Pd s (l++t) ps -> ∃ pl pt,ps=pl++pt/\pl.length=l.length/\Pd s l pl/\Pd (s+l.flatten.length) t pt
 | [],t,s,ps,h=>⟨[],ps,rfl,rfl,rfl,by simpa using h⟩
 | r::l,t,s,ps,h=>by
   obtain ⟨p,q,e,h⟩:=h;obtain ⟨pl,pt,e2,j,h1,h2⟩:=Pd.split h;refine ⟨(s,r.length,p)::pl,pt,by rw [e,e2];rfl,by simp [j],⟨p,pl,rfl,h1⟩, ?_⟩
   rw [Hv,D2, <- NX];exact h2
theorem Pd.join:∀ {l t:List (List Gc)} {s:Nat} {pl pt:List (Nat×Nat×Nat)},Pd s l pl->Pd (s+l.flatten.length) t pt->Pd s (l++t) (pl++pt)
 | [],t,s,pl,pt,h,g=>by
  have:pl=[]:=h;subst this;simpa using g
 | r::l,t,s,pl,pt,h,g=>by
   obtain ⟨p,q,e,h⟩:=h;subst e;refine ⟨p,q++pt,rfl,Pd.join h ?_⟩;rw [Hv,D2, <- NX] at g;exact g
theorem Pd.length:∀ {l:List (List Gc)} {s:Nat} {ps:List (Nat×Nat×Nat)},Pd s l ps->ps.length=l.length
 | [],_,_,h=>by rw [show _=[] from h];rfl
 | r::l,s,ps,h=>by
   obtain ⟨p,q,e,h⟩:=h;rw [e];simp [h.length]
structure Rn (lt:Gc->Gc->Bool) (kd:JX) (a₀:List Gc) (st:Hl) (rs:List (List Gc)) (R:List Gc):Prop where
 arr:(GS st).toList=rs.flatten++R
 perm:(rs.flatten++R).Perm a₀
 ord:∀ r∈rs,r≠[]/\Ord lt r
 pend:Pd 0 rs (Gw st).toList
 kind:HY st=kd
 fail:IK st=none
theorem Rn.merge (c:Cm prog w A s kd P lt) {a₀:List Gc} (hP:∀ x∈a₀,P x) {st:Hl} {l t:List (List Gc)} {j F R:List Gc} (h:Rn lt kd a₀ st (l++j::F::t) R) {i:Nat} (hi:i=l.length) {Q:Bool->Hl->Prop}
 (q:∀ m st',Rn lt kd a₀ st' (l++m::t) R->m.length=j.length+F.length->Q true st'):wpS (Gn prog w) A E s (PJ i) Q st:=by
 obtain ⟨g,lo,E8,⟨O,U,Y⟩,Z⟩:=D4 (E:=E) c;obtain ⟨pl,pt,ep,J,E3,E4⟩:=h.pend.split;obtain ⟨L,t1,e1,E5⟩:=E4;obtain ⟨p2,t2,e2,E6⟩:=E5;subst e1 e2;have o1:=h.ord j (by simp)
 have o2:=h.ord F (by simp)
 have G:∀ x,x∈j∨x∈F->P x:=fun x hx=>hP x (h.perm.mem_iff.mp (by simp only [J0,Hv,Gy];rcases hx with z | z <;> simp [z]))
 have ip:∀ (k:Nat) (v:Nat×Nat×Nat),(Gw st).toList[k]? = some v->(Gw st)[k]? = some v:=fun k v e=>by rw [<- GC];exact e
 refine Z O (U O) (Y O) i (0+l.flatten.length) j.length L (0+l.flatten.length+j.length) F.length p2 l.flatten j F (t.flatten++R) st Q h.kind h.fail (ip _ _ ?_) (ip _ _ ?_) (by rw [h.arr];simp) (LH _) rfl (by lia) rfl o1.1 o2.1 (fun x hx=>G x (.inl hx)) (fun x hx=>G x (.inr hx)) o1.2 o2.2 ?_
 ·rw [ep,hi, <- J,z4 (by lia),LG];rfl
 ·rw [ep,hi, <- J,z4 (by lia),show pl.length+1 - pl.length=1 by lia];rfl
 ·intro m st' ea hm om hk hf E7;have B:m.length=j.length+F.length:=by rw [hm.length_eq];simp
  refine q m st' ⟨by rw [ea];simp, ?_, ?_, ?_,hk,hf⟩ B
  ·refine J8.trans ?_ h.perm;simp only [J0,Hv,Gu];refine H9 _ ?_;rw [<- Gu j];exact Hw _ hm
  ·intro r hr
   rcases Gy.mp hr with z | z
   ·exact h.ord r (Hk _ z)
   ·rcases Gj.mp z with z | z
    ·subst z;exact ⟨fun z=>by rw [z] at B;have:=Hs.mpr o1.1;simp at B;lia,om⟩
    ·exact h.ord r (by simp [z])
  ·rw [E7];have e3:(((Gw st).setIfInBounds i (0+l.flatten.length,j.length+F.length,L)).eraseIdxIfInBounds (i+1)).toList=pl++(0+l.flatten.length,j.length+F.length,L)::t2:=by
    rw [Array.toList_eraseIdxIfInBounds,LV,ep,hi, <- J];rw [List.set_append_right _ _ (by lia),LG,List.eraseIdx_append_of_length_le (by lia),show pl.length+1 - pl.length=1 by lia];rfl
   rw [e3];refine E3.join ⟨L,t2,by rw [B], ?_⟩
   rw [B, <- NX];exact E6
theorem nU {α:Type} {l:List α} (h : 1 < l.length):∃ t a b,l=t++[a,b]:=by
 obtain ⟨t1,b,e1⟩:∃ t b,l=t++[b]:=⟨l.dropLast,l.getLast (fun z=>by rw [z] at h;simp at h),(IY _).symm⟩
 obtain ⟨j,a,e2⟩:∃ t b,t1=t++[b]:=⟨t1.dropLast,t1.getLast (fun z=>by rw [e1,z] at h;simp at h),(IY _).symm⟩
 exact ⟨j,a,b,by rw [e1,e2];simp⟩
theorem BE {α:Type} {l:List α} {i:Nat} (h:i+1 < l.length):∃ t a b u,l=t++a::b::u/\t.length=i:=by
 refine ⟨l.take i,l[i],l[i+1],l.drop (i+2), ?_,by rw [GZ];lia⟩
 rw [<- HX (by lia), <- HX (by lia),Iz]
theorem Rn.size {a₀:List Gc} {st:Hl} {rs:List (List Gc)} {R:List Gc} (h:Rn lt kd a₀ st rs R):rs.flatten.length+R.length=a₀.length:=by
 have:=h.perm.length_eq;rw [D2] at this;exact this
theorem q0:∀ {rs:List (List Gc)},(∀ r∈rs,r≠[])->rs.length<=rs.flatten.length
 | [],_=>by simp
 | r::rs,h=>by
   have h1:=Hs.mpr (h r (by simp))
   have h2:=q0 (rs:=rs) fun r j=>h r (by simp [j])
   rw [Hv,D2,HJ];lia
theorem uc {l:List (List Gc)} {s pw:Nat} {ps:Array (Nat×Nat×Nat)} (h:Pd s l ps.toList):Pd s l (ps.modify (ps.size - 1) fun x=>(x.1,x.2.1,pw)).toList:=by
 rw [Array.toList_modify];have g:∀ (l:List (List Gc)) (s k:Nat) (ps:List (Nat×Nat×Nat)),Pd s l ps->Pd s l (ps.modify k fun x=>(x.1,x.2.1,pw)):=by
  intro l
  induction l with
  | nil=>intro s k ps h;have:ps=[]:=h;subst this;cases k <;> rfl
  | cons r l ih =>
    intro s k ps h;obtain ⟨p,t,e,h⟩:=h;subst e
    cases k with
    | zero=>exact ⟨pw,t,rfl,h⟩
    | succ k=>exact ⟨p,_,rfl,ih _ k t h⟩
 exact g _ _ _ _ h
theorem pF (c:Cm prog w A s kd P lt) {st:Hl} {Q:Unit->Hl->Prop} (hk:HY st=kd) (hf:IK st=none) (hp:Gw st = #[]) (hP:∀ x∈(GS st).toList,P x)
 (q:∀ st',(GS st').toList.Perm (GS st).toList->Ord lt (GS st').toList->IK st'=none->Q () st'):wpS (Gn prog w) A E s OV Q st:=by
 rw [sortRuns'_eq];refine G9 (Kl ?_)
 try dsimp only
 have hsz:(GS st).size=(GS st).toList.length:=by simp
 generalize hA:(GS st).toList=a₀ at hP q hsz;generalize hS:(GS st).size=size at hsz;generalize minRun' size size 0=minrun;refine G9 (az (Q:=fun r st' => ∃ rs lo,r=(none,lo)/\Rn lt kd a₀ st' rs [])
  (Hn (fun i r st' => ∃ rs R,r=(none,rs.flatten.length)/\Rn lt kd a₀ st' rs R/\i<=rs.flatten.length) ?_ ?_ ⟨[],a₀,rfl,⟨by simpa using hA,by simp,by simp,by rw [hp];rfl,hk,hf⟩,by simp⟩) ?_)
 ·rintro i r Ea _ hi ⟨rs,R,rfl,L,E7⟩
  try dsimp only
  have El:=L.size;refine ae (fun Ei => ?_) (fun Ei => ?_)
  ·have:R=[]:=Hh.mp (by lia)
   subst this;exact aa ⟨rs,_,rfl,L⟩
  ·have Eb:size - rs.flatten.length=R.length:=by lia
   have Ej:R≠[]:=fun z=>by rw [z,Jf] at Eb;lia
   have Ec:∀ x∈R,P x:=fun x hx=>hP x (L.perm.mem_iff.mp (GA _ hx));rw [Eb];refine G9 (pE c L.kind L.arr Ej Ec fun r R1 J ea E3 U ho kp => ?_)
   try dsimp only
   have F:Rn lt kd a₀ J rs (r++R1):=⟨ea,(H9 _ E3).trans L.perm,L.ord,by rw [kp.pend];exact L.pend,kp.kind.trans L.kind,kp.fail.trans L.fail⟩
   have Ed:r.length+R1.length=R.length:=by rw [<- E3.length_eq];simp
   refine ae (fun E8 => ?_) (fun E8 => ?_)
   ·refine G9 (cn ?_);refine G9 (ub c F.kind F.arr U ho (n:=min R.length minrun) (by lia) (by simp;lia) (fun x hx=>Ec x (E3.mem_iff.mp hx)) fun r2 R2 B Ee E6 G Ek E5 => ?_)
    try dsimp only
    refine ae (fun h=>absurd h (by simp)) (fun _ => ?_)
    have Ef:r2≠[]:=fun z=>by
     rw [z] at G;simp at G;have:=Hs.mpr U;lia
    have F:Rn lt kd a₀ B rs (r2++R2):=⟨Ee,(H9 _ E6).trans F.perm,F.ord,by rw [E5.pend];exact F.pend,E5.kind.trans F.kind,E5.fail.trans F.fail⟩
    rw [<- G];clear G E6 Ee E5 ea E3 kp Ed E8;generalize B=J at F;clear ho U;have ho:=Ek;have U:=Ef;generalize r2=r at F ho U;generalize R2=R1 at F;refine G9 (Kl ?_)
    try dsimp only
    have Eg:(Gw J).size=rs.length:=by rw [<- GD];exact F.pend.length
    cases hb:(Gw J).back? with
    | none =>
      try dsimp only
      have HL:rs.flatten.length=rs.flatten.length:=rfl;refine G9 (ID ?_);have E9:=Hs.mpr U;have Y:(rs++[r]).flatten.length=rs.flatten.length+r.length:=by rw [J0,D2,HL];simp
      refine aa ⟨rs++[r],R1,by rw [Y],⟨by rw [show _=_ from F.arr];simp, ?_, ?_, ?_,F.kind,F.fail⟩,by rw [Y];lia⟩
      ·refine J8.trans (JJ (by simp)) F.perm
      ·intro u hu
       rcases Gy.mp hu with z | z
       ·exact F.ord u z
       ·simp at z;subst z;exact ⟨U,ho⟩
      ·have h8:(Gw (Kr J ((Gw J).push (rs.flatten.length,r.length,0)))).toList=(Gw J).toList++[(rs.flatten.length,r.length,0)]:=by
        show ((Gw J).push _).toList=_;rw [Gv]
       rw [show _=_ from h8];exact F.pend.join ⟨0,[],by rw [HL,LH],rfl⟩
    | some v =>
      obtain ⟨s1,n1,p1⟩:=v
      try dsimp only
      refine G9 (az (Q:=fun x st'=>x=(none,()) /\ ∃ rs',Rn lt kd a₀ st' rs' (r++R1)/\rs'.flatten.length=rs.flatten.length)
       (Hn (fun i x st'=>x=(none,()) /\ ∃ rs',Rn lt kd a₀ st' rs' (r++R1)/\rs'.flatten.length=rs.flatten.length) ?_ ?_ ⟨rfl,rs,F,rfl⟩) ?_)
      ·rintro j x B _ hj ⟨rfl,rs',O,G⟩;refine G9 (Kl ?_)
       try dsimp only
       have E4:(Gw B).size=rs'.length:=by rw [<- GD];exact O.pend.length
       by_cases h1:(Gw B).size > 1
       ·rw [if_pos h1];have h2:(Gw B)[(Gw B).size - 2]? = some ((Gw B)[(Gw B).size - 2]'(by lia)):=Hj (by lia)
        rw [h2]
        try dsimp only
        refine ae (fun h => ?_) (fun h => ?_)
        ·exact aa ⟨rfl,rs',O,G⟩
        ·obtain ⟨t,a,b,e⟩:=nU (l:=rs') (by lia)
         subst e;refine G9 (O.merge c hP (by rw [E4];simp) fun m Z h4 hm => ?_)
         refine ae (fun h=>absurd h (by simp)) (fun _=>aa ⟨rfl,_,h4, ?_⟩)
         rw [<- G];simp [hm]
       ·rw [if_neg h1];exact aa ⟨rfl,rs',O,G⟩
      ·rintro x B ⟨rfl,rs',O,G⟩;exact ⟨rfl,rs',O,G⟩
      ·rintro x B ⟨rfl,rs',O,G⟩
       try dsimp only
       refine G9 (ID ?_);have h4:Rn lt kd a₀ (Kr B ((Gw B).modify ((Gw B).size - 1) fun x=>(x.1,x.2.1,power' size (2*s1+n1) (2*s1+n1+n1+r.length) size))) rs' (r++R1):=⟨O.arr,O.perm,O.ord,uc O.pend,O.kind,O.fail⟩;generalize Eh:Kr B ((Gw B).modify ((Gw B).size - 1) fun x=>(x.1,x.2.1,power' size (2*s1+n1) (2*s1+n1+n1+r.length) size))=Z at h4;have HL:=G;refine G9 (ID ?_);have E9:=Hs.mpr U;have Y:(rs'++[r]).flatten.length=rs.flatten.length+r.length:=by rw [J0,D2,HL];simp
       refine aa ⟨rs'++[r],R1,by rw [Y],⟨by rw [show _=_ from h4.arr];simp, ?_, ?_, ?_,h4.kind,h4.fail⟩,by rw [Y];lia⟩
       ·refine J8.trans (JJ (by simp)) h4.perm
       ·intro u hu
        rcases Gy.mp hu with z | z
        ·exact h4.ord u z
        ·simp at z;subst z;exact ⟨U,ho⟩
       ·have h8:(Gw (Kr Z ((Gw Z).push (rs.flatten.length,r.length,0)))).toList=(Gw Z).toList++[(rs.flatten.length,r.length,0)]:=by
         show ((Gw Z).push _).toList=_;rw [Gv]
        rw [show _=_ from h8];exact h4.pend.join ⟨0,[],by rw [HL,LH],rfl⟩
   ·clear ea E3 kp Ed E8;refine G9 (Kl ?_)
    try dsimp only
    have Eg:(Gw J).size=rs.length:=by rw [<- GD];exact F.pend.length
    cases hb:(Gw J).back? with
    | none =>
      try dsimp only
      have HL:rs.flatten.length=rs.flatten.length:=rfl;refine G9 (ID ?_);have E9:=Hs.mpr U;have Y:(rs++[r]).flatten.length=rs.flatten.length+r.length:=by rw [J0,D2,HL];simp
      refine aa ⟨rs++[r],R1,by rw [Y],⟨by rw [show _=_ from F.arr];simp, ?_, ?_, ?_,F.kind,F.fail⟩,by rw [Y];lia⟩
      ·refine J8.trans (JJ (by simp)) F.perm
      ·intro u hu
       rcases Gy.mp hu with z | z
       ·exact F.ord u z
       ·simp at z;subst z;exact ⟨U,ho⟩
      ·have h8:(Gw (Kr J ((Gw J).push (rs.flatten.length,r.length,0)))).toList=(Gw J).toList++[(rs.flatten.length,r.length,0)]:=by
        show ((Gw J).push _).toList=_;rw [Gv]
       rw [show _=_ from h8];exact F.pend.join ⟨0,[],by rw [HL,LH],rfl⟩
    | some v =>
      obtain ⟨s1,n1,p1⟩:=v
      try dsimp only
      refine G9 (az (Q:=fun x st'=>x=(none,()) /\ ∃ rs',Rn lt kd a₀ st' rs' (r++R1)/\rs'.flatten.length=rs.flatten.length)
       (Hn (fun i x st'=>x=(none,()) /\ ∃ rs',Rn lt kd a₀ st' rs' (r++R1)/\rs'.flatten.length=rs.flatten.length) ?_ ?_ ⟨rfl,rs,F,rfl⟩) ?_)
      ·rintro j x B _ hj ⟨rfl,rs',O,G⟩;refine G9 (Kl ?_)
       try dsimp only
       have E4:(Gw B).size=rs'.length:=by rw [<- GD];exact O.pend.length
       by_cases h1:(Gw B).size > 1
       ·rw [if_pos h1];have h2:(Gw B)[(Gw B).size - 2]? = some ((Gw B)[(Gw B).size - 2]'(by lia)):=Hj (by lia)
        rw [h2]
        try dsimp only
        refine ae (fun h => ?_) (fun h => ?_)
        ·exact aa ⟨rfl,rs',O,G⟩
        ·obtain ⟨t,a,b,e⟩:=nU (l:=rs') (by lia)
         subst e;refine G9 (O.merge c hP (by rw [E4];simp) fun m Z h4 hm => ?_)
         refine ae (fun h=>absurd h (by simp)) (fun _=>aa ⟨rfl,_,h4, ?_⟩)
         rw [<- G];simp [hm]
       ·rw [if_neg h1];exact aa ⟨rfl,rs',O,G⟩
      ·rintro x B ⟨rfl,rs',O,G⟩;exact ⟨rfl,rs',O,G⟩
      ·rintro x B ⟨rfl,rs',O,G⟩
       try dsimp only
       refine G9 (ID ?_);have h4:Rn lt kd a₀ (Kr B ((Gw B).modify ((Gw B).size - 1) fun x=>(x.1,x.2.1,power' size (2*s1+n1) (2*s1+n1+n1+r.length) size))) rs' (r++R1):=⟨O.arr,O.perm,O.ord,uc O.pend,O.kind,O.fail⟩;generalize Eh:Kr B ((Gw B).modify ((Gw B).size - 1) fun x=>(x.1,x.2.1,power' size (2*s1+n1) (2*s1+n1+n1+r.length) size))=Z at h4;have HL:=G;refine G9 (ID ?_);have E9:=Hs.mpr U;have Y:(rs'++[r]).flatten.length=rs.flatten.length+r.length:=by rw [J0,D2,HL];simp
       refine aa ⟨rs'++[r],R1,by rw [Y],⟨by rw [show _=_ from h4.arr];simp, ?_, ?_, ?_,h4.kind,h4.fail⟩,by rw [Y];lia⟩
       ·refine J8.trans (JJ (by simp)) h4.perm
       ·intro u hu
        rcases Gy.mp hu with z | z
        ·exact h4.ord u z
        ·simp at z;subst z;exact ⟨U,ho⟩
       ·have h8:(Gw (Kr Z ((Gw Z).push (rs.flatten.length,r.length,0)))).toList=(Gw Z).toList++[(rs.flatten.length,r.length,0)]:=by
         show ((Gw Z).push _).toList=_;rw [Gv]
        rw [show _=_ from h8];exact h4.pend.join ⟨0,[],by rw [HL,LH],rfl⟩
 ·rintro r Ea ⟨rs,R,rfl,L,E7⟩;have:=L.size;have:R=[]:=Hh.mp (by lia)
  subst this;exact ⟨rs,_,rfl,L⟩
 ·rintro r Ea ⟨rs,lo,rfl,L⟩
  try dsimp only
  refine G9 (az (Q:=fun r st'=>r=(none,()) /\ ∃ rs,Rn lt kd a₀ st' rs []/\rs.length<=1)
   (Hn (fun i r st'=>r=(none,()) /\ ∃ rs,Rn lt kd a₀ st' rs []/\rs.length+i<=size) ?_ ?_ ⟨rfl,rs,L, ?_⟩) ?_)
  ·rintro i r J _ hi ⟨rfl,rs,L,E7⟩;refine G9 (Kl ?_)
   try dsimp only
   have Eg:(Gw J).size=rs.length:=by rw [<- GD];exact L.pend.length
   refine ae (fun h => ?_) (fun h => ?_)
   ·exact aa ⟨rfl,rs,L,by lia⟩
   ·have go:∀ k,k+1 < rs.length->wpS (Gn prog w) A E s (PJ k) (fun b st'=>b=true /\ ∃ rs',Rn lt kd a₀ st' rs' []/\rs'.length+1=rs.length) J:=by
     intro k hk;obtain ⟨t,a,b,u,e,ht⟩:=BE hk;subst e;refine L.merge c hP ht.symm fun m B O _=>⟨rfl,_,O,by simp;lia⟩
    refine G9 (az (go _ ?_) ?_)
    ·(repeat' split) <;> lia
    ·rintro b B ⟨rfl,rs',O,G⟩;refine ae (fun h=>absurd h (by simp)) (fun _=>aa ⟨rfl,rs',O,by lia⟩)
  ·rintro r J ⟨rfl,rs,L,E7⟩;exact ⟨rfl,rs,L,by lia⟩
  ·have h1:=q0 fun r hr=>(L.ord r hr).1;have h2:=L.size;simp only [Jf] at h2;lia
  ·rintro r J ⟨rfl,rs,L,hl⟩;refine aa (q J (by rw [L.arr];exact L.perm) ?_ L.fail)
   rw [L.arr,HU]
   match rs,hl,L with
   | [],_,_=>exact Mg
   | [r],_,L=>simpa using (L.ord r (by simp)).2
end
end Srt
end L2
namespace L2
namespace Srt
open PySem PySem.Spec PyProof.Rows
def cr (cap:Nat):Prop := ∀ (prog:GI) (w:Hf) (A:Hg) (E:gV->h7->Prop) (s:h7) (kd:JX) (P:Gc->Prop) (lt:Gc->Gc->Bool),Cm prog w A s kd P lt -> ∀ (st:Hl) (Q:Unit->Hl->Prop),HY st=kd->IK st=none->Gw st = #[]->(∀ x∈(GS st).toList,P x)->2<=(GS st).size->(GS st).size<=cap ->
 (∀ st',(GS st').toList.Perm (GS st).toList->Ord lt (GS st').toList->IK st'=none->Q () st')->wpS (Gn prog w) A E s OV Q st
theorem cc {cap:Nat}:cr cap:=fun _ _ _ _ _ _ _ _ c _ _ j hf z B _ _ q=>pF c j hf z B q
end Srt
end L2
namespace L2
namespace Srt
open PySem PySem.Spec PyProof.Rows
inductive Ky where
 | int (i:Int)
 | tup (l:List Ky)
mutual
noncomputable def ar:Ky->Ky->Ordering
 | .int a, .int b=>if a < b then .lt else if a=b then .eq else .gt
 | .int _, .tup _ => .lt
 | .tup _, .int _ => .gt
 | .tup a, .tup b=>cmpKs a b
noncomputable def cmpKs:List Ky->List Ky->Ordering
 | [],[] => .eq
 | [],_::_ => .lt
 | _::_,[] => .gt
 | x::xs,y::ys=>(ar x y).then (cmpKs xs ys)
end
mutual
theorem cF:∀ a b,ar b a=(ar a b).swap
 | .int a, .int b=>by
  simp only [ar]
  by_cases h1:a < b
  ·rw [if_pos h1,if_neg (by lia),if_neg (by lia)];rfl
  ·by_cases h2:a=b
   ·rw [if_neg h1,if_pos h2,if_neg (by lia),if_pos h2.symm];rfl
   ·rw [if_neg h1,if_neg h2,if_pos (by lia)];rfl
 | .int _, .tup _=>by simp [ar]
 | .tup _, .int _=>by simp [ar]
 | .tup a, .tup b=>by simp only [ar];exact cmpKs_swap a b
theorem cmpKs_swap:∀ a b,cmpKs b a=(cmpKs a b).swap
 | [],[] => rfl
 | [],_::_=>rfl
 | _::_,[] => rfl
 | x::xs,y::ys=>by
   simp only [cmpKs];rw [cF x y,cmpKs_swap xs ys]
   cases ar x y <;> rfl
end
mutual
theorem gK:∀ a b,ar a b = .eq->a=b
 | .int a, .int b,h=>by
  simp only [ar] at h
  by_cases h1:a < b
  ·rw [if_pos h1] at h;cases h
  ·by_cases h2:a=b
   ·rw [h2]
   ·rw [if_neg h1,if_neg h2] at h;cases h
 | .int _, .tup _,h=>by simp [ar] at h
 | .tup _, .int _,h=>by simp [ar] at h
 | .tup a, .tup b,h=>by simp only [ar] at h;rw [cmpKs_eq a b h]
theorem cmpKs_eq:∀ a b,cmpKs a b = .eq->a=b
 | [],[],_=>rfl
 | [],_::_,h=>by simp [cmpKs] at h
 | _::_,[],h=>by simp [cmpKs] at h
 | x::xs,y::ys,h=>by
   simp only [cmpKs] at h
   cases e:ar x y with
   | lt=>rw [e] at h;cases h
   | gt=>rw [e] at h;cases h
   | eq=>rw [e] at h;rw [gK x y e,cmpKs_eq xs ys h]
end
mutual
theorem jr:∀ a b c,ar a b = .lt->ar b c = .lt->ar a c = .lt
 | .int a, .int b, .int c,h,g=>by
  simp only [ar] at h g ⊢;have h1:a < b:=by
   by_cases h1:a < b
   ·exact h1
   ·rw [if_neg h1] at h;split at h <;> cases h
  have h2:b < c:=by
   by_cases h1:b < c
   ·exact h1
   ·rw [if_neg h1] at g;split at g <;> cases g
  rw [if_pos (by lia)]
 | .int _, .tup _, .int _,_,g=>by simp [ar] at g
 | .int _, .int _, .tup _,_,_=>by simp [ar]
 | .int _, .tup _, .tup _,_,_=>by simp [ar]
 | .tup _, .int _,_,h,_=>by simp [ar] at h
 | .tup _, .tup _, .int _,_,g=>by simp [ar] at g
 | .tup a, .tup b, .tup c,h,g=>by simp only [ar] at h g ⊢;exact cmpKs_trans a b c h g
theorem cmpKs_trans:∀ a b c,cmpKs a b = .lt->cmpKs b c = .lt->cmpKs a c = .lt
 | [],[],_,h,_=>by simp [cmpKs] at h
 | [],_::_,[],_,g=>by simp [cmpKs] at g
 | [],_::_,_::_,_,_=>by simp [cmpKs]
 | _::_,[],_,h,_=>by simp [cmpKs] at h
 | _::_,_::_,[],_,g=>by simp [cmpKs] at g
 | x::xs,y::ys,z::zs,h,g=>by
   simp only [cmpKs] at h g ⊢
   cases e:ar x y with
   | gt=>rw [e] at h;cases h
   | eq =>
     have:=gK x y e;subst this;rw [e] at h
     cases e2:ar x z with
     | gt=>rw [e2] at g;cases g
     | lt=>rfl
     | eq=>rw [e2] at g;exact cmpKs_trans xs ys zs h g
   | lt =>
     cases e2:ar y z with
     | gt=>rw [e2] at g;cases g
     | lt=>rw [jr x y z e e2];rfl
     | eq =>
       have:=gK y z e2;subst this;rw [e];rfl
end
noncomputable def ltK (a b:Ky):Bool:=ar a b == .lt
noncomputable def nV (a b:List Ky):Bool:=cmpKs a b == .lt
theorem iz (a b:Ky) (h:ltK a b=true):ltK b a=false:=by
 unfold ltK at h ⊢;rw [cF a b,(by simpa using h:ar a b = .lt)];rfl
theorem fV (a b:Ky) (h:ltK a b=false) (g:ltK b a=false):a=b:=by
 unfold ltK at h g;rw [cF a b] at g;apply gK
 cases e:ar a b with
 | eq=>rfl
 | lt=>rw [e] at h;cases h
 | gt=>rw [e] at g;cases g
theorem zF (a b c:Ky) (h:ltK a c=true):ltK a b=true∨ltK b c=true:=by
 cases e:ltK a b with
 | true=>exact .inl rfl
 | false =>
   right
   cases e2:ltK b a with
   | false=>rw [fV a b e e2] at h;exact h
   | true =>
     unfold ltK at h e2 ⊢;rw [jr b a c (by simpa using e2) (by simpa using h)];rfl
theorem ud (x y:Ky) (xs ys:List Ky):nV (x::xs) (y::ys)=if (!ltK x y && !ltK y x)=true then nV xs ys else ltK x y:=by
 unfold nV ltK;rw [cF x y];simp only [cmpKs]
 cases ar x y <;> simp
mutual
noncomputable def toK:HE->Ky
 | .int i => .int i
 | .tuple xs => .tup (toKs xs)
 | _ => .int 0
noncomputable def toKs:List HE->List Ky
 | [] => []
 | x::xs=>toK x::toKs xs
end
inductive Cmpb:HE->HE->Prop where
 | int (a b:Int):Cmpb (.int a) (.int b)
 | nil (ys:List HE):Cmpb (.tuple []) (.tuple ys)
 | nil' (xs:List HE):Cmpb (.tuple xs) (.tuple [])
 | cons {x y:HE} {xs ys:List HE}:Cmpb x y->Cmpb (.tuple xs) (.tuple ys)->Cmpb (.tuple (x::xs)) (.tuple (y::ys))
theorem Cmpb.eqv {x y:HE} (h:Cmpb x y):GR x y=(!ltK (toK x) (toK y) && !ltK (toK y) (toK x)):=by
 have g:∀ {x y:HE},Cmpb x y->GR x y=(ar (toK x) (toK y) == .eq):=by
  intro x y h
  induction h with
  | int a b =>
    simp only [GR,toK,ar]
    by_cases h1:a < b
    ·rw [if_pos h1];simp;lia
    ·by_cases h2:a=b
     ·rw [if_neg h1,if_pos h2];simp [h2]
     ·rw [if_neg h1,if_neg h2];simp;lia
  | nil ys=>cases ys <;> simp [GR,HC,toK,toKs,ar,cmpKs]
  | nil' xs=>cases xs <;> simp [GR,HC,toK,toKs,ar,cmpKs]
  | @cons x y xs ys h1 h2 ih1 j =>
   simp only [GR] at j ⊢;simp only [HC,toK,toKs,ar,cmpKs] at j ⊢;rw [ih1,j]
   cases ar (toK x) (toK y) <;> simp
 rw [g h];unfold ltK;rw [cF (toK x) (toK y)]
 cases ar (toK x) (toK y) <;> rfl
section
variable {prog:GI} {w:Hf} {A:Hg} {E:gV->h7->Prop} {s:h7}
theorem trd {b:Bool} {Q:Bool->h7->Prop} (q:Q b s):Gm (Gn prog w) A (truthOfDropped (.bool b)) Q E s:=by
 unfold truthOfDropped
 wp_walk
 exact q
theorem gL (a b:Int):ltK (.int a) (.int b)=decide (a < b):=by
 simp only [ltK,ar]
 by_cases h:a < b
 ·simp [h]
 ·by_cases h2:a=b <;> simp [h,h2]
theorem nW {a b:Int} {t u:Tok} {Q:gV->h7->Prop} (q:Q (.bool (decide (a < b))) s):Gm (Gn prog w) A (P7 .Lt (.int a t) (.int b u)) Q E s :=
 wpAny_richCompare_same (T := "int") rfl rfl F.slot_int_lt (call_int_lt ⟨by simp,q⟩)
noncomputable def bS:List HE->List HE->Option Bool
 | x::xs,y::ys=>if GR x y=true then bS xs ys else some (ltK (toK x) (toK y))
 | _,_=>none
theorem iA:∀ {xs ys:List HE},Cmpb (.tuple xs) (.tuple ys)->ltK (toK (.tuple xs)) (toK (.tuple ys))=match bS xs ys with | some b=>b | none=>decide (xs.length < ys.length)
 | [],[],_=>rfl
 | [],_::_,_=>by simp [bS,toK,toKs,ltK,ar,cmpKs]
 | _::_,[],_=>by simp [bS,toK,toKs,ltK,ar,cmpKs]
 | x::xs,y::ys,h=>by
   cases h with
   | cons h1 h2 =>
     have ih:=iA h2;have e:∀ a b:List Ky,ltK (.tup a) (.tup b)=nV a b:=fun a b=>by simp [ltK,nV,ar]
     simp only [toK,toKs,e] at ih ⊢;rw [ud, <- h1.eqv];simp only [bS]
     split
     ·rw [ih];simp
     ·rfl
noncomputable def ca {α β:Type} (M:Kv) (A:Hg) (E:gV->h7->Prop) (f : α -> β -> Sem (ForInStep β)) (Q : β -> h7->Prop):List α -> β -> h7->Prop
 | [],c,s=>Q c s
 | x::xs,c,s=>Gm M A (f x c) (fun r s'=>match r with | .done c'=>Q c' s' | .yield c'=>ca M A E f Q xs c' s') E s
theorem eX {α β:Type} {M:Kv} {f : α -> β -> Sem (ForInStep β)} {Q : β -> h7->Prop}:∀ {l:List α} {c : β} {s:h7},ca M A E f Q l c s->Gm M A (forIn l c f) Q E s
 | [],c,s,h=>by rw [Nv];exact q7 h
 | x::xs,c,s,h=>by
   rw [JI];refine e6 (HF h (fun r s' j => ?_) fun _ _ z=>z)
   cases r with
   | done c'=>exact q7 j
   | yield c'=>exact eX j
theorem bC {h:Heap}:∀ {vs:List gV} {xs:List HE} {as:List Addr},Nz h vs xs as->vs.length=xs.length
 | _,_,_, .nil=>rfl
 | _,_,_, .cons _ r=>by simp [bC r]
theorem iB {α β:Type} {M:Kv} {n:Nat} {f : α -> Option β × Unit->Sem (ForInStep (Option β × Unit))} {g:Bool -> β} {pr : α -> gV×gV} {Q:Option β × Unit->h7->Prop} :
 ∀ {l:List α} {vs us:List gV} {xs ys:List HE} {as bs:List Addr},l.map pr=vs.zip us->Nz s.heap vs xs as->Nz s.heap us ys bs->Cmpb (.tuple xs) (.tuple ys)->HN xs=true->HN ys=true->IW xs<=n ->
  (∀ (z : α) (x y:gV) (d e:HE) (as bs:List Addr) (R:ForInStep (Option β × Unit)->h7->Prop),z∈l->pr z=(x,y)->Ki s.heap x d as->Ki s.heap y e bs->Cmpb d e->d.canLay0=true->e.canLay0=true->d.depth<=n ->
   R (if GR d e=true then .yield (none,()) else .done (some (g (ltK (toK d) (toK e))),())) s->Gm M A (f z (none,())) R E s) ->
  Q ((bS xs ys).map g,()) s->ca M A E f Q l (none,()) s
 | [],vs,us,xs,ys,as,bs,e,j,B,F,_,_,_,_,q=>by
  have h1:=bC j;have h2:=bC B;have:vs=[]∨us=[]:=by
   cases vs with
   | nil=>exact .inl rfl
   | cons v vs=>cases us with
     | nil=>exact .inr rfl
     | cons u us=>simp at e
  have e2:bS xs ys=none:=by
   rcases this with rfl | rfl
   ·cases xs with
    | nil=>simp [bS]
    | cons x xs=>simp at h1
   ·cases ys with
    | nil=>cases xs <;> simp [bS]
    | cons y ys=>simp at h2
  rw [e2] at q;exact q
 | z::l,vs,us,xs,ys,as,bs,e,j,B,F,lx,ly,hd,hf,q=>by
   cases j with
   | nil=>simp at e
   | cons rx j =>
     cases B with
     | nil=>simp at e
     | cons ry B =>
       simp only [Gr,List.zip_cons_cons,Nb] at e;simp only [HN,hH] at lx ly;simp only [IW] at hd
       cases F with
       | cons c1 G =>
         simp only [ca];refine hf z _ _ _ _ _ _ _ (by simp) e.1 rx ry c1 lx.1 ly.1 (by lia) ?_
         simp only [bS] at q
         split at q
         ·next h =>
          rw [if_pos h];exact iB e.2 j B G lx.2 ly.2 (by lia) (fun z x y d e as bs R J=>hf z x y d e as bs R (by simp [J])) q
         ·next h =>
          rw [if_neg h];exact q
def DV (n:Nat):Prop := ∀ (prog:GI) (w:Hf) (A:Hg) (s:h7) (a b:gV) (d e:HE) (as bs:List Addr) (E:gV->h7->Prop) (Q:gV->h7->Prop),d.depth<=n->Cmpb d e->Ki s.heap a d as->Ki s.heap b e bs->d.canLay0=true->e.canLay0=true->A.units+n+1 < Ij ->
 Q (.bool (ltK (toK d) (toK e))) s->Gm (Gn prog w) A (P7 .Lt a b) Q E s
theorem D5:∀ n,DV n:=by
 intro n
 induction n with
 | zero =>
   intro prog w A s a b d e as bs E Q hd z ra rb ld le Y q
   cases z with
   | int i j =>
     cases ra;cases rb
     exact nW (by rw [<- gL];exact q)
   | nil ys=>simp [JF] at hd
   | nil' xs=>simp [JF] at hd
   | cons _ _=>simp [JF] at hd
 | succ n ih =>
   intro prog w A s a b d e as bs E Q hd z ra rb ld le Y q;have tup:∀ xs ys,d = .tuple xs->e = .tuple ys->Gm (Gn prog w) A (P7 .Lt a b) Q E s:=by
    rintro xs ys rfl rfl
    cases ra with
    | tuple h1 h2 Z G =>
      cases rb with
      | tuple g1 g2 g3 J =>
        rename_i l ol vl nl p ob vb nb;have tl:s.TypeIs (.ref l) "tuple" := ⟨_,h1,h2⟩;have tb:s.TypeIs (.ref p) "tuple" := ⟨_,g1,g2⟩;refine wpAny_richCompare_same_room tl tb Ph (H8 Ph tl F.entry_tuple_lt ?_ (F.args_tuple_lt_2 _ _)) (by lia)
        unfold Im.«tuple.__lt__»;refine e6 ?_;have L:isSubtype (.type "tuple") (.type "tuple")=pure true:=by rw [LW];kernel_rfl
        wp_walk
        rw [Z]
        wp_walk
        rw [g3];refine q7 ?_;refine q7 ?_;refine e6 (eX (iB (n:=n) (g:=fun b=>Fin.done (Flow.ret (Pp b))) (pr:=id) (List.map_id _) G J z ld le (by simp [JF] at hd;lia) ?_ ?_))
        ·rintro ⟨x,y⟩ x' y' d e as bs R _ hz rx ry z ld le hd r
         cases hz
         dsimp only;refine e6 (Mz d e _ _ _ _ _ _ rx ry ld le ?_ prog w E _ ?_)
         ·show A.units+1+min d.depth e.depth < Ij;lia
         ·by_cases B:GR d e=true
          ·rw [if_pos B] at r;rw [B];exact q7 r
          ·rw [if_neg B] at r;have B:GR d e=false:=by simpa using B
           rw [B];refine e6 (IC (e6 (ih prog w _ s x y d e as bs E _ hd z rx ry ld le ?_ ?_)))
           ·show A.units+1+n+1 < Ij;lia
           ·exact q7 r
        ·have e1:=iA z
         cases e2:bS xs ys with
         | some b =>
           rw [e2] at e1;dsimp only at e1;rw [e1] at q;exact q7 ⟨_,rfl,by simp,q⟩
         | none =>
           rw [e2] at e1;dsimp only at e1;rw [e1] at q;have O:=bC G;have U:=bC J;refine q7 ⟨_,rfl, ?_, ?_⟩
           ·simp [L3]
           ·simp only [GD] at O U;simp only [L3];rw [O,U];exact q
   cases z with
   | int i j =>
     cases ra;cases rb
     exact nW (by rw [<- gL];exact q)
   | nil ys=>exact tup _ _ rfl rfl
   | nil' xs=>exact tup _ _ rfl rfl
   | cons _ _=>exact tup _ _ rfl rfl
end
end Srt
end L2
namespace L2
namespace Srt
open PySem PySem.Spec PyProof.Rows
section
variable {prog:GI} {w:Hf} {A:Hg} {E:gV->h7->Prop} {s:h7}
theorem jt {α β:Type} {M:Kv} {f : α -> Sem β} {g : α -> β}:∀ {l:List α} {Q:List β -> h7->Prop},(∀ x∈l, ∀ R : β -> h7->Prop,R (g x) s->Gm M A (f x) R E s)->Q (l.map g) s->Gm M A (l.mapM f) Q E s
 | [],Q,_,q=>by rw [List.mapM_nil];exact q7 q
 | x::xs,Q,h,q=>by
   rw [List.mapM_cons];refine e6 (h x (by simp) _ (e6 (jt (fun y j=>h y (by simp [j])) (q7 q))))
theorem cG {α β:Type} {M:Kv} {f : α -> Sem β} {g : α -> β} {xs:Array α} {Q:Array β -> h7->Prop} (h:∀ x∈xs.toList, ∀ R : β -> h7->Prop,R (g x) s->Gm M A (f x) R E s) (q:Q (xs.map g) s):Gm M A (xs.mapM f) Q E s:=by
 rw [Array.mapM_eq_mapM_toList];rw [map_eq_pure_bind];refine e6 (jt h (q7 ?_));have:(xs.toList.map g).toArray=xs.map g:=by
  apply JA.mp;simp
 rw [this];exact q
theorem lh {a:Addr} {v:gV} {vs:List gV} {o:Obj} {n:Nat} (h1:s.heap.get? a=some o) (h2:o.cls = .type "tuple") (j:o.data = .seq (v::vs).toArray n) {Q:Option gV->h7->Prop} (q:Q (some v) s):Gm (Gn prog w) A (NY (.ref a)) Q E s:=by
 unfold NY;have ty:s.TypeIs (.ref a) "tuple" := ⟨_,h1,h2⟩
 wp_walk
 rw [j];refine q7 ?_;refine q7 ?_;exact q7 q
theorem jZ {a:Addr} {o:Obj} {T:gV} (h1:s.heap.get? a=some o) (h2:o.cls=T) {Q:gV->h7->Prop} (q:Q T s):Gm (Gn prog w) A (typeOf (.ref a)) Q E s:=by
 wp_walk
 rw [h2];exact q
theorem ue {n:Nat} {x y:gV} {d e:HE} {as bs:List Addr} (j:Cmpb d e) (rx:Ki s.heap x d as) (ry:Ki s.heap y e bs) (ld:d.canLay0=true) (le:e.canLay0=true) (hd:d.depth<=n) (z:A.units+n+1 < Ij) {Q:Bool->h7->Prop} (q:Q (ltK (toK d) (toK e)) s):Gm (Gn prog w) A (oneLt' false x y) Q E s:=by
 rw [oneLt'_eq];exact e6 (D5 n prog w A s x y d e as bs E _ hd j rx ry ld le z (trd q))
theorem lj {n:Nat} {b:Bool} {x y:gV} {xs ys:List HE} {as bs:List Addr} (hb:b=true -> ∀ d e,xs.head? = some d->ys.head? = some e->(∃ i,d = .int i) /\ ∃ i,e = .int i)
 (F:Cmpb (.tuple xs) (.tuple ys)) (rx:Ki s.heap x (.tuple xs) as) (ry:Ki s.heap y (.tuple ys) bs) (lx:HN xs=true) (ly:HN ys=true) (hd:IW xs<=n) (hu:A.units+n+1 < Ij) {Q:Bool->h7->Prop} (q:Q (ltK (toK (.tuple xs)) (toK (.tuple ys))) s) :
 Gm (Gn prog w) A (keyLt' (tuples' b) x y) Q E s:=by
 cases rx with
 | tuple h1 h2 h3 G =>
   cases ry with
   | tuple g1 g2 g3 J =>
     refine e6 (MZ h1 h3 ?_);refine e6 (MZ g1 g3 ?_);refine e6 (eX (iB (n:=n) (g:=id) (pr:=Prod.fst) (List.zipIdx_map_fst _ _) G J F lx ly hd ?_ ?_))
     ·rintro ⟨⟨x,y⟩,i⟩ x' y' d e as bs R hz hp rx ry F ld le hd r
      cases hp
      dsimp only;refine e6 (Mz d e _ _ _ _ _ _ rx ry ld le (by lia) prog w E _ ?_)
      by_cases B:GR d e=true
      ·rw [if_pos B] at r;rw [B];exact q7 r
      ·rw [if_neg B] at r;have B:GR d e=false:=by simpa using B
       rw [B];refine e6 ?_
       by_cases z:(b&&i==0)=true
       ·rw [z];simp only [hH,beq_iff_eq] at z;obtain ⟨rfl,rfl⟩:=z;have j:=List.mem_zipIdx_iff_getElem?.mp hz;obtain ⟨L,O,t1,U,e1,e2⟩:∃ (L O:Int) (t1 U:Tok),x = .int L t1/\y = .int O U:=by
         generalize hV:MJ _=vl at G j;generalize hU:MJ _=ul at J j
         cases G with
         | nil=>simp at j
         | cons p1 p2 =>
           cases J with
           | nil=>simp at j
           | cons q1 q2 =>
             simp at j;obtain ⟨⟨L,ei⟩,⟨O,ej⟩⟩:=hb rfl _ _ rfl rfl;subst ei ej
             cases p1;cases q1
             exact ⟨_,_,_,_,j.1.symm,j.2.symm⟩
        subst e1 e2
        cases rx;cases ry
        refine oneLt_int ?_;rw [<- gL];exact q7 r
       ·have z:(b&&i==0)=false:=by simpa using z
        rw [z];exact ue F rx ry ld le hd hu (q7 r)
     ·have e1:=iA F
      cases e2:bS xs ys with
      | some b =>
        rw [e2] at e1;dsimp only at e1;rw [e1] at q;exact q7 q
      | none =>
        rw [e2] at e1;dsimp only at e1;rw [e1] at q;have Y:=bC G;have Z:=bC J;refine q7 ?_;simp only [GD] at Y Z;rw [Y,Z];exact q
end
end Srt
end L2
namespace L2
namespace Srt
open PySem PySem.Spec PyProof.Rows
structure nX (n:Nat) (ds:List HE):Prop where
 cmp:∀ d∈ds, ∀ e∈ds,Cmpb d e
 lay:∀ d∈ds,d.canLay0=true/\d.depth<=n
 kind:(∀ d∈ds, ∃ i,d = .int i)∨(∀ d∈ds, ∃ i xs,d = .tuple (.int i::xs))∨(∀ d∈ds, ∃ ys xs,d = .tuple (.tuple ys::xs))
noncomputable def ce (h:Heap):gV->Option gV
 | .ref a=>(h.get? a).bind fun o=>match o.data with | .seq xs _=>xs[0]? | _=>none
 | _=>none
section
variable {prog:GI} {w:Hf} {A:Hg} {E:gV->h7->Prop} {s:h7}
noncomputable def cZ (h:Heap) (x:Gc):Ky:=toK (Ic h x.1)
def RdL (h:Heap) (vs:List gV) (ds:List HE):Prop := ∀ v∈vs, ∃ d∈ds, ∃ as,Ki h v d as
theorem dS {arr:Array gV} {T:String} (h0 : 0 < arr.size) (h:∀ v∈arr.toList, ∀ R:gV->h7->Prop,R (.type T) s->Gm (Gn prog w) A (typeOf v) R E s) {Q:Option gV->h7->Prop} (q:Q (some (.type T)) s):Gm (Gn prog w) A (oneTypeOnly' arr) Q E s:=by
 rw [oneTypeOnly'_eq];refine e6 (cG (g:=fun _=>Hb T) h ?_);have e:(J9 (fun _=>Hb T) arr)[0]? = some (Hb T):=by
  rw [Array.getElem?_map,Hj h0];rfl
 rw [e];dsimp only;have e2:((J9 (fun _=>Hb T) arr).all fun x=>x==Hb T)=true:=by
  rw [OD];intro i hi;simp
 rw [e2];exact q7 q
theorem rG {n:Nat} {kd:JX} {vs:List gV} {ds:List HE} (j:RdL s.heap vs ds) (hs:nX n ds)
 (h:∀ (x y:gV) (d e:HE) (as bs:List Addr) (E:gV->h7->Prop) (Q:Bool->h7->Prop),d∈ds->e∈ds->Ki s.heap x d as->Ki s.heap y e bs->Q (ltK (toK d) (toK e)) s->Gm (Gn prog w) A (keyLt' kd x y) Q E s) :
 Cm prog w A s kd (fun x=>x.1∈vs) (fun x y=>ltK (cZ s.heap x) (cZ s.heap y)) where
 asym:=fun x y=>iz _ _
 neg:=fun x y z=>zF _ _ _
 run:=fun x y E Q hx B q=>by
  obtain ⟨d,hd,as,ra⟩:=j _ hx;obtain ⟨e,he,bs,rb⟩:=j _ B;have e1:=IZ (hs.lay d hd).1 ra;have e2:=IZ (hs.lay e he).1 rb;unfold cZ at q;rw [e1,e2] at q;exact h _ _ d e as bs E Q hd he ra rb q
theorem nY {h:Heap} {vs:List gV} (j:∀ v∈vs, ∃ u,ce h v=some u):((vs.toArray.map (ce h)).all fun x=>x.isSome)=true:=by
 rw [OD];intro i hi;simp at hi;obtain ⟨u,q⟩:=j vs[i] (K0 hi);simp [q]
theorem uf {h:Heap} {vs:List gV} {x:gV} (hx:x∈(Pj id (vs.toArray.map (ce h))).toList):∃ v∈vs,ce h v=some x:=by
 simp at hx;exact hx
theorem ug {h:Heap} {v:gV} {vs:List gV} {u:gV} (j:ce h v=some u) : 0 < (Pj id ((v::vs).toArray.map (ce h))).size:=by
 rw [<- GD];simp [j]
theorem ll {h:Heap} {v:gV} {d:HE} {xs:List HE} {as:List Addr} (r:Ki h v (.tuple (d::xs)) as):∃ a o u us n bs,v = .ref a/\h.get? a=some o/\o.cls = .type "tuple" /\ o.data = .seq (u::us).toArray n/\Ki h u d bs:=by
 cases r with
 | @tuple a o vs n xs as h1 h2 j h4 =>
  generalize q:vs.toList=vl at h4
  cases h4 with
  | @cons u us _ _ bs _ z p2=>exact ⟨_,_,u,us,n,bs,rfl,h1,h2,by rw [j];congr 1;apply JA.mp;simpa using q,z⟩
theorem D6 {n:Nat} {v:gV} {vs:List gV} {ds:List HE} (U:RdL s.heap (v::vs) ds) (hs:nX n ds) (z:A.units+n+1 < Ij) :
 ∃ kd,(∀ (E:gV->h7->Prop) (Q:JX->h7->Prop),Q kd s->Gm (Gn prog w) A (keyKind' (v::vs).toArray) Q E s)/\Cm prog w A s kd (fun x=>x.1∈v::vs) (fun x y=>ltK (cZ s.heap x) (cZ s.heap y)):=by
 rcases hs.kind with G | G | G
 ·refine ⟨oneType',fun E Q q => ?_,rG U hs fun x y d e as bs E Q hd he ra rb q => ?_⟩
  ·have hint:∀ u∈v::vs, ∃ i t,u = .int i t:=fun u z=>by
    obtain ⟨d,hd,as,ra⟩:=U u z;obtain ⟨i,rfl⟩:=G d hd
    cases ra
    exact ⟨_,_,rfl⟩
   rw [NB];refine e6 (cG (g:=fun _=>(none:Option gV)) (fun u z R r => ?_) ?_)
   ·obtain ⟨i,t,rfl⟩:=hint u (by simpa using z)
    rw [firstOfTuple'_int];exact q7 r
   ·have e1:((J9 (fun _=>(none:Option gV)) (v::vs).toArray).all fun x=>x.isSome)=false:=by
     simp
    rw [e1];have e2:((J9 (fun _=>(none:Option gV)) (v::vs).toArray)[0]?.bind id).isSome=false:=by simp
    simp only [e2,HH,if_false];refine e6 (dS (T := "int") (by simp) (fun u z R r => ?_) ?_)
    ·obtain ⟨i,t,rfl⟩:=hint u (by simpa using z)
     exact q7 r
    ·exact q7 q
  ·obtain ⟨i,rfl⟩:=G d hd;obtain ⟨j,rfl⟩:=G e he
   cases ra;cases rb
   rw [keyLt'_oneType];exact oneLt_int (by rw [<- gL];exact q)
 ·refine ⟨tuples' true,fun E Q q => ?_,rG U hs fun x y d e as bs E Q hd he ra rb q => ?_⟩
  ·have hf:∀ u∈v::vs, ∃ a o i t us n,u = .ref a/\s.heap.get? a=some o/\o.cls = .type "tuple" /\ o.data = .seq (.int i t::us).toArray n:=fun u z=>by
    obtain ⟨d,hd,as,ra⟩:=U u z;obtain ⟨i,xs,rfl⟩:=G d hd;obtain ⟨a,o,Z,us,n,bs,e1,e2,J,F,L⟩:=ll ra
    cases L
    exact ⟨a,o,_,_,us,n,e1,e2,J,F⟩
   have B:∀ u∈v::vs, ∃ i t,ce s.heap u=some (.int i t):=fun u z=>by
    obtain ⟨a,o,i,t,us,n,rfl,e2,J,F⟩:=hf u z;exact ⟨i,t,by simp [ce,e2,F]⟩
   rw [NB];refine e6 (cG (g:=ce s.heap) (fun u z R r => ?_) ?_)
   ·obtain ⟨a,o,i,t,us,n,rfl,e2,J,F⟩:=hf u (by simpa using z)
    refine lh e2 J F ?_;simpa [ce,e2,F] using r
   ·rw [nY (fun u z=>let ⟨i,t,e⟩:=B u z; ⟨_,e⟩)];refine e6 (IC ?_);obtain ⟨i0,t0,e0⟩:=B v (by simp)
    refine e6 (dS (T := "int") (ug e0) (fun u z R r => ?_) ?_)
    ·obtain ⟨u',O,e⟩:=uf z;obtain ⟨i,t,e'⟩:=B u' O;rw [e'] at e;cases e;exact q7 r
    ·exact q7 q
  ·obtain ⟨i,xs,rfl⟩:=G d hd;obtain ⟨j,ys,rfl⟩:=G e he;have l1:=hs.lay _ hd;have l2:=hs.lay _ he;refine lj (n:=n) (fun _ d e hd he => ?_) (hs.cmp _ hd _ he) ra rb (by simpa [KU] using l1.1) (by simpa [KU] using l2.1) (by have:=l1.2;simp [JF] at this;lia) z q
   simp at hd he;subst hd he;exact ⟨⟨_,rfl⟩,_,rfl⟩
 ·refine ⟨tuples' false,fun E Q q => ?_,rG U hs fun x y d e as bs E Q hd he ra rb q => ?_⟩
  ·have hf:∀ u∈v::vs, ∃ a o b ob us n,u = .ref a/\s.heap.get? a=some o/\o.cls = .type "tuple" /\ o.data = .seq (.ref b::us).toArray n/\s.heap.get? b=some ob/\ob.cls = .type "tuple" := fun u z=>by
    obtain ⟨d,hd,as,ra⟩:=U u z;obtain ⟨ys,xs,rfl⟩:=G d hd;obtain ⟨a,o,Z,us,n,bs,e1,e2,J,F,L⟩:=ll ra
    cases L with
    | tuple h1 h2 h3 h4=>exact ⟨a,o,_,_,us,n,e1,e2,J,F,h1,h2⟩
   have B:∀ u∈v::vs, ∃ b ob,ce s.heap u=some (.ref b)/\s.heap.get? b=some ob/\ob.cls = .type "tuple" := fun u z=>by
    obtain ⟨a,o,b,ob,us,n,rfl,e2,J,F,L,Y⟩:=hf u z;exact ⟨b,ob,by simp [ce,e2,F],L,Y⟩
   rw [NB];refine e6 (cG (g:=ce s.heap) (fun u z R r => ?_) ?_)
   ·obtain ⟨a,o,b,ob,us,n,rfl,e2,J,F,L,Y⟩:=hf u (by simpa using z)
    refine lh e2 J F ?_;simpa [ce,e2,F] using r
   ·rw [nY (fun u z=>let ⟨i,t,e,_⟩:=B u z; ⟨_,e⟩)];refine e6 (IC ?_);obtain ⟨i0,t0,e0,_⟩:=B v (by simp)
    refine e6 (dS (T := "tuple") (ug e0) (fun u z R r => ?_) ?_)
    ·obtain ⟨u',O,e⟩:=uf z;obtain ⟨b,ob,e',L,Y⟩:=B u' O;rw [e'] at e;cases e;exact jZ L Y r
    ·exact q7 q
  ·obtain ⟨zs,xs,rfl⟩:=G d hd;obtain ⟨zs',ys,rfl⟩:=G e he;have l1:=hs.lay _ hd;have l2:=hs.lay _ he;exact lj (n:=n) (fun h=>by cases h) (hs.cmp _ hd _ he) ra rb (by simpa [KU] using l1.1) (by simpa [KU] using l2.1) (by have:=l1.2;simp [JF] at this;lia) z q
end
end Srt
end L2
namespace L2
namespace Srt
open PySem PySem.Spec PyProof.Rows
inductive Pl:HE->Prop where
 | int (i:Int):Pl (.int i)
 | tup (xs:List HE):(∀ x∈xs,Pl x)->Pl (.tuple xs)
theorem aT {h h':Heap} (k:∀ b o,h.get? b=some o->o.cls = .type "tuple" -> h'.get? b=some o) {d:HE} (p:Pl d):∀ {v:gV} {as:List Addr},Ki h v d as->Ki h' v d as:=by
 induction p with
 | int i=>intro v as r;cases r;exact .int _ _
 | tup xs hx ih =>
   intro v as r
   cases r with
   | tuple h1 h2 q z =>
     refine .tuple (k _ _ h1 h2) h2 q ?_;have g:∀ (xs:List HE),(∀ x∈xs, ∀ {v:gV} {as:List Addr},Ki h v x as->Ki h' v x as) -> ∀ (vs:List gV) (as:List Addr),Nz h vs xs as->Nz h' vs xs as:=by
      intro xs
      induction xs with
      | nil=>intro _ vs as r;cases r;exact .nil
      | cons x xs ihx =>
        intro j vs as r
        cases r with
        | cons B p2=>exact .cons (j x (by simp) B) (ihx (fun y F=>j y (by simp [F])) _ _ p2)
     exact g xs ih _ _ z
section
variable {prog:GI} {w:Hf} {A:Hg} {E:gV->h7->Prop} {s:h7}
theorem zG {cap:Nat} (S:cr cap) {m:Nat} {a:Addr} {vs:List gV} {n:Nat} {ds:List HE} (ha:s.heap.get? a=some (Ly "list" vs.toArray n)) (Z:RdL s.heap vs ds) (hs:nX m ds) (hp:∀ d∈ds,Pl d) (hl:vs.length<=Gg) (E7:vs.length<=cap) (hu:A.units+m+1 < Ij) {Q:PySem.Fin->h7->Prop}
 (q:∀ (h':Heap) (out:List gV) (n':Nat),(∀ b o,b≠a->s.heap.get? b=some o->h'.get? b=some o)->h'.get? a=some (Ly "list" out.toArray n')->out.Perm vs->out.Pairwise (fun x y=>ltK (toK (Ic s.heap y)) (toK (Ic s.heap x))=false)->Q (.done (.ret .none)) { s with heap:=h' }) :
 Gm (Gn prog w) A (Im.«list.sort» ⟨[.ref a],[]⟩) Q E s:=by
 rw [list_sort_plain];refine e6 (MZ ha rfl ?_);refine e6 (J4 ha rfl ?_ (by simpa using hl) (by simp))
 have g1:=Iw ha (fun _ => #[]);generalize E8:s.heap.update a (Ja fun _ => #[])=h1 at g1;generalize (if ((#[]:Array gV).size==vs.toArray.size)=true then n else n+1)=n1 at g1
 refine e6 (Lo g1 rfl ?_);refine e6 (Jy ?_ (by simpa using hl))
 refine e6 (Kh ?_ (by simp))
 refine HB ?_;dsimp only;generalize O:({ heap:=(h1.push { cls:=Hb "tuple",data:=Jk vs.toArray.toList.toArray }).push { cls:=Hb "list",data:=Jk [].toArray },gens:=s.gens,drawn:=s.drawn,toks:=s.toks,os:=s.os }:h7)=s3;have g3:s3.heap.get? a=some (Ly "list" #[] n1):=by
  rw [<- O];exact h6 _ (h6 _ g1)
 have keep:∀ b o,b≠a->s.heap.get? b=some o->s3.heap.get? b=some o:=fun b o G J=>by
  rw [<- O, <- E8];exact h6 _ (h6 _ (by rw [Ht _ _ _ _ G];exact J))
 have keepT:∀ b o,s.heap.get? b=some o->o.cls = .type "tuple" -> s3.heap.get? b=some o:=fun b o G hc=>keep b o (fun z=>by
  rw [z,ha] at G;cases G;simp at hc) G
 have E9:RdL s3.heap vs ds:=fun v hv=>by
  obtain ⟨d,hd,as,r⟩:=Z v hv;exact ⟨d,hd,as,aT keepT (hp d hd) r⟩
 have same:∀ v∈vs,Ic s3.heap v=Ic s.heap v:=fun v hv=>by
  obtain ⟨d,hd,as,r⟩:=Z v hv;rw [IZ (hs.lay d hd).1 r,IZ (hs.lay d hd).1 (aT keepT (hp d hd) r)]
 have q:∀ (h':Heap) (out:List gV) (n':Nat),(∀ b o,b≠a->s.heap.get? b=some o->h'.get? b=some o)->h'.get? a=some (Ly "list" out.toArray n')->out.Perm vs->out.Pairwise (fun x y=>ltK (toK (Ic s.heap y)) (toK (Ic s.heap x))=false)->Q (.done (.ret .none)) { s3 with heap:=h' }:=by
  rw [<- O];exact q
 have Ea:∀ A':Hg,A'.units=A.units->True:=fun _ _=>trivial;clear O
 let Good:Hl->Prop:=fun st'=>IK st'=none/\(GS st').toList.Perm (vs.zip vs)/\(GS st').toList.Pairwise (fun x y=>ltK (cZ s3.heap y) (cZ s3.heap x)=false)
 by_cases F:vs.toArray.size < 2
 ·rw [if_pos F,if_pos F];refine e6 (q7 ?_);have B:vs.length < 2:=by simpa using F
  have run:Gm (Gn prog w) A ((pure ():StateT Hl Sem Unit).run (IX general' (vs.toArray.zip vs.toArray) #[] 7 none)) (fun r s'=>s'=s3/\Good r.2) E s3:=by
   refine q7 ⟨rfl,rfl, ?_, ?_⟩
   ·show (vs.toArray.zip vs.toArray).toList.Perm _;simp
   ·show List.Pairwise _ (vs.toArray.zip vs.toArray).toList
    match vs,B with
    | [],_=>simp
    | [x],_=>simp
  refine e6 (HF (Q:=fun r s'=>s'=s3/\Good r.2) run (fun r s' Z => ?_) (fun _ _ z=>z));obtain ⟨rfl,L,j,U⟩:=Z;obtain ⟨u,st'⟩:=r;refine e6 (Lo g3 rfl ?_);refine e6 (J4 g3 rfl ?_ (by simp) (by simp only [LX];have:=j.length_eq;simp at this;rw [this];lia))
  dsimp only at L;rw [L];simp only [bne_self_eq_false,HH,if_false];refine q7 ?_;have gq:=Iw g3 (fun _=>J9 (fun x=>x.snd) (GS st'));have eo:J9 (fun x=>x.snd) (GS st')=((GS st').toList.map fun x=>x.snd).toArray:=by apply JA.mp;simp
  refine q _ ((GS st').toList.map fun x=>x.snd) _ (fun b o G J => ?_) (by rw [gq,eo]) ?_ ?_
  ·rw [Ht _ _ _ _ G];exact keep b o G J
  ·have h8:=j.map (fun x:Gc=>x.snd);rw [Lc (by simp)] at h8
   exact h8
  ·rw [GQ];refine U.imp_of_mem fun {x y} hx hy hxy => ?_;have mx:=J3 (j.mem_iff.mp hx);have my:=J3 (j.mem_iff.mp hy);unfold cZ at hxy;rw [mx.1,my.1,same y.2 (by rw [<- my.1];exact my.2),same x.2 (by rw [<- mx.1];exact mx.2)] at hxy
   exact hxy
 ·rw [if_neg F,if_neg F];have B : 2<=vs.length:=by simpa using F
  obtain ⟨v0,Y,E3⟩:∃ v0 Y,vs=v0::Y:=by
   match vs,B with
   | v::t,_=>exact ⟨v,t,rfl⟩
  obtain ⟨kd,E4,E5⟩:=D6 (prog:=prog) (w:=w) (A:=A) (v:=v0) (vs:=Y) (by rw [<- E3];exact E9) hs hu
  rw [<- E3] at E4 E5;refine e6 (E4 E _ ?_);have run:Gm (Gn prog w) A (sortRuns'.run (IX kd (vs.toArray.zip vs.toArray) #[] 7 none)) (fun r s'=>s'=s3/\Good r.2) E s3:=by
   have ez:(GS (IX kd (vs.toArray.zip vs.toArray) #[] 7 none)).toList=vs.zip vs:=by
    show (vs.toArray.zip vs.toArray).toList=_;simp
   have h9:wpS (Gn prog w) A E s3 OV (fun _ st'=>Good st') (IX kd (vs.toArray.zip vs.toArray) #[] 7 none):=by
    have E6:(GS (IX kd (vs.toArray.zip vs.toArray) #[] 7 none)).size=vs.length:=by rw [<- GD,ez];simp
    refine S _ _ _ _ _ _ _ _ E5 (IX kd (vs.toArray.zip vs.toArray) #[] 7 none) _ rfl rfl rfl (fun x hx => ?_) (by rw [E6];exact B) (by rw [E6];exact E7) fun st' p1 p2 p3=>⟨p3,by rw [ez] at p1;exact p1,p2⟩
    rw [ez] at hx;exact (J3 hx).2
   exact h9
  refine e6 (HF (Q:=fun r s'=>s'=s3/\Good r.2) run (fun r s' Z => ?_) (fun _ _ z=>z));obtain ⟨rfl,L,j,U⟩:=Z;obtain ⟨u,st'⟩:=r;refine e6 (Lo g3 rfl ?_);refine e6 (J4 g3 rfl ?_ (by simp) (by simp only [LX];have:=j.length_eq;simp at this;rw [this];lia))
  dsimp only at L;rw [L];simp only [bne_self_eq_false,HH,if_false];refine q7 ?_;have gq:=Iw g3 (fun _=>J9 (fun x=>x.snd) (GS st'));have eo:J9 (fun x=>x.snd) (GS st')=((GS st').toList.map fun x=>x.snd).toArray:=by apply JA.mp;simp
  refine q _ ((GS st').toList.map fun x=>x.snd) _ (fun b o G J => ?_) (by rw [gq,eo]) ?_ ?_
  ·rw [Ht _ _ _ _ G];exact keep b o G J
  ·have h8:=j.map (fun x:Gc=>x.snd);rw [Lc (by simp)] at h8
   exact h8
  ·rw [GQ];refine U.imp_of_mem fun {x y} hx hy hxy => ?_;have mx:=J3 (j.mem_iff.mp hx);have my:=J3 (j.mem_iff.mp hy);unfold cZ at hxy;rw [mx.1,my.1,same y.2 (by rw [<- my.1];exact my.2),same x.2 (by rw [<- mx.1];exact mx.2)] at hxy
   exact hxy
theorem ju (u:gV):checkBuiltinCall "sorted" ⟨[u],[]⟩=pure ():=by kernel_rfl
theorem lm {cap:Nat} (S:cr cap) {m:Nat} {u:gV} {ds:List HE} {C:Heap->List gV->Prop} {Q:gV->h7->Prop} (hu:A.units+m+3 < Ij) (hs:nX m ds) (F:∀ d∈ds,Pl d)
 (G:∀ (E:gV->h7->Prop) (R:List gV->h7->Prop),(∀ (h':Heap) (vs':List gV) (t':Nat),C h' vs'->RdL h' vs' ds->vs'.length<=Gg/\vs'.length<=cap->s.toks<=t'->R vs' { s with heap:=h',toks:=t' })->Gm (Gn prog w) A.in1 (collect u) R E s)
 (q:∀ (h1 h2:Heap) (vs out:List gV) (n' t':Nat),C h1 vs->(∀ b o,h1.get? b=some o->h2.get? b=some o)->h2.get? h1.objs.size=some (Ly "list" out.toArray n')->out.Perm vs->out.Pairwise (fun x y=>ltK (toK (Ic h2 y)) (toK (Ic h2 x))=false)->RdL h2 out ds->vs.length<=Gg->s.toks<=t'->Q (.ref h1.objs.size) { s with heap:=h2,toks:=t' }) :
 Gm (Gn prog w) A (call (.builtin "sorted") [u]) Q E s:=by
 refine Pw (ND plain_sorted entry_sorted (Jl (ju u) ?_));unfold Builtin.sorted;refine e6 (Jl (a:=()) (by kernel_rfl) ?_)
 refine e6 (G _ _ fun h1 vs t' hC L J ht => ?_);obtain ⟨J,O⟩:=J;refine e6 (Kh ?_ J);refine e6 (HB ?_);have U:RdL (h1.push { cls:=Hb "list",data:=Jk vs.toArray }) vs ds:=fun v B=>by
  obtain ⟨d,hd,as,r⟩:=L v B;exact ⟨d,hd,as,aT (fun b o z _=>h6 _ z) (F d hd) r⟩
 have ha:(h1.push { cls:=Hb "list",data:=Jk vs.toArray }).get? h1.objs.size=some (Ly "list" vs.toArray 0):=Gh _ rfl;refine H8 slot_list_sort (T := "list") ⟨_,ha,rfl⟩ entry_list_sort ?_ (args_list_sort _);refine zG S (m:=m) ha U hs F J O (by show A.units+1+1+m+1 < Ij;lia) fun h2 out n' keep g2 j Y=>⟨_,rfl,q7 ?_⟩
 have old:∀ b o,h1.get? b=some o->h2.get? b=some o:=fun b o z=>keep b o (GW (Ga z)) (h6 _ z);have Z:RdL h2 vs ds:=fun v B=>by
  obtain ⟨d,hd,as,r⟩:=L v B;exact ⟨d,hd,as,aT (fun b o z _=>old b o z) (F d hd) r⟩
 refine q h1 h2 vs out n' t' hC old g2 j ?_ (fun v B=>Z v (j.mem_iff.mp B)) J ht;have same:∀ v∈vs,Ic (h1.push { cls:=Hb "list",data:=Jk vs.toArray }) v=Ic h2 v:=fun v B=>by
  obtain ⟨d,hd,as,r⟩:=L v B;rw [IZ (hs.lay d hd).1 (aT (fun b o z _=>old b o z) (F d hd) r),IZ (hs.lay d hd).1 (aT (fun b o z _=>h6 _ z) (F d hd) r)]
 refine Y.imp_of_mem fun {x y} hx hy hxy => ?_;rw [same y (j.mem_iff.mp hy),same x (j.mem_iff.mp hx)] at hxy;exact hxy
end
end Srt
end L2
namespace L2
namespace It
open PySem PySem.Spec PyProof.Rows
noncomputable def iO (f0:gV) (b:Bool) (d:Addr) (i n ep:Nat) (ok ov:gV):Obj := { cls := .type "dict_itemiterator",data := .fields #[f0, .bool b, .ref d, .int i 0, .int n 0, .int ep 0,ok,ov] }
theorem slot_next:Slot "dict_itemiterator" "__next__" "dict_itemiterator.__next__" := .of (owner := "dict_itemiterator") (n := "__next__") (by rw [typeLookup_type,Ni];kernel_rfl) (by decide +kernel) (by decide +kernel) (by decide +kernel) (.inl (by decide +kernel)) (by rw [LW];kernel_rfl)
theorem da:entryFor table "dict_itemiterator.__next__" = some Im.«dict_itemiterator.__next__» := entryFor_of_tree (by kernel_rfl)
theorem dU (a:gV):argsOk "dict_itemiterator.__next__" ⟨[a],[]⟩:=by unfold argsOk;kernel_rfl
theorem fW:mroOf (.type "dict_itemiterator")=pure [.type "dict_itemiterator", .type "object"]:=by rw [mroOf_type];kernel_rfl
section
variable {prog:GI} {w:Hf} {A:Hg} {E:gV->h7->Prop} {s:h7}
theorem wU {M:Kv} {a:Addr} {Q:Option Obj->h7->Prop} (q:Q (s.heap.get? a) s):Gm M A (loadIfAlive a) Q E s:=fun Γ p hp=>by
 show Sem.wp M Γ (Sem.loadIfAlive a Sem.pure) _ _ p s;rw [Sem.wp_loadIfAlive];exact q
theorem cg {it:Addr} (ty:s.TypeIs (.ref it) "dict_itemiterator") {types:List String} {Q:Bool->h7->Prop} (q:Q (types.any fun t => [Hb "dict_itemiterator",Hb "object"].contains (Hb t)) s):Gm (model prog w) A (LY (.ref it) types) Q E s:=by
 have hm:=fW;unfold LY
 wp_walk
 exact q
theorem uh {it d a:Addr} {b:Bool} {i n ep:Nat} {ok ov:gV} {oa:Obj} {Q:Bool->h7->Prop} (hi:s.heap.get? it=some (iO (II a) b d i n ep ok ov)) (j:s.heap.get? a=some oa)
 (q:∀ h',h'.get? it=some (iO (II a) true d i n ep ok ov)->Ib it s.heap h'->Q false { s with heap:=h' }):Gm (model prog w) A (Ia (.ref it)) Q E s:=by
 unfold Ia;refine e6 (GU hi rfl (x:=II a) rfl ?_);refine e6 (wU ?_);rw [show ((a:Int)).toNat=a from Gq a,j];dsimp only;rw [if_neg (by simp)]
 refine e6 (GU hi rfl (x := .bool b) rfl ?_)
 cases b with
 | true =>
   rw [if_neg (by decide)]
   exact q7 (q s.heap hi (Heap.SameBut.refl ..))
 | false =>
   rw [if_pos (by decide)]
   refine e6 (Gx hi (by simp) fun h' e' s' => ?_)
   exact q7 (q h' e' s')
theorem ui {it d a:Addr} {b:Bool} {i n ep:Nat} {ok ov k v:gV} {oa:Obj} {Q:gV->h7->Prop} (hi:s.heap.get? it=some (iO (II a) b d i n ep ok ov)) (z:s.heap.get? a=some oa)
 (q:∀ h',h'.get? it=some (iO (II a) true d i n ep ok ov)->h'.get? s.heap.objs.size=some { cls := .type "tuple",data := .seq #[k,v] }->(∀ b o,b≠it->s.heap.get? b=some o->h'.get? b=some o)->Q (.ref s.heap.objs.size) { s with heap:=h' }):Gm (model prog w) A (Hx (.ref it) 6 k v) Q E s:=by
 unfold Hx;refine e6 (Jy ?_ (by size_fits))
 have j:=Ga hi;refine e6 (uh (a:=a) (oa:=oa) (h6 _ hi) (h6 _ z) fun h' e' s' => ?_);dsimp only;rw [if_neg (by simp)]
 refine q7 (q h' e' ?_ fun b o B e => ?_)
 ·exact s'.extBut _ _ (HG j) (Gh _ rfl)
 ·exact s'.extBut _ _ B (h6 _ e)
theorem zH {it d a:Addr} {b:Bool} {i ep:Nat} {ok ov cd:gV} {oa:Obj} {dd:Option Addr} {sl:Array (Option gV)} {es:Array HI} {e:HI} {Q:Option gV->h7->Prop} (hi:s.heap.get? it=some (iO (II a) b d i es.size ep ok ov)) (B:a≠it) (L:s.heap.get? a=some oa) (hd:s.heap.get? d=some { cls:=cd,dict:=dd,data := .dict es ep,slots:=sl }) (he:es[i]? = some e)
 (q:∀ h',h'.get? it=some (iO (II a) true d (i+1) es.size ep ok ov)->h'.get? s.heap.objs.size=some { cls := .type "tuple",data := .seq #[e.key,e.val] }->(∀ b o,b≠it->s.heap.get? b=some o->h'.get? b=some o)->Q (some (.ref s.heap.objs.size)) { s with heap:=h' }):Gm (model prog w) A (Jq (.ref it)) Q E s:=by
 have ty:s.TypeIs (.ref it) "dict_itemiterator" := ⟨_,hi,rfl⟩;unfold Jq;refine e6 (Jv (H0 (name:=Il "__next__") ty slot_next (H8 slot_next ty da ?_ (dU _))));unfold Im.«dict_itemiterator.__next__»;have hm:=fW
 wp_walk
 dsimp only;rw [if_neg (by simp)]
 wp_walk
 simp only [Gq,he];refine e6 (HF (Q:=fun n s'=>n=2/\s'=s) ?_ (fun n s' hs => ?_) fun _ _ z=>z)
 ·wp_walk
  exact ⟨by kernel_rfl,rfl⟩
 obtain ⟨rfl,rfl⟩:=hs;refine e6 (cg ty ?_);refine e6 (Gx hi (by simp) fun h1 e1 s1 => ?_)
 refine e6 (HB ?_);have j:NZ { s' with heap:=h1 } (.ref it) "dict_itemiterator" := ⟨_,e1,rfl⟩
 refine e6 (cg j ?_);rw [if_neg (by decide +kernel)] at e1
 have e1:h1.get? it=some (iO (II a) b d (i+1) es.size ep ok ov):=e1;have hsz:h1.objs.size=s'.heap.objs.size:=s1.1;have F:h1.get? a=some oa:=s1.extBut a oa B L;refine IV (by decide +kernel) ?_
 refine e6 (cg j ?_);refine IV (by decide +kernel) ?_
 refine ui (s := { s' with heap:=h1 }) e1 F fun h2 e2 G O => ?_
 refine q7 ⟨_,rfl,q7 ?_⟩;dsimp only at G ⊢;rw [hsz] at G ⊢;exact q h2 e2 G fun b o J e=>O b o J (s1.extBut b o J e)
theorem nx_end {it d:Addr} {f0:gV} {b:Bool} {ep:Nat} {ok ov cd:gV} {dd:Option Addr} {sl:Array (Option gV)} {es:Array HI} {Q:Option gV->h7->Prop} (j:A.handled=none) (hi:s.heap.get? it=some (iO f0 b d es.size es.size ep ok ov)) (hd:s.heap.get? d=some { cls:=cd,dict:=dd,data := .dict es ep,slots:=sl })
 (q:∀ h',(∀ b o,b≠it->s.heap.get? b=some o->h'.get? b=some o)->Q none { s with heap:=h' }):Gm (model prog w) A (Jq (.ref it)) Q E s:=by
 have ty:s.TypeIs (.ref it) "dict_itemiterator" := ⟨_,hi,rfl⟩;unfold Jq;refine e6 (Jv (H0 (name:=Il "__next__") ty slot_next (H8 slot_next ty da ?_ (dU _))));unfold Im.«dict_itemiterator.__next__»;have hm:=fW
 wp_walk
 dsimp only;rw [if_neg (by simp)]
 wp_walk
 have he:es[es.size]? = none:=Array.getElem?_eq_none (Gi _);simp only [Gq,he];refine e6 (HF (Q:=fun n s'=>n=2/\s'=s) ?_ (fun n s' hs => ?_) fun _ _ z=>z)
 ·wp_walk
  exact ⟨by kernel_rfl,rfl⟩
 obtain ⟨rfl,rfl⟩:=hs;refine e6 (Gx hi (by simp) fun h1 e1 s1 => ?_)
 refine e6 (m:=newExc (.type "StopIteration") []) ?_;simp only [newExc,newTuple];refine e6 (I0 ?_ (by size_fits))
 refine e6 (m:=LR _ _) (Jl (a:=JS) (by first | rfl | (simp only [LR];rfl)) (I0 ?_ (by size_fits)))
 simp only [raiseNew];refine e6 (wpAny_handled ?_)
 first | rw [show A.in1.handled=none from j] | rw [j]
 refine e6 (q7 (wpAny_throw ?_));exact e6 (Lb (T := "StopIteration") (b:=true) ⟨_,Gh _ rfl,rfl⟩ Nw (q7 (q _ fun b o B e=>h6 _ (h6 _ (s1.extBut b o B e)))))
end
end It
end L2
namespace L2
namespace It
open PySem PySem.Spec PyProof.Rows
section
variable {prog:GI} {w:Hf} {A:Hg} {E:gV->h7->Prop} {s:h7}
theorem uj {it d:Addr} {i n ep:Nat} {k v:gV} {Q:gV->h7->Prop} (hi:s.heap.get? it=some (iO .none false d i n ep .none .none))
 (q:∀ h',h'.get? it=some (iO (II s.heap.objs.size) false d i n ep k v)->h'.get? s.heap.objs.size=some { cls := .type "tuple",data := .seq #[k,v] }->(∀ b o,b≠it->s.heap.get? b=some o->h'.get? b=some o)->Q (.ref s.heap.objs.size) { s with heap:=h' }):Gm (model prog w) A (Hx (.ref it) 6 k v) Q E s:=by
 unfold Hx;refine e6 (Jy ?_ (by size_fits))
 have B:=Ga hi;have j:=h6 ({ cls := .type "tuple",data := .seq [k,v].toArray }) hi;unfold Ia;refine e6 (e6 (GU j rfl (x := .none) rfl (q7 ?_)));dsimp only;rw [if_pos rfl];refine e6 (GU j rfl (x := .none) rfl ?_);refine e6 (GU j rfl (x := .none) rfl ?_);refine e6 (Gx j (by simp) fun h1 e1 s1 => ?_)
 refine e6 (Gx e1 (by simp) fun h2 e2 s2 => ?_)
 refine e6 (Gx e2 (by simp) fun L G s3 => ?_)
 refine e6 (Gx G (by simp) fun F J s4 => ?_)
 refine e6 (Lj ?_);have kp:∀ b o,b≠it->(s.heap.push { cls := .type "tuple",data := .seq [k,v].toArray }).get? b=some o->F.get? b=some o:=fun b o z e=>s4.extBut b o z (s3.extBut b o z (s2.extBut b o z (s1.extBut b o z e)));refine q7 (q F J (kp _ _ (HG B) (Gh _ rfl)) fun b o z e=>kp b o z (h6 _ e))
theorem zI {it d:Addr} {i ep:Nat} {cd:gV} {dd:Option Addr} {sl:Array (Option gV)} {es:Array HI} {e:HI} {Q:Option gV->h7->Prop} (hi:s.heap.get? it=some (iO .none false d i es.size ep .none .none)) (hd:s.heap.get? d=some { cls:=cd,dict:=dd,data := .dict es ep,slots:=sl }) (he:es[i]? = some e)
 (q:∀ h',h'.get? it=some (iO (II s.heap.objs.size) false d (i+1) es.size ep e.key e.val)->h'.get? s.heap.objs.size=some { cls := .type "tuple",data := .seq #[e.key,e.val] }->(∀ b o,b≠it->s.heap.get? b=some o->h'.get? b=some o)->Q (some (.ref s.heap.objs.size)) { s with heap:=h' }):Gm (model prog w) A (Jq (.ref it)) Q E s:=by
 have ty:s.TypeIs (.ref it) "dict_itemiterator" := ⟨_,hi,rfl⟩;unfold Jq;refine e6 (Jv (H0 (name:=Il "__next__") ty slot_next (H8 slot_next ty da ?_ (dU _))));unfold Im.«dict_itemiterator.__next__»;have hm:=fW
 wp_walk
 dsimp only;rw [if_neg (by simp)]
 wp_walk
 simp only [Gq,he];refine e6 (HF (Q:=fun n s'=>n=2/\s'=s) ?_ (fun n s' hs => ?_) fun _ _ z=>z)
 ·wp_walk
  exact ⟨by kernel_rfl,rfl⟩
 obtain ⟨rfl,rfl⟩:=hs;refine e6 (cg ty ?_);refine e6 (Gx hi (by simp) fun h1 e1 s1 => ?_)
 refine e6 (HB ?_);have j:NZ { s' with heap:=h1 } (.ref it) "dict_itemiterator" := ⟨_,e1,rfl⟩
 refine e6 (cg j ?_);rw [if_neg (by decide +kernel)] at e1
 have e1:h1.get? it=some (iO .none false d (i+1) es.size ep .none .none):=e1;have hsz:h1.objs.size=s'.heap.objs.size:=s1.1;refine IV (by decide +kernel) ?_
 refine e6 (cg j ?_);refine IV (by decide +kernel) ?_
 refine uj (s := { s' with heap:=h1 }) e1 fun h2 e2 B G => ?_
 refine q7 ⟨_,rfl,q7 ?_⟩;dsimp only at e2 B ⊢;rw [hsz] at e2 B ⊢;exact q h2 e2 B fun b o F e=>G b o F (s1.extBut b o F e)
structure DW (h0:Heap) (s:h7) (it d:Addr) (es:Array HI) (ep i:Nat) (acc:Array gV):Prop where
 dict:∃ cd dd sl,s.heap.get? d=some { cls:=cd,dict:=dd,data := .dict es ep,slots:=sl }
 iter:(i=0/\s.heap.get? it=some (iO .none false d 0 es.size ep .none .none))∨(1<=i /\ ∃ (a:Addr) (b:Bool) (ok ov:gV) (oa:Obj),s.heap.get? it=some (iO (II a) b d i es.size ep ok ov)/\a≠it/\s.heap.get? a=some oa/\oa.cls = .type "tuple")
 size:acc.size=i
 nd:acc.toList.Nodup
 item:∀ j,j < i -> ∃ t e,acc[j]? = some (.ref t)/\es[j]? = some e/\s.heap.get? t=some { cls := .type "tuple",data := .seq #[e.key,e.val] }/\h0.get? t=none
theorem zJ (hn:A.handled=none) {S it d:Addr} {es:Array HI} {ep:Nat} {res:gV} {R:Result->h7->Prop} (G:S≠it) (E6:S≠d) (E7:it≠d) (hz:es.size<=Gg) (h0:Heap) (Ea:S < h0.objs.size->True) :
 ∀ (k i:Nat) (s:h7) (acc:Array gV) (c:Nat),es.size - i=k->i<=es.size->DW h0 s it d es ep i acc->s.heap.get? S=some { cls := .type "list",data := .seq acc c } ->
  (∀ b o,b≠it->b≠S->h0.get? b=some o->s.heap.get? b=some o) ->
  (∀ (h':Heap) (acc':Array gV) (c':Nat),(∀ b o,b≠it->b≠S->h0.get? b=some o->h'.get? b=some o)->h'.get? S=some { cls := .type "list",data := .seq acc' c' }->acc'.size=es.size->acc'.toList.Nodup->(∀ j,j < es.size -> ∃ t e,acc'[j]? = some (.ref t)/\es[j]? = some e/\h'.get? t=some { cls := .type "tuple",data := .seq #[e.key,e.val] }/\h0.get? t=none)->R (.ok (.ret res)) { s with heap:=h' }) ->
  Lf (model prog w) A (.builtin "list.extend.loop" ⟨[.ref S, .ref it,res],[]⟩) R s:=by
 intro k
 induction k with
 | zero =>
   intro i s acc c hk hi H O kp q;have J:i=es.size:=by lia
   obtain ⟨cd,dd,sl,hd⟩:=H.dict;refine JK NS ?_;unfold Im.«list.extend.loop»;dsimp only;refine e6 ?_;have key:∀ (f0:gV) (b:Bool) (ok ov:gV),s.heap.get? it=some (iO f0 b d es.size es.size ep ok ov)->Gm (model prog w) (A.under (OE "list.extend.loop" { pos := [GJ S,GJ it,res] })) (Jq (.ref it)) (fun a s'=>a=none /\ ∃ h',(∀ b o,b≠it->s.heap.get? b=some o->h'.get? b=some o)/\s' = { s with heap:=h' }) (fun e s'=>R (.error e) s') s:=by
    intro f0 b ok ov hi;refine nx_end hn hi hd fun h' kp'=>⟨rfl,h',kp',rfl⟩
   have Z:Gm (model prog w) (A.under (OE "list.extend.loop" { pos := [GJ S,GJ it,res] })) (Jq (.ref it)) (fun a s'=>a=none /\ ∃ h',(∀ b o,b≠it->s.heap.get? b=some o->h'.get? b=some o)/\s' = { s with heap:=h' }) (fun e s'=>R (.error e) s') s:=by
    rcases H.iter with ⟨h0,e⟩ | ⟨h1,a,b,ok,ov,oa,e,_⟩
    ·refine key .none false .none .none ?_;rw [<- J,h0];rw [<- J,h0] at e;exact e
    ·refine key (II a) b ok ov ?_;rw [<- J];rw [<- J] at e;exact e
   refine HF Z (fun a s' hs => ?_) fun _ _ z=>z;obtain ⟨rfl,h',kp',rfl⟩:=hs;refine q7 (q h' acc c (fun b o h1 h2 e=>kp' b o h1 (kp b o h1 h2 e)) (kp' S _ G O) (by rw [H.size];exact J) H.nd fun j hj => ?_)
   obtain ⟨t,e,e1,e2,B,e4⟩:=H.item j (by lia)
   refine ⟨t,e,e1,e2,kp' t _ (fun z => ?_) B,e4⟩
   rcases H.iter with ⟨_,e⟩ | ⟨_,a,b,ok,ov,oa,e,_⟩
   ·rw [z,e] at B;simp [iO] at B
   ·rw [z,e] at B;simp [iO] at B
 | succ k ih =>
   intro i s acc c hk hi H O kp q;have E8:i < es.size:=by lia
   obtain ⟨cd,dd,sl,hd⟩:=H.dict;have he:es[i]? = some es[i]:=Hj E8;refine JK NS ?_;unfold Im.«list.extend.loop»;dsimp only;refine e6 ?_;have key:Gm (model prog w) (A.under (OE "list.extend.loop" { pos := [GJ S,GJ it,res] })) (Jq (.ref it)) (fun v s'=>v=some (.ref s.heap.objs.size) /\ ∃ (h':Heap) (a:Addr) (b:Bool) (ok ov:gV) (oa:Obj),s' = { s with heap:=h' }/\h'.get? it=some (iO (II a) b d (i+1) es.size ep ok ov)/\a≠it/\h'.get? a=some oa/\oa.cls = .type "tuple" /\ h'.get? s.heap.objs.size=some { cls := .type "tuple",data := .seq #[es[i].key,es[i].val] } /\ ∀ b o,b≠it->s.heap.get? b=some o->h'.get? b=some o) (fun e s'=>R (.error e) s') s:=by
    rcases H.iter with ⟨h0,e⟩ | ⟨h1,a,b,ok,ov,oa,e,e1,e2,B⟩
    ·subst h0;refine zI e hd he fun h' g1 g2 g3=>⟨rfl,h',_,_,_,_,_,rfl,g1, ?_,g2,rfl,g2,g3⟩;exact HG (Ga e)
    ·refine zH e e1 e2 hd he fun h' g1 g2 g3=>⟨rfl,h',a,_,_,_,oa,rfl,g1,e1,g3 a oa e1 e2,B,g2,g3⟩
   refine HF key (fun v s' hs => ?_) fun _ _ z=>z;obtain ⟨rfl,h',a,b,ok,ov,oa,rfl,g1,g2,g3,g4,g5,Y⟩:=hs;have L:=Ga O;refine e6 (J4 (Y S _ G O) rfl ?_ (by rw [H.size];lia) (by simp [H.size];lia))
   refine q7 ⟨Mo NT _, ?_⟩;have gS:=Iw (c := "list") (Y S _ G O) (fun x=>x.push (GJ s.heap.objs.size));have oth:∀ b o,b≠S->h'.get? b=some o->(h'.update S (Ja fun x=>x.push (GJ s.heap.objs.size))).get? b=some o:=fun b o hb e=>by rw [Ht _ _ _ _ hb];exact e
   have tup_ne:∀ t (o:Obj),s.heap.get? t=some o->o.cls = .type "tuple" -> t≠it/\t≠S:=fun t o e ec=>by
    constructor
    ·intro z
     rcases H.iter with ⟨_,e'⟩ | ⟨_,a,b,ok,ov,oa,e',_⟩
     ·rw [z,e'] at e;cases e;simp [iO] at ec
     ·rw [z,e'] at e;cases e;simp [iO] at ec
    ·intro z;rw [z,O] at e;cases e;simp at ec
   refine ih (i+1) _ _ _ (by lia) (by lia) ⟨⟨cd,dd,sl,oth d _ E6.symm (Y d _ E7.symm hd)⟩, .inr ⟨by lia,a,b,ok,ov,oa,oth it _ G.symm g1,g2,oth a _ ?_ g3,g4⟩,by simp [H.size], ?_, ?_⟩ gS (fun b o h1 h2 e=>oth b o h2 (Y b o h1 (kp b o h1 h2 e))) fun h2 E3 c2=>q h2 E3 c2
   ·intro z;rw [z,Y S _ G O] at g3;cases g3;simp at g4
   ·rw [Gv];refine KW.mpr ⟨H.nd,by simp,fun x hx y hy E9 => ?_⟩
    simp at hy;subst hy E9;obtain ⟨j,hj,ej⟩:=HR.mp hx;obtain ⟨t,e,e1,e2,B,e4⟩:=H.item j (by rw [<- H.size];simpa using hj)
    have e5:acc[j]? = some (GJ s.heap.objs.size):=by
     rw [<- GC,tv hj,ej]
    rw [e5] at e1;cases e1;exact absurd (Ga B) (HA _)
   ·intro j hj
    by_cases E4:j < i
    ·obtain ⟨t,e,e1,e2,B,e4⟩:=H.item j E4;obtain ⟨t1,t2⟩:=tup_ne t _ B rfl;refine ⟨t,e, ?_,e2,oth t _ t2 (Y t _ t1 B),e4⟩;rw [Array.getElem?_push_lt (by rw [H.size];exact E4)]
     rw [<- e1,Hj]
    ·have:j=i:=by lia
     subst this;have U:it < s.heap.objs.size:=by
      rcases H.iter with ⟨_,e'⟩ | ⟨_,a,b,ok,ov,oa,e',_⟩
      ·exact Ga e'
      ·exact Ga e'
     have E5:h0.get? s.heap.objs.size=none:=by
      cases hq:h0.get? s.heap.objs.size with
      | none=>rfl
      | some o=>exact absurd (Ga (kp _ _ (HG U) (HG L) hq)) (HA _)
     refine ⟨s.heap.objs.size,es[j], ?_,he,oth _ _ (HG L) g5,E5⟩;have:=H.size;subst this;simp
end
end It
end L2
namespace L2
namespace It
open PySem PySem.Spec PyProof.Rows
section
variable {prog:GI} {w:Hf} {A:Hg} {E:gV->h7->Prop} {s:h7}
theorem it_view {v d:Addr} {es:Array HI} {ep:Nat} {cd:gV} {dd:Option Addr} {sl:Array (Option gV)} {Q:gV->h7->Prop} (j:s.heap.get? v=some { cls := .type "dict_items",data := .fields #[.ref d] }) (hd:s.heap.get? d=some { cls:=cd,dict:=dd,data := .dict es ep,slots:=sl })
 (q:Q (.ref s.heap.objs.size) { s with heap:=s.heap.push (iO .none false d 0 es.size ep .none .none) }):Gm (model prog w) A (Nm (.ref v)) Q E s:=by
 have ty:s.TypeIs (.ref v) "dict_items" := ⟨_,j,rfl⟩;refine OF ty N1 (H8 N1 ty F.entry_dict_items_iter ?_ (F.args_dict_items_iter_1 _));unfold Im.«dict_items.__iter__»
 wp_walk
 exact ⟨_,rfl, "dict_itemiterator",_,⟨_,Gh _ rfl,rfl⟩,slot_next.lookup,q⟩
theorem uk {v d:Addr} {Q:Bool->h7->Prop} (B:s.heap.get? v=some { cls := .type "dict_items",data := .fields #[.ref d] }) (q:Q false s):Gm (model prog w) A (LJ (.ref v)) Q E s:=by
 have ty:s.TypeIs (.ref v) "dict_items" := ⟨_,B,rfl⟩;unfold LJ;refine e6 (wpAny_specialOf ty F.slot_dict_items_len.lookup ?_);generalize j:("dict_items.__len__":String)=z
 (fail_if_success (clear j z));wp_delta
 rw [show splitId z=some ("dict_items", "__len__") from by subst j;decide +kernel]
 subst j;refine e6 (Lb (b:=true) ty (by rw [LW];kernel_rfl) ?_)
 rw [if_neg (by decide)]
 refine wpAny_ite_true (by decide +kernel) ?_
 refine e6 (KO ty ?_);exact q7 q
open Builtin.List in
theorem wV {B:Hg} (hn:A.handled=none) {S v d:Addr} {es:Array HI} {ep c:Nat} {cd:gV} {dd:Option Addr} {sl:Array (Option gV)} {R:Result->h7->Prop} (res:gV) (J:s.heap.get? v=some { cls := .type "dict_items",data := .fields #[.ref d] }) (hd:s.heap.get? d=some { cls:=cd,dict:=dd,data := .dict es ep,slots:=sl }) (G:s.heap.get? S=some { cls := .type "list",data := .seq #[] c }) (hz:es.size<=Gg)
 (q:∀ (h':Heap) (acc':Array gV) (c':Nat),(∀ b o,b≠S->s.heap.get? b=some o->h'.get? b=some o)->h'.get? S=some { cls := .type "list",data := .seq acc' c' }->acc'.size=es.size->acc'.toList.Nodup->(∀ j,j < es.size -> ∃ t e,acc'[j]? = some (.ref t)/\es[j]? = some e/\h'.get? t=some { cls := .type "tuple",data := .seq #[e.key,e.val] }/\s.heap.get? t=none)->R (.ok (.ret res)) { s with heap:=h' }) :
 Gm (model prog w) B (listExtendWith (.ref S) (.ref v) res) (fun fin s'=>match fin with | .done f=>R (.ok f) s' | .again c'=>c'.quiet=true/\Lf (model prog w) A c' R s') (fun e s'=>R (.error e) s') s:=by
 have ty:s.TypeIs (.ref v) "dict_items" := ⟨_,J,rfl⟩;have E3:S≠v:=fun e=>by rw [e,J] at G;simp at G
 have L:S≠d:=fun e=>by rw [e,hd] at G;simp at G
 have O:=Ga hd;have z:=Ga G;have E5:=Ga J;have h1:listSameRef (.ref S) (.ref v)=false:=by simp [listSameRef,E3]
 unfold listExtendWith;refine e6 (KO ty ?_);rw [if_neg (by rw [h1];decide)]
 refine e6 (it_view J hd ?_);refine e6 (HB (uk (d:=d) (h6 _ J) ?_));refine wpAny_ite_true (by decide +kernel) ?_
 refine e6 (IC ?_);unfold listTouch;have U:(s.heap.push (iO .none false d 0 es.size ep .none .none)).get? S=some (Ly "list" #[] c):=h6 _ G;refine e6 (e6 (J4 U rfl ?_ (by simp) (by simp)))
 have Y:=Iw U (fun x=>x.push JS);refine J4 Y rfl ?_ (by simp;decide) (by simp)
 have E4:=Iw Y (fun x=>x.pop);refine q7 ⟨Mo NT _, ?_⟩;have oth:∀ b o,b≠S->s.heap.get? b=some o->(((s.heap.push (iO .none false d 0 es.size ep .none .none)).update S (Ja fun x=>x.push JS)).update S (Ja fun x=>x.pop)).get? b=some o:=fun b o Z e=>by
  rw [Ht _ _ _ _ Z,Ht _ _ _ _ Z];exact h6 _ e
 have hit:(((s.heap.push (iO .none false d 0 es.size ep .none .none)).update S (Ja fun x=>x.push JS)).update S (Ja fun x=>x.pop)).get? s.heap.objs.size=some (iO .none false d 0 es.size ep .none .none):=by
  rw [Ht _ _ _ _ (HG z),Ht _ _ _ _ (HG z)];exact Gh _ rfl
 refine zJ hn (S:=S) (it:=s.heap.objs.size) (d:=d) (es:=es) (ep:=ep) (GW z) L (HG O) hz s.heap (fun _=>trivial) es.size 0 _ #[] _ (by lia) (by lia) ⟨⟨cd,dd,sl,oth d _ L.symm hd⟩, .inl ⟨rfl,hit⟩,rfl,by simp,fun j hj=>by lia⟩ E4 (fun b o h1 h2 e=>oth b o h2 e) fun h' acc' c' k1 k2 k3 k5 k4 => ?_
 exact q h' acc' c' (fun b o Z e=>k1 b o (GW (Ga e)) Z e) k2 k3 k5 k4
theorem collect_view (hn:A.handled=none) {v d:Addr} {es:Array HI} {ep:Nat} {cd:gV} {dd:Option Addr} {sl:Array (Option gV)} {Q:List gV->h7->Prop} (Y:s.heap.get? v=some { cls := .type "dict_items",data := .fields #[.ref d] }) (hd:s.heap.get? d=some { cls:=cd,dict:=dd,data := .dict es ep,slots:=sl }) (hz:es.size<=Gg)
 (q:∀ (h':Heap) (us:List gV),(∀ b o,s.heap.get? b=some o->h'.get? b=some o)->us.length=es.size->us.Nodup->(∀ j,j < es.size -> ∃ t e,us[j]? = some (.ref t)/\es[j]? = some e/\h'.get? t=some { cls := .type "tuple",data := .seq #[e.key,e.val] }/\s.heap.get? t=none)->Q us { s with heap:=h' }):Gm (model prog w) A (collect (.ref v)) Q E s:=by
 unfold collect;refine e6 (wpAny_runValue (JK F.entry_proto_collect ?_));unfold Im.«proto.collect»;dsimp only;refine e6 (Kh ?_ (by simp))
 refine q7 ⟨Code.quiet_builtin _ (by decide +kernel), ?_⟩
 refine JK entry_list_iadd' ?_;unfold Im.«list.__iadd__»;refine e6 (Jl (a:=(GJ s.heap.objs.size,[GJ v])) (by kernel_rfl) ?_)
 have Z:=Ga Y;have z:(s.heap.push { cls:=Hb "list",data:=Jk [].toArray }).get? s.heap.objs.size=some { cls:=Hb "list",data:=Jk #[] 0 }:=Gh _ rfl;have fin:∀ (h':Heap) (acc:Array gV) (c':Nat),(∀ b o,b≠s.heap.objs.size->(s.heap.push { cls:=Hb "list",data:=Jk [].toArray }).get? b=some o->h'.get? b=some o)->h'.get? s.heap.objs.size=some { cls := .type "list",data := .seq acc c' }->acc.size=es.size->acc.toList.Nodup->(∀ j,j < es.size -> ∃ t e,acc[j]? = some (.ref t)/\es[j]? = some e/\h'.get? t=some { cls := .type "tuple",data := .seq #[e.key,e.val] }/\(s.heap.push { cls:=Hb "list",data:=Jk [].toArray }).get? t=none) ->
  Gm (model prog w) A (do
   let o <- load s.heap.objs.size
   match o.data with
   | .seq xs _=>pure xs.toList
   | _=>unsupported "internal:collect") Q E { s with heap:=h' }:=by
  intro h' acc c' B G J L O;refine e6 (wpAny_load G ?_);exact q7 (q h' acc.toList (fun b o e=>B b o (GW (Ga e)) (h6 _ e)) (by simpa using J) L fun j hj=>by
   obtain ⟨t,e,e1,e2,e3,e4⟩:=O j hj;refine ⟨t,e,by rw [GC];exact e1,e2,e3, ?_⟩
   cases hq:s.heap.get? t with
   | none=>rfl
   | some o=>rw [h6 _ hq] at e4;cases e4)
 refine HF (wV (s := { s with heap:=s.heap.push { cls:=Hb "list",data:=Jk [].toArray } }) (R:=fun r s'=>r = .ok (.ret (.ref s.heap.objs.size))/\Gm (model prog w) A (do
  let o <- load s.heap.objs.size
  match o.data with
  | .seq xs _=>pure xs.toList
  | _=>unsupported "internal:collect") Q E s') hn (GJ s.heap.objs.size) (h6 _ Y) (h6 _ hd) z hz fun h' acc c' B G J L O=>⟨rfl,fin h' acc c' B G J L O⟩) (fun fn s' h => ?_) (fun e s' h => ?_)
 ·cases fn with
  | done f =>
    obtain ⟨e,h⟩:=h
    cases e
    exact h
  | again c' =>
    refine ⟨h.1,KJ h.2 fun r s1 U => ?_⟩;obtain ⟨rfl,U⟩:=U;exact U
 ·cases h.1
end
end It
end L2
namespace L2
open PySem PySem.Spec PyProof.Rows
section
section
variable {P:GI} {w:Hf} {H:Hp} {h:Heap} {a:Addr} {o:HO}
theorem ObjOk.there (x:ObjOk P w H h a o):∃ ob,h.get? a=some ob:=by
 cases o with
 | lst xs=>obtain ⟨_,_,_,_,e⟩:=x;exact ⟨_,e⟩
 | tup xs=>obtain ⟨_,_,_,_,e,_⟩:=x;exact ⟨_,e⟩
 | dK kvs=>obtain ⟨_,_,_,_,o,_,_,e,_⟩:=x;exact ⟨_,e⟩
 | dT kvs=>obtain ⟨_,_,_,_,o,_,_,e,_⟩:=x;exact ⟨_,e⟩
 | set S n=>obtain ⟨o,_,_,_,e,_⟩:=x;exact ⟨_,e⟩
 | ins C dx fs=>obtain ⟨_,_,_,e,_⟩:=x;exact ⟨_,e⟩
 | own y=>obtain ⟨_,e⟩:=x;exact ⟨_,e⟩
 | xd fs=>obtain ⟨_,⟨_,_,_,e,_⟩,_⟩:=x;exact ⟨_,e⟩
 | rng lo hi=>obtain ⟨_,_,_,e⟩:=x;exact ⟨_,e⟩
 | frz ob u=>obtain ⟨e,_⟩:=x;exact ⟨_,e⟩
 | tbl ps=>exact ⟨_,show h.get? a=some _ from x⟩
 | met f y=>exact ⟨_,show h.get? a=some _ from x⟩
 | ext φ => obtain ⟨_,⟨_,e⟩,_⟩:=x;exact ⟨_,e⟩
end
noncomputable def lay (H:Hp) (N:Addr->Option HO):Hp:=fun b=>match N b with | some o=>some o | none=>H b
section
variable {X:Cx} {pins:List (Addr×Obj)} {σ:List (Option V)} {H:Hp} {s:h7} {h':Heap} {N:Addr->Option HO}
theorem ka {b:Addr} {o:HO} (e:N b=some o):lay H N b=some o:=by unfold lay;rw [e]
theorem gN {b:Addr} (e:N b=none):lay H N b=H b:=by unfold lay;rw [e]
theorem Inv.fresh' (I:Inv X pins σ H s) {b:Addr} (e:s.heap.get? b=none):H b=none:=by
 cases q:H b with
 | none=>rfl
 | some o=>obtain ⟨ob,eo⟩:=(I.hok b o q).there;rw [e] at eo;cases eo
theorem Inv.laidN {t':Nat} (I:Inv X pins σ H s) (k:∀ b u,s.heap.get? b=some u->h'.get? b=some u) (j:∀ b o,N b=some o->s.heap.get? b=none) (new:∀ b o,N b=some o->ObjOk X.prog X.w (lay H N) h' b o):Inv X pins σ (lay H N) { s with heap:=h',toks:=t' }:=by
 have old:∀ b u,s.heap.get? b=some u->N b=none:=fun b u e=>by
  cases q:N b with
  | none=>rfl
  | some o=>rw [j b o q] at e;cases e
 have oldH:∀ b o,H b=some o->lay H N b=some o:=fun b o e=>by
  obtain ⟨ob,eo⟩:=(I.hok b o e).there;rw [gN (old b ob eo)];exact e
 refine I.un ⟨fun b u q _ _ _=>k b u q,fun b u q _ _ _=>⟨u.slots,k b u q⟩,fun b u q n _=>by rw [gN (old b u q)];exact n,fun b u q _=>⟨u,k b u q⟩,fun b xs q=>oldH b _ q,fun b u xs q=>oldH b _ q,fun b ps q=>⟨#[],by rw [oldH b _ q];simp⟩⟩ fun b o e => ?_
 cases q:N b with
 | some o'=>rw [ka q] at e;cases e;exact new b o q
 | none =>
   rw [gN q] at e;exact (I.hok b o e).stay (fun c v _ q=>k c v q) (fun c q=>oldH c _ q) fun c xs q=>oldH c _ q
end
namespace Mi
open L2.Srt
inductive Sh where
 | int
 | tup (l:List Sh)
mutual
noncomputable def hs:Sh->D->Bool
 | .int, .int _=>true
 | .tup l, .tup ds=>hss l ds
 | _,_=>false
noncomputable def hss:List Sh->List D->Bool
 | [],[] => true
 | s::l,d::ds=>hs s d&&hss l ds
 | _,_=>false
end
mutual
noncomputable def pd:D->HE
 | .int i => .int i
 | .tup ds => .tuple (pds ds)
 | _ => .none
noncomputable def pds:List D->List HE
 | [] => []
 | d::ds=>pd d::pds ds
end
mutual
noncomputable def dep:Sh->Nat
 | .int => 0
 | .tup l=>deps l+1
noncomputable def deps:List Sh->Nat
 | [] => 0
 | s::l=>max (dep s) (deps l)
end
noncomputable def e9:Sh->Bool
 | .int=>true
 | .tup (.int::l)=>decide (deps l<=6)
 | .tup (.tup a::l)=>decide (deps (.tup a::l)<=6)
 | .tup [] => false
noncomputable def kyD (d:D):Ky:=toK (pd d)
mutual
theorem um:∀ (s:Sh) (x y:D),hs s x=true->hs s y=true->Cmpb (pd x) (pd y)
 | .int, .int a, .int b,_,_=>by simp only [pd];exact .int a b
 | .tup l, .tup a, .tup b,h,g=>by simp only [hs] at h g;simp only [pd];exact hss_cmp l a b h g
 | .int, .int _, .non,_,g=>by simp [hs] at g
 | .int, .int _, .bl _,_,g=>by simp [hs] at g
 | .int, .int _, .str _,_,g=>by simp [hs] at g
 | .int, .int _, .tup _,_,g=>by simp [hs] at g
 | .int, .int _, .con _,_,g=>by simp [hs] at g
 | .int, .int _, .ref _,_,g=>by simp [hs] at g
 | .int, .non,_,h,_=>by simp [hs] at h
 | .int, .bl _,_,h,_=>by simp [hs] at h
 | .int, .str _,_,h,_=>by simp [hs] at h
 | .int, .tup _,_,h,_=>by simp [hs] at h
 | .int, .con _,_,h,_=>by simp [hs] at h
 | .int, .ref _,_,h,_=>by simp [hs] at h
 | .tup _, .non,_,h,_=>by simp [hs] at h
 | .tup _, .bl _,_,h,_=>by simp [hs] at h
 | .tup _, .int _,_,h,_=>by simp [hs] at h
 | .tup _, .str _,_,h,_=>by simp [hs] at h
 | .tup _, .con _,_,h,_=>by simp [hs] at h
 | .tup _, .ref _,_,h,_=>by simp [hs] at h
 | .tup _, .tup _, .non,_,g=>by simp [hs] at g
 | .tup _, .tup _, .bl _,_,g=>by simp [hs] at g
 | .tup _, .tup _, .int _,_,g=>by simp [hs] at g
 | .tup _, .tup _, .str _,_,g=>by simp [hs] at g
 | .tup _, .tup _, .con _,_,g=>by simp [hs] at g
 | .tup _, .tup _, .ref _,_,g=>by simp [hs] at g
theorem hss_cmp:∀ (l:List Sh) (a b:List D),hss l a=true->hss l b=true->Cmpb (.tuple (pds a)) (.tuple (pds b))
 | [],[],[],_,_=>by simp only [pds];exact .nil _
 | [],[],_::_,_,g=>by simp [hss] at g
 | [],_::_,_,h,_=>by simp [hss] at h
 | _::_,[],_,h,_=>by simp [hss] at h
 | _::_,_::_,[],_,g=>by simp [hss] at g
 | s::l,x::a,y::b,h,g=>by
   simp only [hss,hH] at h g;simp only [pds];exact .cons (um s x y h.1 g.1) (hss_cmp l a b h.2 g.2)
end
mutual
theorem jv:∀ (s:Sh) (x:D),hs s x=true->Pl (pd x)/\(pd x).canLay0=true/\(pd x).depth<=dep s
 | .int, .int a,_=>by simp only [pd];exact ⟨.int a,rfl,by simp [JF]⟩
 | .tup l, .tup a,h=>by
  simp only [hs] at h;obtain ⟨h1,h2,j⟩:=hss_pl l a h;simp only [pd];exact ⟨.tup _ h1,by simpa [KU] using h2,by simp [JF,dep];lia⟩
 | .int, .non,h=>by simp [hs] at h
 | .int, .bl _,h=>by simp [hs] at h
 | .int, .str _,h=>by simp [hs] at h
 | .int, .tup _,h=>by simp [hs] at h
 | .int, .con _,h=>by simp [hs] at h
 | .int, .ref _,h=>by simp [hs] at h
 | .tup _, .non,h=>by simp [hs] at h
 | .tup _, .bl _,h=>by simp [hs] at h
 | .tup _, .int _,h=>by simp [hs] at h
 | .tup _, .str _,h=>by simp [hs] at h
 | .tup _, .con _,h=>by simp [hs] at h
 | .tup _, .ref _,h=>by simp [hs] at h
theorem hss_pl:∀ (l:List Sh) (a:List D),hss l a=true->(∀ x∈pds a,Pl x)/\HN (pds a)=true/\IW (pds a)<=deps l
 | [],[],_=>by simp [pds,HN,IW]
 | [],_::_,h=>by simp [hss] at h
 | _::_,[],h=>by simp [hss] at h
 | s::l,x::a,h=>by
   simp only [hss,hH] at h;obtain ⟨h1,h2,q⟩:=jv s x h.1;obtain ⟨g1,g2,g3⟩:=hss_pl l a h.2;simp only [pds];refine ⟨fun y j => ?_,by simp [HN,h2,g2],by simp [IW,deps];lia⟩
   rcases Gj.mp j with z | z
   ·rw [z];exact h1
   ·exact g1 y z
end
mutual
theorem mj (M:Mem):∀ (s:Sh) (x:D) (n:Nat),hs s x=true->dep s<=n->rb n M x=some (pd x)
 | .int, .int a,n,_,_=>by cases n <;> simp [rb,pd]
 | .tup l, .tup a,n,h,j=>by
  simp only [hs] at h;simp only [dep] at j;obtain ⟨k,rfl⟩:∃ k,n=k+1:=⟨n - 1,by lia⟩
  simp only [rb,pd];rw [hss_rb M l a k h (by lia)];rfl
 | .int, .non,_,h,_=>by simp [hs] at h
 | .int, .bl _,_,h,_=>by simp [hs] at h
 | .int, .str _,_,h,_=>by simp [hs] at h
 | .int, .tup _,_,h,_=>by simp [hs] at h
 | .int, .con _,_,h,_=>by simp [hs] at h
 | .int, .ref _,_,h,_=>by simp [hs] at h
 | .tup _, .non,_,h,_=>by simp [hs] at h
 | .tup _, .bl _,_,h,_=>by simp [hs] at h
 | .tup _, .int _,_,h,_=>by simp [hs] at h
 | .tup _, .str _,_,h,_=>by simp [hs] at h
 | .tup _, .con _,_,h,_=>by simp [hs] at h
 | .tup _, .ref _,_,h,_=>by simp [hs] at h
theorem hss_rb (M:Mem):∀ (l:List Sh) (a:List D) (n:Nat),hss l a=true->deps l<=n->aH (rb n M) a=some (pds a)
 | [],[],_,_,_=>by simp [pds,aH]
 | [],_::_,_,h,_=>by simp [hss] at h
 | _::_,[],_,h,_=>by simp [hss] at h
 | s::l,x::a,n,h,j=>by
   simp only [hss,hH] at h;simp only [deps] at j;simp only [pds,aH];rw [mj M s x n h.1 (by lia),hss_rb M l a n h.2 (by lia)];rfl
end
theorem iC {s:Sh} (h:e9 s=true):dep s<=7:=by
 match s,h with
 | .int,_=>simp [dep]
 | .tup (.int::l),h=>simp [e9] at h;simp [dep,deps];lia
 | .tup (.tup a::l),h=>simp only [e9,decide_eq_true_eq] at h;simp only [dep];lia
theorem q8 {s:Sh} (h:e9 s=true) {xs:List D} (hx:∀ x∈xs,hs s x=true):nX 7 (xs.map pd) /\ ∀ d∈xs.map pd,Pl d:=by
 refine ⟨⟨?_, ?_, ?_⟩, ?_⟩
 ·intro d hd e he;obtain ⟨x,h1,rfl⟩:=Gk.mp hd;obtain ⟨y,h2,rfl⟩:=Gk.mp he;exact um s x y (hx x h1) (hx y h2)
 ·intro d hd;obtain ⟨x,h1,rfl⟩:=Gk.mp hd;obtain ⟨_,g2,g3⟩:=jv s x (hx x h1);exact ⟨g2,by have:=iC h;lia⟩
 ·match s,h with
  | .int,_ =>
   left
   intro d hd;obtain ⟨x,h1,rfl⟩:=Gk.mp hd;have:=hx x h1
   cases x <;> simp [hs] at this
   exact ⟨_,rfl⟩
  | .tup (.int::l),_ =>
   right;left
   intro d hd;obtain ⟨x,h1,rfl⟩:=Gk.mp hd;have:=hx x h1
   cases x <;> simp [hs] at this
   rename_i ds
   cases ds with
   | nil=>simp [hss] at this
   | cons y ys =>
     simp [hss] at this
     cases y <;> simp [hs] at this
     exact ⟨_,_,rfl⟩
  | .tup (.tup a::l),_ =>
   right;right
   intro d hd;obtain ⟨x,h1,rfl⟩:=Gk.mp hd;have:=hx x h1
   cases x <;> simp [hs] at this
   rename_i ds
   cases ds with
   | nil=>simp [hss] at this
   | cons y ys =>
     simp [hss] at this
     cases y <;> simp [hs] at this
     exact ⟨_,_,rfl⟩
 ·intro d hd;obtain ⟨x,h1,rfl⟩:=Gk.mp hd;exact (jv s x (hx x h1)).1
theorem cH {α β:Type} (f : α -> β):∀ {l m:List β},l.Perm m -> ∀ {t:List α},t.map f=m -> ∃ t':List α,t'.Perm t/\t'.map f=l:=by
 intro l m h
 induction h with
 | nil=>intro t e;exact ⟨[],by rw [List.map_eq_nil_iff.mp e],rfl⟩
 | cons x h ih =>
   intro t e
   cases t with
   | nil=>simp at e
   | cons a t =>
     simp at e;obtain ⟨t',h1,h2⟩:=ih e.2;exact ⟨a::t',h1.cons a,by simp [h2,e.1]⟩
 | swap x y l =>
   intro t e
   match t,e with
   | a::b::t,e =>
     simp at e;exact ⟨b::a::t, .swap _ _ _,by simp [e]⟩
 | trans h1 h2 j q =>
   intro t e;obtain ⟨B,p2,e2⟩:=q e;obtain ⟨t1,z,e1⟩:=j e2;exact ⟨t1,z.trans p2,e1⟩
def cu (ys:List D):Prop:=ys.Pairwise fun a b=>ltK (kyD b) (kyD a)=false
noncomputable def kb:RAd:=fun ds M Q => ∃ x xs sh,ds=[x]/\aq M x=some xs/\e9 sh=true/\(∀ d∈xs,hs sh d=true) /\ ∀ p ys,M p=none->ys.Perm xs->cu ys->Q (.ref p) (af M p (.lst ys))
theorem i9:b4 kb:=fun _ _ _ _ h ⟨x,xs,sh,e,l,o,a,q⟩=>⟨x,xs,sh,e,l,o,a,fun p ys n j hs=>h _ _ (q p ys n j hs)⟩
theorem q9 {K:Frag} {H:Hp}:∀ {ds:List D} {vs:List V} {us:List gV},RDs K H ds vs->Vals vs us -> ∃ t:List (D×V×gV),t.map (·.1)=ds/\t.map (·.2.1)=vs/\t.map (·.2.2)=us /\ ∀ p∈t,RD K H p.1 p.2.1/\RelV p.2.1 p.2.2
 | [],vs,us,h,g=>by
  cases RDs.nil_iff.mp h
  cases g
  exact ⟨[],rfl,rfl,rfl,fun _ h=>by simp at h⟩
 | d::ds,vs,us,h,g=>by
   obtain ⟨v,r,rfl,h1,h2⟩:=Q8.mp h
   cases g with
   | cons g1 g2 =>
     rename_i u us;obtain ⟨t,e1,e2,j,q⟩:=q9 h2 g2;exact ⟨(d,v,u)::t,by simp [e1],by simp [e2],by simp [j],fun p B=>by
      rcases Gj.mp B with z | z
      ·rw [z];exact ⟨h1,g1⟩
      ·exact q p z⟩
theorem qa {K:Frag} {H:Hp}:∀ {t:List (D×V×gV)},(∀ p∈t,RD K H p.1 p.2.1/\RelV p.2.1 p.2.2)->RDs K H (t.map (·.1)) (t.map (·.2.1))/\Vals (t.map (·.2.1)) (t.map (·.2.2))
 | [],_=>⟨RDs.nil, .nil⟩
 | p::t,h=>by
   obtain ⟨h1,h2⟩:=qa (t:=t) fun q j=>h q (by simp [j])
   exact ⟨RDs.cons (h p (by simp)).1 h1, .cons (h p (by simp)).2 h2⟩
section
variable {X:Cx}
theorem ic {cap:Nat} (S:cr cap) (L:X.A.units+16 < Ij) {pins:List (Addr×Obj)} {s:h7} {σ:St} {H:Hp} {Q:VK} (I:Inv X pins σ H s) {M:Mem} (rm:RM X.K M H) {es:List D} {sh:Sh} {vs:List V} {p:Addr} (rvs:RDs X.K H es vs) (hok:e9 sh=true) (O:∀ d∈es,hs sh d=true)
 (q:∀ p ys,M p=none->ys.Perm es->cu ys->KE' X.K M H Q (.ref p) (af M p (.lst ys))) {its:List gV} (hv:Vals vs its) (hl:vs.length<=Gg) (E5:vs.length<=cap)
 (U:∀ (E:gV->h7->Prop) (R:List gV->h7->Prop),(∀ (h':Heap) (tk:Nat),(∀ b o,s.heap.get? b=some o->h'.get? b=some o)->s.toks<=tk->R its { s with heap:=h',toks:=tk })->Gm (Gn X.prog X.w) X.A.in1 (collect (.ref p)) R E s) :
 Gm (Gn X.prog X.w) X.A (call (.builtin "sorted") [.ref p]) (EP X pins σ Q) X.xe s:=by
 obtain ⟨hS,J⟩:=q8 hok O;have E8:=iC hok;obtain ⟨t,t1,t2,t3,t4⟩:=q9 rvs hv;have Y:∀ pp∈t, ∃ as,Ki s.heap pp.2.2 (pd pp.1) as:=fun pp j=>by
  have hm:pp.1∈es:=by rw [<- t1];exact GF j
  exact bf I rm 16 pp.1 (pd pp.1) pp.2.1 pp.2.2 (mj M sh pp.1 16 (O _ hm) (by lia)) (t4 pp j).1 (t4 pp j).2
 have Z:RdL s.heap its (es.map pd):=fun u L=>by
  rw [<- t3] at L;obtain ⟨pp,j,rfl⟩:=Gk.mp L;obtain ⟨as,ra⟩:=Y pp j;exact ⟨pd pp.1,GF (by rw [<- t1];exact GF j),as,ra⟩
 refine lm S (m := 7) (ds:=es.map pd) (C:=fun h' vs'=>vs'=its /\ ∀ b o,s.heap.get? b=some o->h'.get? b=some o) (by lia) hS J (fun E R hR => ?_) fun h1 h2 vs' out n' tk hC old g2 F E3 E9 Ea ht => ?_
 ·refine U E R fun h' tk kp E6=>hR h' its tk ⟨rfl,kp⟩ (fun u L => ?_) ⟨by rw [<- hv.length];exact hl,by rw [<- hv.length];exact E5⟩ E6
  obtain ⟨d,hd,as,ra⟩:=Z u L;exact ⟨d,hd,as,aT (fun b o e _=>kp b o e) (J d hd) ra⟩
 ·obtain ⟨rfl,kp⟩:=hC;rw [<- t3] at F;obtain ⟨t',p1,p2⟩:=cH (fun pp:D×V×gV=>pp.2.2) F rfl;have hz:=qa (t:=t') fun pp j=>t4 pp (p1.mem_iff.mp j);have E4:∀ b o,s.heap.get? b=some o->h2.get? b=some o:=fun b o e=>old b o (kp b o e);have z:s.heap.get? h1.objs.size=none:=by
   cases hq:s.heap.get? h1.objs.size with
   | none=>rfl
   | some o=>exact absurd (Ga (kp _ _ hq)) (HA _)
  have E7:=I.fresh' z;have hlen:(t'.map (·.2.1)).length<=Gg:=by
   rw [r3,p1.length_eq, <- r3 (f:=fun pp:D×V×gV=>pp.2.1),t2];exact hl
  have I2:=I.laidN (t':=tk) (h':=h2) (N:=fun b=>if b=h1.objs.size then some (.lst (t'.map (·.2.1))) else none) E4 (fun b o e=>by
   by_cases B:b=h1.objs.size
   ·rw [B];exact z
   ·rw [if_neg B] at e;cases e) (fun b o e=>by
   by_cases B:b=h1.objs.size
   ·subst B;rw [if_pos rfl] at e;cases e;exact ⟨hlen,out,n',by rw [<- p2];exact hz.2,g2⟩
   ·rw [if_neg B] at e;cases e)
  have eH:lay H (fun b=>if b=h1.objs.size then some (.lst (t'.map (·.2.1))) else none)=upd H h1.objs.size (.lst (t'.map (·.2.1))):=by
   funext b
   unfold lay upd;dsimp only
   by_cases B:b=h1.objs.size
   ·rw [if_pos B,if_pos B]
   ·rw [if_neg B,if_neg B]
  rw [eH] at I2;refine ⟨.ref h1.objs.size,_,I2,rfl, ?_⟩;refine cm rm hz.1 (fun p' n=>q p' _ n ?_ ?_) E7
  ·have:=p1.map (fun pp:D×V×gV=>pp.1);rw [t1] at this;exact this
  ·unfold cu;rw [GQ];rw [<- p2,GQ] at E3;refine E3.imp_of_mem fun {a b} ha B hab => ?_;have rd:∀ pp∈t',Ic h2 pp.2.2=pd pp.1:=fun pp j=>by
    have G:=p1.mem_iff.mp j;obtain ⟨as,ra⟩:=Y pp G;have hm:pp.1∈es:=by rw [<- t1];exact GF G
    exact IZ (hS.lay _ (GF hm)).1 (aT (fun b o e _=>E4 b o e) (J _ (GF hm)) ra)
   rw [rd a ha,rd b B] at hab;exact hab
theorem lW (J:X.A.units+16 < Ij):CallR X (.builtin "sorted") (lR X.K kb):=by
 intro pins s σ H xs us Q I r h;obtain ⟨ds,M,rm,rs,x,es,sh,rfl,j,hok,z,q⟩:=h;obtain ⟨v,rfl,rv⟩:=rs.one;obtain ⟨u,rfl,ru⟩:=dM r;obtain ⟨p,vs,rfl,sq,rvs⟩:=j6 rm rv j
 cases ru
 rcases sq with sq | sq
 ·obtain ⟨its,r',pl,B⟩:=I.list sq;have hlen:=r'.length;obtain ⟨o,ho,F,n,hd⟩:=pl.isList;exact ic cc J I rm rvs hok z q r' B B fun E R G=>KY p (.inl rfl) ho F hd (fun h' kp=>G h' s.toks kp (Gi _)) (by simp only [Gf] <;> lia)
 ·obtain ⟨its,r',pl,B⟩:=I.tuple sq;have hlen:=r'.length;obtain ⟨o,ho,F,n,hd⟩:=pl;exact ic cc J I rm rvs hok z q r' B B fun E R G=>KY p (.inr rfl) ho F hd (fun h' kp=>G h' s.toks kp (Gi _)) (by simp only [Gf] <;> lia)
end
end Mi
end
end L2
namespace L2
namespace Mi
open PySem PySem.Spec PyProof.Rows L2.Srt
noncomputable def kvD (kv:D×D):D := .tup [kv.1,kv.2]
noncomputable def fX (ta:TEd):TEd:=fun ρ M Q=>ta ρ M fun x M1 => ∃ a t kvs sh,x = .ref a/\M1 a=some (.dct t kvs)/\e9 sh=true/\(∀ kv∈kvs,hs sh (kvD kv)=true) /\ ∀ p ys,M1 p=none->ys.Perm (kvs.map kvD)->cu ys->Q (.ref p) (af M1 p (.lst ys))
theorem rH {ta:TEd} (h:ad ta):ad (fX ta):=fun ρ M Q Q' i q=>h _ _ _ _ (fun x F ⟨a,t,kvs,sh,e,e1,e2,j,z⟩=>⟨a,t,kvs,sh,e,e1,e2,j,fun p ys n B hs=>i _ _ (z p ys n B hs)⟩) q
def kc (K:Frag) (H:Hp) (kv:D×D) (e:HI):Prop := ∃ kV vV,RD K H kv.1 kV/\RelV kV e.key/\RD K H kv.2 vV/\RelV vV e.val
theorem qb {K:Frag} {H:Hp} {d:D} {k:Key} (h:RKey d k):RD K H d (kV k):=by
 cases d <;> first
  | exact h.elim
  | (cases h;first | exact Q5.mpr rfl | exact Qe.mpr rfl)
theorem lp {K:Frag} {H:Hp}:∀ {ds:List D} {ks:List Key},HD RKey ds ks->RDs K H ds (ks.map kV)
 | _,_, .nil=>RDs.nil
 | _,_, .cons r t=>RDs.cons (qb r) (lp t)
theorem yh {P:GI} {w:Hf} {K:Frag} {H:Hp}:∀ {kvs:List (D×D)} {ps:List (Key×V)} {vs:List (Key×gV)} {es:List HI},HD (fun (p:D×D) (q:Key×V)=>RKey p.1 q.1/\RD K H p.2 q.2) kvs ps->KV ps vs->Pairs (aJ P w) es vs->HD (kc K H) kvs es
 | _,_,_,_, .nil, .nil, .nil => .nil
 | _,_,_,_, .cons j t1, .cons z B, .cons h1 h2 t3=>by
   refine .cons ⟨kV _,_,qb j.1, ?_,j.2,by rw [h2];exact z.2⟩ (yh t1 B t3)
   rw [<- z.1] at h1
   rcases aN h1 with ⟨i,t,e1,e2⟩ | ⟨x,t,e1,e2⟩
   ·rw [e1,e2];exact ⟨t,rfl⟩
   ·rw [e1,e2];exact ⟨t,rfl⟩
theorem yi {P:GI} {w:Hf} {K:Frag} {H:Hp}:∀ {kvs:List (D×D)} {ps:List (List Key×V)} {xs:List (List Key×Addr×gV)},HD (fun (p:D×D) (q:List Key×V)=>RKeys p.1 q.1/\RD K H p.2 q.2) kvs ps->HD (fun (p:List Key×V) (q:List Key×Addr×gV)=>p.1=q.1/\H q.2.1=some (.tup (p.1.map kV))/\RelV p.2 q.2.2) ps xs->HD (kc K H) kvs (xs.map (entryOfKey (LK (aJ P w))))
 | _,_,_, .nil, .nil => .nil
 | kv::_,_,_, .cons z t1, .cons B F=>by
   refine .cons ?_ (yi t1 F);obtain ⟨d,v⟩:=kv;have j:=z.1
   cases d <;> first
    | exact j.elim
    | exact ⟨.ref _,_,Qf ⟨_,_,rfl,B.2.1,lp j⟩,rfl,z.2,B.2.2⟩
theorem bo {α β:Type} {R : α -> β -> Prop}:∀ {l:List α} {m:List β},HD R l m->l.length=m.length
 | _,_, .nil=>rfl
 | _,_, .cons _ t=>by simp [bo t]
noncomputable abbrev Rw:=Addr×(D×D)×V×V×HI
theorem yj {K:Frag} {H:Hp} {G:Addr->HI->Prop}:∀ {kvs:List (D×D)} {es:List HI} {us:List gV},HD (kc K H) kvs es->us.length=es.length->(∀ j,j < es.length -> ∃ t e,us[j]? = some (.ref t)/\es[j]? = some e/\G t e) ->
 ∃ L:List Rw,L.map (fun r=>GJ r.1)=us/\L.map (fun r=>r.2.1)=kvs /\ ∀ r∈L,RD K H r.2.1.1 r.2.2.1/\RelV r.2.2.1 r.2.2.2.2.key/\RD K H r.2.1.2 r.2.2.2.1/\RelV r.2.2.2.1 r.2.2.2.2.val/\G r.1 r.2.2.2.2
 | _,_,us, .nil,q,_=>⟨[],by simp at q;simp [q],rfl,fun _ h=>by simp at h⟩
 | kv::kvs,e::es,us, .cons r t,q,h=>by
   cases us with
   | nil=>simp at q
   | cons u us =>
     obtain ⟨L,h1,h2,F⟩:=yj (us:=us) t (by simpa using q) fun j J=>by
      obtain ⟨t,e',e1,e2,B⟩:=h (j+1) (by simpa using J)
      exact ⟨t,e',by simpa using e1,by simpa using e2,B⟩
     obtain ⟨t0,e',e1,e2,B⟩:=h 0 (by simp)
     simp at e1 e2;subst e1 e2;obtain ⟨kV,vV,g1,g2,g3,O⟩:=r;exact ⟨(t0,kv,kV,vV,e)::L,by simp [h1],by simp [h2],fun r U=>by
      rcases Gj.mp U with z | z
      ·rw [z];exact ⟨g1,g2,g3,O,B⟩
      ·exact F r z⟩
theorem wW {L:List Rw} (j:(L.map fun r=>r.1).Nodup) {r:Rw} (q:r∈L):L.find? (fun x=>decide (x.1=r.1))=some r:=by
 induction L with
 | nil=>simp at q
 | cons x L ih =>
   simp only [Gr,HV] at j
   rcases Gj.mp q with z | z
   ·subst z;simp
   ·have:x.1≠r.1:=fun e=>j.1 (by rw [e];exact GF z)
    rw [JG (by simpa using this)]
    exact ih j.2 z
section
variable {X:Cx}
theorem nZ {H:Hp} {h:Heap} {P:GI} {w:Hf} {K:Frag} {a:Addr} {ps:List (List Key×V)} {kvs:List (D×D)} (ok:ObjOk P w H h a (.dT ps)) (pr:HD (fun (p:D×D) (q:List Key×V)=>RKeys p.1 q.1/\RD K H p.2 q.2) kvs ps) :
 ∃ cd dd sl es ep,h.get? a=some { cls:=cd,dict:=dd,data := .dict es ep,slots:=sl }/\es.size<=Gg/\HD (kc K H) kvs es.toList:=by
 obtain ⟨G,B,xs,j,o,es,ep,h1,h2,z,F,J⟩:=ok;obtain ⟨cd,dd,dat,sl⟩:=o;dsimp only at z;subst z;have pp:=yi (P:=P) (w:=w) pr j;rw [<- F] at pp;refine ⟨cd,dd,sl,es,ep,h1, ?_,pp⟩;have:=bo pp;have:=bo pr;simp at *;lia
theorem zK {pins:List (Addr×Obj)} {σ:St} {H:Hp} {s:h7} {M:Mem} (I:Inv X pins σ H s) (rm:RM X.K M H) {a:Addr} {t:Bool} {kvs:List (D×D)} (e:M a=some (.dct t kvs)) :
 ∃ cd dd sl es ep,s.heap.get? a=some { cls:=cd,dict:=dd,data := .dict es ep,slots:=sl }/\es.size<=Gg/\HD (kc X.K H) kvs es.toList/\IsD H a:=by
 have ro:=rm a _ e
 cases t with
 | false =>
   obtain ⟨ps,j,pr⟩:=ro;obtain ⟨G,B,vs,z,o,es,ep,h1,h2,q,J,F,L⟩:=I.hok a _ j;obtain ⟨cd,dd,dat,sl⟩:=o;dsimp only at q;subst q;have pp:=yh pr z F;refine ⟨cd,dd,sl,es,ep,h1, ?_,pp, .inl ⟨_,Rd.of j⟩⟩;have:=bo pp;have:=bo pr;simp at *;lia
 | true =>
   obtain ⟨ps,j,pr⟩:=ro;obtain ⟨cd,dd,sl,es,ep,h1,h2,q⟩:=nZ (I.hok a _ j) pr;exact ⟨cd,dd,sl,es,ep,h1,h2,q, .inr ⟨_,Rd.of j⟩⟩
theorem lq {d:Addr} {Q:gV->h7->Prop} {A:Hg} {E:gV->h7->Prop} {s:h7} {cd:gV} {dd:Option Addr} {sl:Array (Option gV)} {es:Array HI} {ep:Nat} {prog:GI} {w:Hf} (ty:s.TypeIs (.ref d) "dict") (z:(d==IS)=false) (hd:s.heap.get? d=some { cls:=cd,dict:=dd,data := .dict es ep,slots:=sl })
 (q:Q (.ref s.heap.objs.size) { s with heap:=s.heap.push { cls := .type "dict_items",data := .fields #[.ref d] } }):Gm (model prog w) A (call (.builtin "dict.items") [.ref d]) Q E s:=by
 have j:cd = .type "dict" := by
  obtain ⟨o,h1,h2⟩:=ty;rw [hd] at h1;cases h1;exact h2
 subst j;refine H8 Mk ty F.entry_dict_items ?_ (F.args_dict_items_1 _);unfold Im.«dict.items»
 wp_walk
 exact ⟨_,rfl,q⟩
theorem wX {e:Expr} {ta:TEd} {p pos apos cpos:Pos} (hu:X.A.units+16 < Ij) (m:ad ta) (hc:X.calm=true) (he:PE X e (lE X.K ta)) (hg:Gl X "sorted") (hm:X.mg "sorted" = none)
 (E6:Kg e "items" X.env (eval e X.env)=eval e X.env) (E7:(apos.endLine==cpos.line)=true) :
 PE X (.Call (.Name "sorted" p) [.Call (.Attribute e "items" apos) [] [] cpos] [] pos) (lE X.K (fX ta)):=by
 intro pins s σ H Q I h;obtain ⟨ρ,M,rs,rm,h⟩:=h;refine JD (dr I hg hm (u := .builtin "sorted") (by decide +kernel) ?_ (by decide) (by decide))
 refine L6 ?_ rfl rfl;refine Kn ?_;refine KG E6 E7 (thn (he pins s σ H (fun v H1 => ∃ Z a t kvs sh,Ext M H Z H1/\RM X.K Z H1/\v = .ref a/\Z a=some (.dct t kvs)/\e9 sh=true/\(∀ kv∈kvs,hs sh (kvD kv)=true) /\ ∀ p ys,Z p=none->ys.Perm (kvs.map kvD)->cu ys->KE' X.K M H Q (.ref p) (af Z p (.lst ys))) I ⟨ρ,M,rs,rm,m _ _ _ _ (fun x Z ⟨a,t,kvs,sh,e,e1,e2,e3,q1⟩ v H1 x1 Y Ei=>by
  subst e;exact ⟨Z,a,t,kvs,sh,x1,Y,Q6.mp Ei,e1,e2,e3,q1⟩) h⟩) fun v s1 ⟨x,H1,I1,r1,Z,a,t,kvs,sh,x1,Y,ex,e1,hok,Ea,q⟩ => ?_)
 subst ex;obtain rfl:v=GJ a:=r1;obtain ⟨cd,dd,sl,es,ep,hd,hz,Eb,hD⟩:=zK I1 Y e1;obtain ⟨t1,t2,Ej⟩:=iW I1 hD;refine ⟨"dict", "dict.items",OG,Mk,OH,t1,t2,J2 rfl (LB ?_)⟩;refine lq t1 Ej hd ?_;refine Mf ?_;have kpv:∀ b o,s1.heap.get? b=some o->(s1.heap.push { cls:=Hb "dict_items",data:=Kx #[GJ a] }).get? b=some o:=fun b o e=>h6 _ e;obtain ⟨hS,Ek⟩:=q8 (xs:=kvs.map kvD) hok (fun d hd=>by
  obtain ⟨kv,El,rfl⟩:=Gk.mp hd;exact Ea kv El)
 have U:=iC hok;have Ec:∀ (h':Heap) (r:Rw),(∀ b o,s1.heap.get? b=some o->h'.get? b=some o)->r.2.1∈kvs->RD X.K H1 r.2.1.1 r.2.2.1->RelV r.2.2.1 r.2.2.2.2.key->RD X.K H1 r.2.1.2 r.2.2.2.1->RelV r.2.2.2.1 r.2.2.2.2.val->h'.get? r.1=some { cls := .type "tuple",data := .seq #[r.2.2.2.2.key,r.2.2.2.2.val] } -> ∃ as,Ki h' (.ref r.1) (pd (kvD r.2.1)) as:=by
  intro h' r kp hm g1 g2 g3 g4 g5;have J:=Ea _ hm
  match sh,J,U with
  | .tup l,J,U =>
   simp only [kvD,hs] at J
   match l,J,U with
   | [sa,sb],J,U =>
    simp only [hss,hH,and_true] at J;simp only [dep,deps] at U;obtain ⟨as,ra⟩:=bf I1 Y 16 _ _ _ _ (mj Z sa _ 16 J.1 (by lia)) g1 g2
    obtain ⟨bs,rb'⟩:=bf I1 Y 16 _ _ _ _ (mj Z sb _ 16 J.2 (by lia)) g3 g4
    have ra:=aT (fun b o e _=>kp b o e) (jv sa _ J.1).1 ra;have rb':=aT (fun b o e _=>kp b o e) (jv sb _ J.2).1 rb';have fin:Ki h' (.ref r.1) (.tuple [pd r.2.1.1,pd r.2.1.2]) (as++(bs++[])) := .tuple g5 rfl rfl (.cons ra (.cons rb' .nil));exact ⟨_,fin⟩
   | [],J,_=>simp [hss] at J
   | [_],J,_=>simp [hss] at J
   | _::_::_::_,J,_=>simp [hss] at J
  | .int,J,_=>simp [kvD,hs] at J
 refine lm (cap:=Gg) cc (m := 7) (ds:=(kvs.map kvD).map pd) (C:=fun h' us=>(∀ b o,s1.heap.get? b=some o->h'.get? b=some o) /\ ∃ L:List Rw,L.map (fun r=>GJ r.1)=us/\L.map (fun r=>r.2.1)=kvs/\us.Nodup /\ ∀ r∈L,RD X.K H1 r.2.1.1 r.2.2.1/\RelV r.2.2.1 r.2.2.2.2.key/\RD X.K H1 r.2.1.2 r.2.2.2.1/\RelV r.2.2.2.1 r.2.2.2.2.val/\h'.get? r.1=some { cls := .type "tuple",data := .seq #[r.2.2.2.2.key,r.2.2.2.2.val] }/\s1.heap.get? r.1=none) (by lia) hS Ek (fun E R hR => ?_) fun h1 h2 us out n' tk hC old g2 E3 Ed Et Eu ht => ?_
 ·refine It.collect_view (A:=X.A.in1) (s := { s1 with heap:=s1.heap.push { cls:=Hb "dict_items",data:=Kx #[GJ a] } }) (I.ok.hd hc) (Gh _ rfl) (kpv _ _ hd) hz fun h' us k1 k2 k3 k4 => ?_
  obtain ⟨L,l1,l2,l3⟩:=yj (G:=fun t e=>h'.get? t=some { cls := .type "tuple",data := .seq #[e.key,e.val] }/\s1.heap.get? t=none) Eb (by simpa using k2) fun j hj=>by
   obtain ⟨t,e,e1,e2,e3,e4⟩:=k4 j (by simpa using hj)
   refine ⟨t,e,e1,by rw [GC];exact e2,e3, ?_⟩
   cases hq:s1.heap.get? t with
   | none=>rfl
   | some o=>rw [kpv _ _ hq] at e4;cases e4
  refine hR h' us _ ⟨fun b o e=>k1 b o (kpv b o e),L,l1,l2,k3,l3⟩ (fun u hu => ?_) ⟨by rw [k2];exact hz,by rw [k2];exact hz⟩ (Gi _)
  rw [<- l1] at hu;obtain ⟨r,O,rfl⟩:=Gk.mp hu;obtain ⟨p1,p2,p3,p4,p5,p6⟩:=l3 r O;have hm:r.2.1∈kvs:=by rw [<- l2];exact GF O
  obtain ⟨as,ra⟩:=Ec h' r (fun b o e=>k1 b o (kpv b o e)) hm p1 p2 p3 p4 p5;exact ⟨_,GF (GF hm),as,ra⟩
 ·obtain ⟨kp,L,l1,l2,l3,l4⟩:=hC;rw [<- l1] at E3;obtain ⟨L',p1,p2⟩:=cH (fun r:Rw=>GJ r.1) E3 rfl;have Ee:∀ b o,s1.heap.get? b=some o->h2.get? b=some o:=fun b o e=>old b o (kp b o e);have B:s1.heap.get? h1.objs.size=none:=by
   cases hq:s1.heap.get? h1.objs.size with
   | none=>rfl
   | some o=>exact absurd (Ga (kp _ _ hq)) (HA _)
  have Em:(L.map fun r=>r.1).Nodup:=by
   rw [<- l1] at l3;have:(L.map fun r=>GJ r.1)=(L.map fun r=>r.1).map GJ:=by simp
   rw [this] at l3;exact List.Pairwise.of_map _ (fun a b E5 he=>E5 (by rw [he])) l3
  have E4:∀ r∈L',r∈L:=fun r O=>p1.mem_iff.mp O;have hp:∀ r∈L,r.1≠h1.objs.size:=fun r O=>GW (Ga (l4 r O).2.2.2.2.1)
  let N:Addr->Option HO:=fun b=>if b=h1.objs.size then some (.lst (L'.map fun r=>V.ref r.1)) else (L.find? fun x=>decide (x.1=b)).map fun r => .tup [r.2.2.1,r.2.2.2.1]
  have Ef:N h1.objs.size=some (.lst (L'.map fun r=>V.ref r.1)):=by show (if _ then _ else _)=_;rw [if_pos rfl]
  have Eo:∀ r∈L,N r.1=some (.tup [r.2.2.1,r.2.2.2.1]):=fun r O=>by
   show (if _ then _ else _)=_
   rw [if_neg (hp r O),wW Em O];rfl
  have E8:∀ b o,N b=some o->b=h1.objs.size/\o = .lst (L'.map fun r=>V.ref r.1) ∨ ∃ r∈L,b=r.1/\o = .tup [r.2.2.1,r.2.2.2.1]:=fun b o e=>by
   by_cases hb:b=h1.objs.size
   ·subst hb;rw [Ef] at e;cases e;exact .inl ⟨rfl,rfl⟩
   ·right
    have e:((L.find? fun x=>decide (x.1=b)).map fun r=>HO.tup [r.2.2.1,r.2.2.2.1])=some o:=by
     have e':(if b=h1.objs.size then some (HO.lst (L'.map fun r=>V.ref r.1)) else (L.find? fun x=>decide (x.1=b)).map fun r=>HO.tup [r.2.2.1,r.2.2.2.1])=some o:=e
     rw [if_neg hb] at e';exact e'
    cases hf:L.find? fun x=>decide (x.1=b) with
    | none=>rw [hf] at e;cases e
    | some r =>
      rw [hf] at e;cases e;have Ep:=Nc hf;exact ⟨r,Ka hf,(by simpa using Ep:r.1=b).symm,rfl⟩
  have oldH:∀ b o,H1 b=some o->lay H1 N b=some o:=fun b o e=>by
   rw [gN]
   ·exact e
   ·cases hq:N b with
    | none=>rfl
    | some o' =>
      obtain ⟨ob,eo⟩:=(I1.hok b o e).there
      rcases E8 b o' hq with ⟨rfl,_⟩ | ⟨r,O,rfl,_⟩
      ·rw [B] at eo;cases eo
      ·rw [(l4 r O).2.2.2.2.2] at eo;cases eo
  have st:Stab H1 (lay H1 N):=⟨fun b xs e=>oldH b _ e,fun b o u e=>oldH b _ e⟩;have E9:L'.length=kvs.length:=by rw [p1.length_eq, <- l2];simp
  have Er:=bo Eb;have I2:=I1.laidN (t':=tk) (h':=h2) (N:=N) Ee (fun b o e=>by
   rcases E8 b o e with ⟨rfl,_⟩ | ⟨r,O,rfl,_⟩
   ·exact B
   ·exact (l4 r O).2.2.2.2.2) (fun b o e=>by
   rcases E8 b o e with ⟨rfl,rfl⟩ | ⟨r,O,rfl,rfl⟩
   ·refine ⟨by rw [r3,E9,Er];simpa using hz,out,n', ?_,g2⟩
    rw [<- p2];have:∀ l:List Rw,Vals (l.map fun r=>V.ref r.1) (l.map fun r=>GJ r.1):=by
     intro l
     induction l with
     | nil=>exact .nil
     | cons r l ih=>exact .cons rfl ih
    exact this L'
   ·obtain ⟨q1,q2,q3,q4,q5,q6⟩:=l4 r O;exact ⟨by show 2<=Gg;decide,[r.2.2.2.2.key,r.2.2.2.2.val], .cons q2 (.cons q4 .nil),_,old _ _ q5,rfl,0,rfl⟩)
  refine ⟨.ref h1.objs.size,_,I2,rfl, ?_⟩;have Eg:Z h1.objs.size=none:=Y.out (I1.fresh' B);have Eh:RDs X.K (lay H1 N) (L'.map fun r=>kvD r.2.1) (L'.map fun r=>V.ref r.1):=by
   have:∀ l:List Rw,(∀ r∈l,r∈L)->RDs X.K (lay H1 N) (l.map fun r=>kvD r.2.1) (l.map fun r=>V.ref r.1):=by
    intro l
    induction l with
    | nil=>intro _;exact RDs.nil
    | cons r l ih =>
      intro hl;obtain ⟨q1,q2,q3,q4,q5,q6⟩:=l4 r (hl r (by simp))
      refine RDs.cons (Qf ⟨r.1,_,rfl,ka (Eo r (hl r (by simp))),RDs.cons (q1.mono st) (RDs.cons (q3.mono st) RDs.nil)⟩) (ih fun r' Es=>hl r' (by simp [Es]))
   exact this L' E4
  refine q h1.objs.size (L'.map fun r=>kvD r.2.1) Eg ?_ ?_ (.ref h1.objs.size) (lay H1 N) (x1.trans ⟨fun b o _ e=>oldH b o e,fun b o n e => ?_⟩) (fun a' o' e' => ?_) (Q6.mpr rfl)
  ·have:=p1.map (fun r:Rw=>kvD r.2.1);rw [show L.map (fun r:Rw=>kvD r.2.1)=(L.map fun r=>r.2.1).map kvD by simp,l2] at this
   exact this
  ·unfold cu;rw [GQ];rw [<- p2,GQ] at Ed;refine Ed.imp_of_mem fun {a b} ha hb E5 => ?_;have rd:∀ r∈L',Ic h2 (GJ r.1)=pd (kvD r.2.1):=fun r O=>by
    obtain ⟨q1,q2,q3,q4,q5,q6⟩:=l4 r (E4 r O);have hm:r.2.1∈kvs:=by rw [<- l2];exact GF (E4 r O)
    obtain ⟨as,ra⟩:=Ec h2 r Ee hm q1 q2 q3 q4 (old _ _ q5);exact IZ (hS.lay _ (GF (GF hm))).1 ra
   rw [rd a ha,rd b hb] at E5;exact E5
  ·have hb:b≠h1.objs.size:=fun z=>by
    rw [z,I1.fresh' B] at e;cases e
   exact aE hb
  ·by_cases hz:a'=h1.objs.size
   ·subst hz;rw [ab] at e';cases e';exact ⟨_,ka Ef,Eh⟩
   ·rw [aE hz] at e';exact (Y a' o' e').mono st fun ho e=>oldH a' ho e
end
section
noncomputable def jw (to tk tx:TEd):TEd:=fun ρ M Q=>to ρ M fun x M1 => ∃ a t kvs,x = .ref a/\M1 a=some (.dct t kvs)/\tk ρ M1 fun k M2=>tx ρ M2 fun z M3 => ∃ t' kvs',M3 a=some (.dct t' kvs')/\dN t' k=true/\Q ((dget kvs' k).getD z) M3
theorem uo {to tk tx:TEd} (h1:ad to) (h2:ad tk) (j:ad tx):ad (jw to tk tx):=fun ρ M Q Q' i q=>h1 _ _ _ _ (fun x L ⟨a,t,kvs,e,e1,B⟩=>⟨a,t,kvs,e,e1,h2 _ _ _ _ (fun k M2 F=>j _ _ _ _ (fun z O ⟨t',kvs',G,ok,J⟩=>⟨t',kvs',G,ok,i _ _ J⟩) F) B⟩) q
section
variable {X:Cx}
theorem BG {K:Frag} {M:Mem} {H:Hp} (rm:RM K M H) {a:Addr} {t:Bool} {kvs:List (D×D)} (e:M a=some (.dct t kvs)):IsD H a:=by
 have ro:=rm a _ e
 cases t with
 | false=>obtain ⟨ps,j,_⟩:=ro;exact .inl ⟨_,Rd.of j⟩
 | true=>obtain ⟨ps,j,_⟩:=ro;exact .inr ⟨_,Rd.of j⟩
theorem zL {o e f:Expr} {to tk tx:TEd} {apos cpos:Pos} (L:X.A.units+1 < Ij) (mo:ad to) (mk:ad tk) (mx:ad tx) (ho:PE X o (lE X.K to)) (he:PE X e (lE X.K tk)) (hf:PE X f (lE X.K tx)) (m:M2 X o "get" apos e f cpos) :
 PE X (.Call (.Attribute o "get" apos) [e,f] [] cpos) (lE X.K (jw to tk tx)):=by
 refine PE.imp (vX L ho he hf m) fun σ H Q h => ?_;obtain ⟨ρ,M,rs,rm,q⟩:=h;refine ⟨ρ,M,rs,rm,mo _ _ _ _ (fun x O ⟨a,t,kvs,e,e1,U⟩ v H1 x1 j rd1 => ?_) q⟩;subst e
 cases Q6.mp rd1
 have B:=rs.mono (x1.stab rm);refine ⟨a,rfl,BG j e1, ρ,O,B,j,mk _ _ _ _ (fun k M2 Y v2 H2 x2 F G => ?_) U⟩;have J:=B.mono (x2.stab j);refine ⟨ρ,M2,J,F,mx _ _ _ _ (fun z M3 ⟨t',kvs',Z,ok,q3⟩ v3 H3 x3 rm3 rd3 => ?_) Y⟩;obtain ⟨w,g,g1,g2⟩:=jW rm3 Z ok (G.mono (x3.stab F));refine ⟨w,g, ?_⟩;refine q3 _ H3 (x1.trans (x2.trans x3)) rm3 ?_
 cases e4:dget kvs' k with
 | none=>rw [g2 e4];exact rd3
 | some d =>
   obtain ⟨w',e5,r5⟩:=g1 d e4;rw [e5];exact r5
end
end
end Mi
end L2
namespace L2
open PySem PySem.Spec PyProof.Rows
namespace Mi
end Mi
end L2
namespace L2
open PySem PySem.Spec PyProof.Rows
namespace Mi
end Mi
end L2
namespace L2
open PySem PySem.Spec PyProof.Rows
namespace Mi
end Mi
end L2
namespace L2
open PySem PySem.Spec PyProof.Rows
end L2
namespace L2
namespace Mi
open PySem PySem.Spec PyProof.Rows
end Mi
end L2
namespace L2
namespace Dk
open PySem PySem.Spec PyProof.Rows
end Dk
end L2
namespace L2
namespace Mi
open PySem PySem.Spec PyProof.Rows L2.Srt
end Mi
end L2
namespace L2
open PySem PySem.Spec PyProof.Rows
namespace Mi
end Mi
end L2
namespace L2
namespace Mi
open PySem PySem.Spec PyProof.Rows
end Mi
end L2
namespace L2
open PySem PySem.Spec PyProof.Rows
section
section
variable {X:Cx} {pins:List (Addr×Obj)} {σ:St} {H:Hp} {s:h7}
theorem Inv.freeze (I:Inv X pins σ H s) {a:Addr} {ps:List (List Key×V)} (e:H a=some (.dT ps)):∃ o,Inv X pins σ (upd H a (.frz o (.dT ps))) s:=by
 obtain ⟨B,j,xs,pr,o,es,ep,h1,h2,F,G,J⟩:=id (I.hok a _ e);have mu:Mut (H a):=by rw [e];exact MV
 have u:Un X.fs [] H (upd H a (.frz o (.dT ps))) s.heap s.heap:=Un.write mu (.inl rfl) (fun b u _ q=>q) ⟨_,h1⟩;have ok:HOk X.prog X.w (upd H a (.frz o (.dT ps))) s.heap:=HOk.write I.hok mu (.inl rfl) (fun b u _ q=>q) ⟨_,h1⟩
  ⟨h1,(I.hok a _ e).stay (fun b u _ q=>q) (fun b q=>by rw [aj (fun z=>by subst z;rw [e] at q;cases q)];exact q) (fun b xs q=>by rw [aj (fun z=>by subst z;rw [e] at q;cases q)];exact q)⟩
 exact ⟨o,I.un (t':=s.toks) u ok⟩
end
namespace Mi
section
variable {X:Cx}
noncomputable def rJ (i:Nat) (t:TSd):TSd:=fun A ρ M => ∃ a kvs, ρ[i]? = some (some (.ref a))/\((M a=some (.dct true kvs)/\t A ρ (af M a (.fdc kvs)))∨(M a=some (.fdc kvs)/\t A ρ M))
theorem wY {i:Nat} {t:TSd} (h:aB t):aB (rJ i t):=fun a b ρ M l ⟨p,kvs,e,q⟩=>⟨p,kvs,e,q.imp (fun q=>⟨q.1,h _ _ _ _ l q.2⟩) fun q=>⟨q.1,h _ _ _ _ l q.2⟩⟩
theorem BH {st:Stmt} {i:Nat} {t:TSd} (h:PS X st (lS X.K t)):PS X st (lS X.K (rJ i t)):=by
 intro pins s σ H D I ⟨ρ,M,A,rs,rm,lk,a,kvs,e,q⟩
 rcases q with ⟨m,q⟩ | ⟨m,q⟩
 ·obtain ⟨ps,j,pr⟩:=rm a _ m;obtain ⟨o,I'⟩:=I.freeze j;have sb:Stab H (upd H a (.frz o (.dT ps))):=rm.stabPut m;exact h pins s σ _ D I' ⟨ρ,af M a (.fdc kvs),A,rs.mono sb,rm.put m ⟨o,ps,aG,Qa pr fun _ _ z=>⟨z.1,z.2.mono sb⟩⟩,lk.ext (Ext.put m),q⟩
 ·exact h pins s σ H D I ⟨ρ,M,A,rs,rm,lk,q⟩
end
end Mi
end
end L2
namespace L2
open PySem PySem.Spec PyProof.Rows
namespace Mi
end Mi
end L2
namespace L2
namespace Mi
open PySem PySem.Spec PyProof.Rows
end Mi
end L2
namespace L2
open PySem PySem.Spec PyProof.Rows
namespace Mi
end Mi
end L2
namespace L2
namespace Mi
open PySem PySem.Spec PyProof.Rows
section
section
variable {X:Cx}
noncomputable def wZ:R2d
 | .int i,y,M,Q => ∃ ns:List Int,aq M y=some (ns.map .int)/\Q (.bl (decide (i∈ns))) M
 | _,_,_,_=>False
theorem x8:av wZ:=by
 intro x y M Q Q' h q
 cases x <;> first
  | exact q.elim
  | (obtain ⟨ns,e,q⟩:=q;exact ⟨ns,e,h _ _ q⟩)
theorem og {i:Int}:∀ ns:List Int,inV (.int i) (ns.map V.int)=decide (i∈ns)
 | [] => by simp [inV]
 | n::ns=>by
   have ih:=og (i:=i) ns;unfold inV at ih ⊢;rw [Gr,IF,ih];show (n==i || decide (i∈ns))=_
   by_cases h:n=i
   ·subst h;simp
   ·rw [show (n==i)=false by simpa using h]
    simp only [Lg,Gj];exact decide_eq_decide.mpr ⟨.inr,fun z=>z.resolve_left fun w=>h w.symm⟩
theorem xa:OpR X (I7 .In) (l2 X.K wZ):=by
 refine OpR.of t6 fun v u H Q h => ?_;obtain ⟨x,y,M,rm,rx,ry,q⟩:=h
 cases x <;> first
  | exact q.elim
  | skip
 case int i =>
  obtain ⟨ns,e,q⟩:=q;obtain ⟨p,vs,rfl,hs,r⟩:=j6 rm ry e;have rv:=r.ints_eq;subst rv
  cases Q5.mp rx
  refine ⟨p,_,rfl,hs,rfl, ?_, ?_⟩
  ·simp [cU]
  ·rw [if_neg Gb,og];exact q _ H Ext.refl rm (Q7.mpr rfl)
end
end
section
section
variable {X:Cx}
def DF (M:Mem) (a:Addr) (t:Bool) (kvs:List (D×D)):Prop:=M a=some (.dct t kvs)∨(t=true/\M a=some (.fdc kvs))
noncomputable def xb (neg:Bool):R2d:=fun k x M Q => ∃ a t kvs,x = .ref a/\DF M a t kvs/\dN t k=true/\Q (.bl (if neg then !(dget kvs k).isSome else (dget kvs k).isSome)) M
theorem xc {neg:Bool}:av (xb neg):=fun _ _ _ _ _ h ⟨a,t,kvs,e1,e2,j,q⟩=>⟨a,t,kvs,e1,e2,j,h _ _ q⟩
theorem BI {K:Frag} {M:Mem} {H:Hp} {a:Addr} {t:Bool} {kvs:List (D×D)} {k:D} {v:V} (rm:RM K M H) (e:DF M a t kvs) (ok:dN t k=true) (rk:RD K H k v):∃ o,DGet H a v o/\o.isSome=(dget kvs k).isSome:=by
 have:∃ o,DGet H a v o/\(∀ d,dget kvs k=some d -> ∃ w,o=some w/\RD K H d w)/\(dget kvs k=none->o=none):=by
  rcases e with e | ⟨rfl,e⟩
  ·exact jW rm e ok rk
  ·obtain ⟨ob,ps,j,pr⟩:=rm a _ e;exact mZ (.inr ⟨ob,j⟩) pr ok rk
 obtain ⟨o,g,g1,g2⟩:=this;refine ⟨o,g, ?_⟩
 cases h:dget kvs k with
 | none=>rw [g2 h];rfl
 | some d=>obtain ⟨w,rfl,_⟩:=g1 d h;rfl
theorem uq (j:X.A.units+1 < Ij):OpR X (I7 .NotIn) (l2 X.K (xb true)):=by
 intro pins s σ H y x u v Q I ry rx h;obtain ⟨dk,dx,M,rm,rk,rd,a,t,kvs,rfl,e,ok,q⟩:=h
 cases Q6.mp rd
 cases rx
 obtain ⟨o,g,ho⟩:=BI rm e ok rk;exact yU j I g ry fun s' I'=>⟨.bl (!o.isSome),H,I',rfl,by rw [ho];exact q _ H Ext.refl rm (Q7.mpr rfl)⟩
end
end
section
section
variable {X:Cx}
noncomputable def xf:D->List D->Mem->QD->Prop:=fun x ds M Q => ∃ (a:Addr) (xs:List D) (y:D),x = .ref a/\ds=[]/\M a=some (.lst xs)/\xs[xs.length - 1]? = some y/\Q y (af M a (.lst xs.dropLast))
theorem oh:dO xf:=fun _ _ _ _ _ h ⟨a,xs,y,e1,e2,j,z,q⟩=>⟨a,xs,y,e1,e2,j,z,h _ _ q⟩
theorem RDs.dropLast {K:Frag} {H:Hp} {ds:List D} {vs:List V} (r:RDs K H ds vs):RDs K H ds.dropLast vs.dropLast:=by
 rw [Nj,Nj,r.length];exact r.take _
theorem D7 {K:Frag} (v:V) (vs:List V) (H:Hp) (Q:VK) (h:lMt K xf v vs H Q):B4 v vs H Q:=by
 obtain ⟨x,ds,M,rm,rx,rs,a,xs,y,rfl,rfl,e,j,q⟩:=h
 cases Q6.mp rx
 cases RDs.nil_iff.mp rs
 obtain ⟨us,z,ru⟩:=rm _ _ e;obtain ⟨w,hw,rw'⟩:=ru.get j;exact ⟨a,us,w,rfl,rfl,z,by rw [ru.length];exact hw,gB rm e ru.dropLast rw' q⟩
end
end
end Mi
end L2
namespace L2
open PySem PySem.Spec PyProof.Rows
namespace Mi
end Mi
end L2
namespace L2
open PySem PySem.Spec PyProof.Rows
namespace Mi
open L2.Srt
end Mi
end L2
namespace L2
namespace Srt
open PySem PySem.Spec PyProof.Rows
open AutoSeq1 (wpAny_loadPart')
open MeetsSeq MeetsSeq2 MeetsSeq3
theorem ke:∀ {vs:List gV} {ns:List Int},JZ vs ns -> ∀ {i:Nat} (h:i < vs.length), ∃ x t,vs[i] = .int x t/\ns.drop i=x::ns.drop (i+1)
 | _,_, .nil,i,h=>by simp at h
 | _,_, .cons n t r,0,h=>⟨n,t,rfl,rfl⟩
 | _,_, .cons n t r,i+1,h=>by
   obtain ⟨x,u,e1,e2⟩:=ke r (i:=i) (by simpa using h)
   exact ⟨x,u,by simpa using e1,by simpa using e2⟩
theorem xg (l b:Addr) (items j:Array gV) (n n2:Nat) (dd U:Option Addr) (sl Y:Array (Option gV)) (ns ms:List Int) (h1:JZ items.toList ns) (h2:JZ j.toList ms) (k:Nat) :
 ∀ i:Nat,items.size - i=k->i<=items.size->i<=j.size->Meets (Im.«list.__eq__.loop» ⟨[.ref l, .ref b,II i,II 0],[]⟩)
  (fun A R s=>s.heap.get? l=some { cls := .type "list",dict:=dd,data := .seq items n,slots:=sl }/\s.heap.get? b=some { cls := .type "list",dict:=U,data := .seq j n2,slots:=Y } /\
    A.in1.units+1 < Ij/\R (.ok (.ret (.bool (HT.lexLt (ns.drop i) (ms.drop i))))) s):=by
 have l1:=h1.length;have l2:=h2.length;simp only [GD] at l1 l2
 induction k with
 | zero =>
   intro i hk hi Z prog w A R s h;obtain ⟨hp,g,d,tk,os⟩:=s;obtain ⟨F,G,hu,h⟩:=h
   wp_walk using Hd F,Hd G
   have E3:items[((i:Nat):Int).toNat]? = none:=by simp;omega
   rw [E3]
   wp_walk using Hd F,Hd G
   have e1:ns.drop i=[]:=by simp;omega
   have e2:HT.lexLt (ns.drop i) (ms.drop i)=decide (items.size < j.size):=by
    rw [e1]
    cases hm:ms.drop i with
    | nil=>have h9:ms.length<=i:=by simpa using hm
           exact (decide_eq_false (by omega)).symm
    | cons x r =>
      have h9:i < ms.length:=by
       apply Ma;intro hc;rw [Io (by omega)] at hm;cases hm
      exact (decide_eq_true (by omega)).symm
   rw [e2] at h;exact h
 | succ k ih =>
   intro i hk hi Z prog w A R s h;obtain ⟨hp,g,d,tk,os⟩:=s;obtain ⟨F,G,hu,h⟩:=h
   wp_walk using Hd F,Hd G
   have L:i < items.size:=by omega
   have J:items[((i:Nat):Int).toNat]? = some items[i]:=by simp [L]
   have hc:((i:Int)+1)=((i+1:Nat):Int):=by push_cast;rfl
   obtain ⟨x,t,ex,O⟩:=ke h1 (i:=i) (by simpa using L)
   have ex:items[i] = .int x t:=by simpa using ex
   by_cases B:i < j.size
   ·have q:j[((i:Nat):Int).toNat]? = some j[i]:=by simp [B]
    obtain ⟨y,u,ey,E4⟩:=ke h2 (i:=i) (by simpa using B)
    have ey:j[i] = .int y u:=by simpa using ey
    rw [O,E4,HT.lexLt_cons] at h;rw [J,q,ex,ey];dsimp only;refine e6 (Mz (.int x) (.int y) _ _ _ _ _ _ (.int _ _) (.int _ _) rfl rfl (by show A.in1.units+min 0 0 < Ij;omega) prog w _ _ ?_)
    by_cases z:x=y
    ·rw [if_pos z] at h;rw [show GR (.int x) (.int y)=true by simp [GR,z]]
     wp_walk
     rw [hc];exact ⟨Mo plain_eq_loop _,JK entry_eq_loop (by
      rw [NF plain_eq_loop _];exact ih (i+1) (by omega) (by omega) (by omega) prog w A R _ ⟨F,G,hu,h⟩)⟩
    ·rw [if_neg z] at h;rw [show GR (.int x) (.int y)=false by simp [GR,z]]
     wp_walk using Hd F,Hd G
     rw [J,q,ex,ey];refine e6 (nW ?_);exact q7 h
   ·have q:j[((i:Nat):Int).toNat]? = none:=by simp;omega
    rw [J,q]
    wp_walk using Hd F,Hd G
    have e2:ms.drop i=[]:=by simp;omega
    rw [O,e2] at h;have e3:HT.lexLt (x::ns.drop (i+1)) []=decide (items.size < j.size):=(decide_eq_false (by omega)).symm
    rw [e3] at h;exact h
theorem xh (l b:Addr) (items j:Array gV) (n B:Nat) (dd q:Option Addr) (sl z:Array (Option gV)) (ns ms:List Int) (h1:JZ items.toList ns) (h2:JZ j.toList ms) :
 Meets (Im.«list.__lt__» ⟨[.ref l, .ref b],[]⟩)
  (fun A R s=>s.heap.get? l=some { cls := .type "list",dict:=dd,data := .seq items n,slots:=sl }/\s.heap.get? b=some { cls := .type "list",dict:=q,data := .seq j B,slots:=z } /\
    A.in1.units+1 < Ij/\R (.ok (.ret (.bool (HT.lexLt ns ms)))) s):=by
 intro prog w A R s h;obtain ⟨L,g,d,tk,os⟩:=s;obtain ⟨F,G,J,h⟩:=h;have O:=AutoSeq1.sub_list_list
 wp_walk using Hd F,Hd G
 exact ⟨Mo plain_eq_loop _,JK entry_eq_loop (by
  rw [NF plain_eq_loop _];exact xg l b items j n B dd q sl z ns ms h1 h2 _ 0 rfl (Ih _) (Ih _) prog w A R _ ⟨F,G,J,by simpa using h⟩)⟩
section
variable {prog:GI} {w:Hf} {A:Hg} {E:gV->h7->Prop} {s:h7}
theorem rK {l b:Addr} {items j:Array gV} {n G:Nat} {dd z:Option Addr} {sl B:Array (Option gV)} {ns ms:List Int} (h1:JZ items.toList ns) (h2:JZ j.toList ms)
 (J:s.heap.get? l=some { cls := .type "list",dict:=dd,data := .seq items n,slots:=sl }) (L:s.heap.get? b=some { cls := .type "list",dict:=z,data := .seq j G,slots:=B }) (O:A.units+3 < Ij) {Q:Bool->h7->Prop} (q:Q (HT.lexLt ns ms) s):Gm (model prog w) A (oneLt' true (.ref l) (.ref b)) Q E s:=by
 have ty:s.TypeIs (.ref l) "list" := ⟨_,J,rfl⟩;rw [oneLt'_eq];simp only [if_true];refine e6 (wpAny_cRoomFor (by omega) ?_)
 refine e6 (wpAny_callSpecialIfBound?_slot ty F.slot_list_lt (JW F.slot_list_lt ty F.entry_list_lt (F.args_list_lt_2 _ _) (xh l b items j n G dd z sl B ns ms h1 h2) ⟨J,L, ?_, ?_⟩))
 ·show A.units+1+1 < Ij;omega
 ·exact trd q
end
end Srt
end L2
namespace L2
namespace Srt
open PySem PySem.Spec PyProof.Rows
def LI (h:Heap) (v:gV) (ns:List Int):Prop := ∃ a items n dd sl,v = .ref a/\h.get? a=some { cls := .type "list",dict:=dd,data := .seq items n,slots:=sl }/\JZ items.toList ns
theorem lr:∀ {a b:List Int},HT.lexLt a b=true->HT.lexLt b a=false
 | [],[],h=>by simp [HT.lexLt] at h
 | [],_::_,_=>rfl
 | _::_,[],h=>by simp [HT.lexLt] at h
 | x::a,y::b,h=>by
   rw [HT.lexLt_cons] at h ⊢
   by_cases e:x=y
   ·rw [if_pos e] at h;rw [if_pos e.symm];exact lr h
   ·rw [if_neg e] at h;rw [if_neg (fun z=>e z.symm)];exact decide_eq_false (by have:=of_decide_eq_true h;lia)
theorem oi:∀ {a b c:List Int},HT.lexLt a c=true->HT.lexLt a b=true∨HT.lexLt b c=true
 | [],[],_,h => .inr h
 | [],_::_,_,_ => .inl rfl
 | _::_,_,[],h=>by simp [HT.lexLt] at h
 | _::_,[],_::_,_ => .inr rfl
 | x::a,y::b,z::c,h=>by
   rw [HT.lexLt_cons] at h;rw [HT.lexLt_cons,HT.lexLt_cons]
   by_cases e1:x=y
   ·subst e1;rw [if_pos rfl]
    by_cases e2:x=z
    ·rw [if_pos e2] at h ⊢;exact oi h
    ·rw [if_neg e2] at h ⊢;exact .inr h
   ·rw [if_neg e1]
    by_cases e2:y=z
    ·subst e2;rw [if_neg e1] at h;exact .inl h
    ·rw [if_neg e2]
     by_cases e3:x=z
     ·have:x < y∨y < z:=by lia
      rcases this with g | g
      ·exact .inl (decide_eq_true g)
      ·exact .inr (decide_eq_true g)
     ·rw [if_neg e3] at h;have h:=of_decide_eq_true h;have:x < y∨y < z:=by lia
      rcases this with g | g
      ·exact .inl (decide_eq_true g)
      ·exact .inr (decide_eq_true g)
section
variable {prog:GI} {w:Hf} {A:Hg} {E:gV->h7->Prop} {s:h7}
theorem BJ {rd:gV->List Int} {v:gV} {vs:List gV} (B:∀ u∈v::vs,LI s.heap u (rd u)) (L:A.units+4 < Ij) :
 ∃ kd,(∀ (E:gV->h7->Prop) (Q:JX->h7->Prop),Q kd s->Gm (Gn prog w) A (keyKind' (v::vs).toArray) Q E s)/\Cm prog w A s kd (fun x=>x.1∈v::vs) (fun x y=>HT.lexLt (rd x.1) (rd y.1)):=by
 refine ⟨oneType',fun E Q q => ?_,⟨fun x y=>lr,fun x y z=>oi,fun x y E Q hx J q => ?_⟩⟩
 ·rw [NB];refine e6 (cG (g:=fun _=>(none:Option gV)) (fun u j R r => ?_) ?_)
  ·obtain ⟨c,items,n,dd,sl,rfl,e1,e2⟩:=B u (by simpa using j)
   unfold NY;refine e6 (jZ e1 rfl ?_);exact q7 r
  ·have e1:((J9 (fun _=>(none:Option gV)) (v::vs).toArray).all fun x=>x.isSome)=false:=by
    simp
   rw [e1];have e2:((J9 (fun _=>(none:Option gV)) (v::vs).toArray)[0]?.bind id).isSome=false:=by simp
   simp only [e2,HH,if_false];refine e6 (dS (T := "list") (by simp) (fun u j R r => ?_) ?_)
   ·obtain ⟨c,items,n,dd,sl,rfl,e1,e2⟩:=B u (by simpa using j)
    exact jZ e1 rfl r
   ·exact q7 q
 ·obtain ⟨c,items,n,dd,sl,ec,e1,e2⟩:=B _ hx;obtain ⟨c',items',n',dd',sl',ec',F,G⟩:=B _ J;rw [keyLt'_oneType,ec,ec'];exact rK e2 G e1 F (by lia) q
theorem xi {cap:Nat} (S:cr cap) {rd:gV->List Int} {a:Addr} {vs:List gV} {n:Nat} (ha:s.heap.get? a=some (Ly "list" vs.toArray n)) (Z:∀ v∈vs,v ≠ .ref a/\LI s.heap v (rd v)) (hl:vs.length<=Gg) (E7:vs.length<=cap) (hu:A.units+4 < Ij) {Q:PySem.Fin->h7->Prop}
 (q:∀ (h':Heap) (out:List gV) (n':Nat),(∀ b o,b≠a->s.heap.get? b=some o->h'.get? b=some o)->h'.get? a=some (Ly "list" out.toArray n')->out.Perm vs->out.Pairwise (fun x y=>HT.lexLt (rd y) (rd x)=false)->Q (.done (.ret .none)) { s with heap:=h' }) :
 Gm (Gn prog w) A (Im.«list.sort» ⟨[.ref a],[]⟩) Q E s:=by
 rw [list_sort_plain];refine e6 (MZ ha rfl ?_);refine e6 (J4 ha rfl ?_ (by simpa using hl) (by simp))
 have g1:=Iw ha (fun _ => #[]);generalize E8:s.heap.update a (Ja fun _ => #[])=h1 at g1;generalize (if ((#[]:Array gV).size==vs.toArray.size)=true then n else n+1)=n1 at g1
 refine e6 (Lo g1 rfl ?_);refine e6 (Jy ?_ (by simpa using hl))
 refine e6 (Kh ?_ (by simp))
 refine HB ?_;dsimp only;generalize L:({ heap:=(h1.push { cls:=Hb "tuple",data:=Jk vs.toArray.toList.toArray }).push { cls:=Hb "list",data:=Jk [].toArray },gens:=s.gens,drawn:=s.drawn,toks:=s.toks,os:=s.os }:h7)=s3;have g3:s3.heap.get? a=some (Ly "list" #[] n1):=by
  rw [<- L];exact h6 _ (h6 _ g1)
 have keep:∀ b o,b≠a->s.heap.get? b=some o->s3.heap.get? b=some o:=fun b o O G=>by
  rw [<- L, <- E8];exact h6 _ (h6 _ (by rw [Ht _ _ _ _ O];exact G))
 have E9:∀ v∈vs,LI s3.heap v (rd v):=fun v hv=>by
  obtain ⟨Ea,c,items,n',dd,sl,rfl,e1,e2⟩:=Z v hv;exact ⟨c,items,n',dd,sl,rfl,keep c _ (fun z=>Ea (by rw [z])) e1,e2⟩
 have q:∀ (h':Heap) (out:List gV) (n':Nat),(∀ b o,b≠a->s.heap.get? b=some o->h'.get? b=some o)->h'.get? a=some (Ly "list" out.toArray n')->out.Perm vs->out.Pairwise (fun x y=>HT.lexLt (rd y) (rd x)=false)->Q (.done (.ret .none)) { s3 with heap:=h' }:=by
  rw [<- L];exact q
 have Eb:∀ A':Hg,A'.units=A.units->True:=fun _ _=>trivial;clear L
 let Good:Hl->Prop:=fun st'=>IK st'=none/\(GS st').toList.Perm (vs.zip vs)/\(GS st').toList.Pairwise (fun x y=>HT.lexLt (rd y.1) (rd x.1)=false)
 by_cases F:vs.toArray.size < 2
 ·rw [if_pos F,if_pos F];refine e6 (q7 ?_);have B:vs.length < 2:=by simpa using F
  have run:Gm (Gn prog w) A ((pure ():StateT Hl Sem Unit).run (IX general' (vs.toArray.zip vs.toArray) #[] 7 none)) (fun r s'=>s'=s3/\Good r.2) E s3:=by
   refine q7 ⟨rfl,rfl, ?_, ?_⟩
   ·show (vs.toArray.zip vs.toArray).toList.Perm _;simp
   ·show List.Pairwise _ (vs.toArray.zip vs.toArray).toList
    match vs,B with
    | [],_=>simp
    | [x],_=>simp
  refine e6 (HF (Q:=fun r s'=>s'=s3/\Good r.2) run (fun r s' Z => ?_) (fun _ _ z=>z));obtain ⟨rfl,J,j,U⟩:=Z;obtain ⟨u,st'⟩:=r;refine e6 (Lo g3 rfl ?_);refine e6 (J4 g3 rfl ?_ (by simp) (by simp only [LX];have:=j.length_eq;simp at this;rw [this];lia))
  dsimp only at J;rw [J];simp only [bne_self_eq_false,HH,if_false];refine q7 ?_;have gq:=Iw g3 (fun _=>J9 (fun x=>x.snd) (GS st'));have eo:J9 (fun x=>x.snd) (GS st')=((GS st').toList.map fun x=>x.snd).toArray:=by apply JA.mp;simp
  refine q _ ((GS st').toList.map fun x=>x.snd) _ (fun b o O G => ?_) (by rw [gq,eo]) ?_ ?_
  ·rw [Ht _ _ _ _ O];exact keep b o O G
  ·have h8:=j.map (fun x:Gc=>x.snd);rw [Lc (by simp)] at h8
   exact h8
  ·rw [GQ];refine U.imp_of_mem fun {x y} hx hy hxy => ?_;have mx:=J3 (j.mem_iff.mp hx);have my:=J3 (j.mem_iff.mp hy);rw [mx.1,my.1] at hxy;exact hxy
 ·rw [if_neg F,if_neg F];have B : 2<=vs.length:=by simpa using F
  obtain ⟨v0,Y,E3⟩:∃ v0 Y,vs=v0::Y:=by
   match vs,B with
   | v::t,_=>exact ⟨v,t,rfl⟩
  obtain ⟨kd,E4,E5⟩:=BJ (prog:=prog) (w:=w) (A:=A) (s:=s3) (v:=v0) (vs:=Y) (by rw [<- E3];exact E9) hu
  rw [<- E3] at E4 E5;refine e6 (E4 E _ ?_);have run:Gm (Gn prog w) A (sortRuns'.run (IX kd (vs.toArray.zip vs.toArray) #[] 7 none)) (fun r s'=>s'=s3/\Good r.2) E s3:=by
   have ez:(GS (IX kd (vs.toArray.zip vs.toArray) #[] 7 none)).toList=vs.zip vs:=by
    show (vs.toArray.zip vs.toArray).toList=_;simp
   have h9:wpS (Gn prog w) A E s3 OV (fun _ st'=>Good st') (IX kd (vs.toArray.zip vs.toArray) #[] 7 none):=by
    have E6:(GS (IX kd (vs.toArray.zip vs.toArray) #[] 7 none)).size=vs.length:=by rw [<- GD,ez];simp
    refine S _ _ _ _ _ _ _ _ E5 (IX kd (vs.toArray.zip vs.toArray) #[] 7 none) _ rfl rfl rfl (fun x hx => ?_) (by rw [E6];exact B) (by rw [E6];exact E7) fun st' p1 p2 p3=>⟨p3,by rw [ez] at p1;exact p1,p2⟩
    rw [ez] at hx;exact (J3 hx).2
   exact h9
  refine e6 (HF (Q:=fun r s'=>s'=s3/\Good r.2) run (fun r s' Z => ?_) (fun _ _ z=>z));obtain ⟨rfl,J,j,U⟩:=Z;obtain ⟨u,st'⟩:=r;refine e6 (Lo g3 rfl ?_);refine e6 (J4 g3 rfl ?_ (by simp) (by simp only [LX];have:=j.length_eq;simp at this;rw [this];lia))
  dsimp only at J;rw [J];simp only [bne_self_eq_false,HH,if_false];refine q7 ?_;have gq:=Iw g3 (fun _=>J9 (fun x=>x.snd) (GS st'));have eo:J9 (fun x=>x.snd) (GS st')=((GS st').toList.map fun x=>x.snd).toArray:=by apply JA.mp;simp
  refine q _ ((GS st').toList.map fun x=>x.snd) _ (fun b o O G => ?_) (by rw [gq,eo]) ?_ ?_
  ·rw [Ht _ _ _ _ O];exact keep b o O G
  ·have h8:=j.map (fun x:Gc=>x.snd);rw [Lc (by simp)] at h8
   exact h8
  ·rw [GQ];refine U.imp_of_mem fun {x y} hx hy hxy => ?_;have mx:=J3 (j.mem_iff.mp hx);have my:=J3 (j.mem_iff.mp hy);rw [mx.1,my.1] at hxy;exact hxy
theorem rL {cap:Nat} (S:cr cap) {rd:gV->List Int} {u:gV} {C:Heap->List gV->Prop} {Q:gV->h7->Prop} (hu:A.units+8 < Ij)
 (B:∀ (E:gV->h7->Prop) (R:List gV->h7->Prop),(∀ (h':Heap) (vs':List gV) (t':Nat),C h' vs'->(∀ v∈vs',LI h' v (rd v))->vs'.length<=Gg/\vs'.length<=cap->s.toks<=t'->R vs' { s with heap:=h',toks:=t' })->Gm (Gn prog w) A.in1 (collect u) R E s)
 (q:∀ (h1 h2:Heap) (vs out:List gV) (n' t':Nat),C h1 vs->(∀ b o,h1.get? b=some o->h2.get? b=some o)->h2.get? h1.objs.size=some (Ly "list" out.toArray n')->out.Perm vs->out.Pairwise (fun x y=>HT.lexLt (rd y) (rd x)=false)->vs.length<=Gg->s.toks<=t'->Q (.ref h1.objs.size) { s with heap:=h2,toks:=t' }) :
 Gm (Gn prog w) A (call (.builtin "sorted") [u]) Q E s:=by
 refine Pw (ND plain_sorted entry_sorted (Jl (ju u) ?_));unfold Builtin.sorted;refine e6 (Jl (a:=()) (by kernel_rfl) ?_)
 refine e6 (B _ _ fun h1 vs t' Y Z F ht => ?_);obtain ⟨F,G⟩:=F;refine e6 (Kh ?_ F);refine e6 (HB ?_);have J:∀ v∈vs,v ≠ .ref h1.objs.size/\LI (h1.push { cls:=Hb "list",data:=Jk vs.toArray }) v (rd v):=fun v hv=>by
  obtain ⟨c,items,n',dd,sl,rfl,e1,e2⟩:=Z v hv;exact ⟨fun z=>by cases z;exact absurd (Ga e1) (HA _),c,items,n',dd,sl,rfl,h6 _ e1,e2⟩
 have O:(h1.push { cls:=Hb "list",data:=Jk vs.toArray }).get? h1.objs.size=some (Ly "list" vs.toArray 0):=Gh _ rfl;refine H8 slot_list_sort (T := "list") ⟨_,O,rfl⟩ entry_list_sort ?_ (args_list_sort _);refine xi S (rd:=rd) O J F G (by show A.units+1+1+4 < Ij;lia) fun h2 out n' keep g2 j L=>⟨_,rfl,q7 ?_⟩
 have old:∀ b o,h1.get? b=some o->h2.get? b=some o:=fun b o U=>keep b o (GW (Ga U)) (h6 _ U);exact q h1 h2 vs out n' t' Y old g2 j L F ht
end
end Srt
end L2
namespace L2
namespace Mi
open PySem PySem.Spec PyProof.Rows L2.Srt
noncomputable def oj:RAd:=fun ds M Q => ∃ (x:D) (rs:List (Addr×List Int)),ds=[x]/\aq M x=some (rs.map fun r => .ref r.1)/\(∀ r∈rs,M r.1=some (.lst (r.2.map .int))) /\ ∀ (p:Addr) (ys:List (Addr×List Int)),M p=none->ys.Perm rs->ys.Pairwise (fun a b=>HT.lexLt b.2 a.2=false)->Q (.ref p) (af M p (.lst (ys.map fun r => .ref r.1)))
theorem jx:b4 oj:=fun _ _ _ _ h ⟨x,rs,e,l,o,q⟩=>⟨x,rs,e,l,o,fun p ys n j hs=>h _ _ (q p ys n j hs)⟩
noncomputable def rdL (rs:List (Addr×List Int)) (u:gV):List Int:=((rs.find? fun r=>u==GJ r.1).map (·.2)).getD []
theorem oo {rs:List (Addr×List Int)} {M:Mem} (h:∀ r∈rs,M r.1=some (.lst (r.2.map .int))) {r:Addr×List Int} (j:r∈rs):rdL rs (.ref r.1)=r.2:=by
 unfold rdL
 cases hf:rs.find? fun q=>GJ r.1==GJ q.1 with
 | none =>
   have:=Ks.mp hf r j;simp at this
 | some q =>
   have e0:=Nc hf;have e1:r.1=q.1:=by simpa using e0
   have h1:=h r j;have h2:=h q (Ka hf);rw [e1,h2] at h1;have z:q.2.map D.int=r.2.map D.int:=by simpa using h1
   exact (List.map_inj_right fun a b e=>D.int.inj e).mp z
section
variable {X:Cx}
theorem fY {cap:Nat} (S:cr cap) (hu:X.A.units+16 < Ij) {pins:List (Addr×Obj)} {s:h7} {σ:St} {H:Hp} {Q:VK} (I:Inv X pins σ H s) {M:Mem} (rm:RM X.K M H) {rs:List (Addr×List Int)} {vs:List V} {p:Addr} (rvs:RDs X.K H (rs.map fun r => .ref r.1) vs) (O:∀ r∈rs,M r.1=some (.lst (r.2.map .int)))
 (q:∀ (p:Addr) (ys:List (Addr×List Int)),M p=none->ys.Perm rs->ys.Pairwise (fun a b=>HT.lexLt b.2 a.2=false)->KE' X.K M H Q (.ref p) (af M p (.lst (ys.map fun r => .ref r.1)))) {its:List gV} (U:Vals vs its) (hl:vs.length<=Gg) (Y:vs.length<=cap)
 (G:∀ (E:gV->h7->Prop) (R:List gV->h7->Prop),(∀ (h':Heap) (tk:Nat),(∀ b o,s.heap.get? b=some o->h'.get? b=some o)->s.toks<=tk->R its { s with heap:=h',toks:=tk })->Gm (Gn X.prog X.w) X.A.in1 (collect (.ref p)) R E s) :
 Gm (Gn X.prog X.w) X.A (call (.builtin "sorted") [.ref p]) (EP X pins σ Q) X.xe s:=by
 have ei:its=rs.map fun r=>GJ r.1:=by
  have:∀ (rs:List (Addr×List Int)) (vs:List V) (its:List gV),RDs X.K H (rs.map fun r => .ref r.1) vs->Vals vs its->its=rs.map fun r=>GJ r.1:=by
   intro rs
   induction rs with
   | nil=>intro vs its h1 h2;cases RDs.nil_iff.mp h1;cases h2;rfl
   | cons r rs ih =>
     intro vs its h1 h2;obtain ⟨v,vr,rfl,h3,h4⟩:=Q8.mp h1
     cases Q6.mp h3
     cases h2 with
     | cons g1 g2 =>
       rw [Gr, <- ih _ _ h4 g2];congr 1
  exact this rs vs its rvs U
 have li:∀ (h':Heap),(∀ b o,s.heap.get? b=some o->h'.get? b=some o) -> ∀ v∈its,LI h' v (rdL rs v):=fun h' kp v J=>by
  rw [ei] at J;obtain ⟨r,hr,rfl⟩:=Gk.mp J;rw [oo O hr];obtain ⟨us,Z,ru⟩:=rm _ _ (O r hr);obtain ⟨ws,r1,F,_⟩:=I.list (SqL.of Z);rw [ru.ints_eq] at r1;obtain ⟨⟨oc,od,oda,os⟩,n,e1,e2,e3,e4⟩:=F;simp only at e2 e3 e4;subst e2 e3 e4;exact ⟨r.1,ws.toArray,n,_,_,rfl,kp _ _ e1,by simpa using qZ r1⟩
 refine rL S (rd:=rdL rs) (C:=fun h' vs'=>vs'=its /\ ∀ b o,s.heap.get? b=some o->h'.get? b=some o) (by lia) (fun E R hR => ?_) fun h1 h2 vs' out n' tk hC old g2 B L E7 ht => ?_
 ·exact G E R fun h' tk kp E3=>hR h' its tk ⟨rfl,kp⟩ (li h' kp) ⟨by rw [<- U.length];exact hl,by rw [<- U.length];exact Y⟩ E3
 ·obtain ⟨rfl,kp⟩:=hC;rw [ei] at B;obtain ⟨ys,F,p2⟩:=cH (fun r:Addr×List Int=>GJ r.1) B rfl;have E4:∀ b o,s.heap.get? b=some o->h2.get? b=some o:=fun b o e=>old b o (kp b o e);have j:s.heap.get? h1.objs.size=none:=by
   cases hq:s.heap.get? h1.objs.size with
   | none=>rfl
   | some o=>exact absurd (Ga (kp _ _ hq)) (HA _)
  have E5:=I.fresh' j;have hlen:(ys.map fun r=>V.ref r.1).length<=Gg:=by
   have h9:=rvs.length;rw [r3] at h9;rw [r3,F.length_eq];lia
  have E6:Vals (ys.map fun r=>V.ref r.1) out:=by
   rw [<- p2];have:∀ l:List (Addr×List Int),Vals (l.map fun r=>V.ref r.1) (l.map fun r=>GJ r.1):=fun l=>by
    induction l with
    | nil=>exact .nil
    | cons r l ih=>exact .cons rfl ih
   exact this ys
  have rz:RDs X.K H (ys.map fun r=>D.ref r.1) (ys.map fun r=>V.ref r.1):=by
   have:∀ l:List (Addr×List Int),RDs X.K H (l.map fun r=>D.ref r.1) (l.map fun r=>V.ref r.1):=fun l=>by
    induction l with
    | nil=>exact RDs.nil
    | cons r l ih=>exact RDs.cons (Q6.mpr rfl) ih
   exact this ys
  have I2:=I.laidN (t':=tk) (h':=h2) (N:=fun b=>if b=h1.objs.size then some (.lst (ys.map fun r=>V.ref r.1)) else none) E4 (fun b o e=>by
   by_cases z:b=h1.objs.size
   ·rw [z];exact j
   ·rw [if_neg z] at e;cases e) (fun b o e=>by
   by_cases z:b=h1.objs.size
   ·subst z;rw [if_pos rfl] at e;cases e;exact ⟨hlen,out,n',E6,g2⟩
   ·rw [if_neg z] at e;cases e)
  have eH:lay H (fun b=>if b=h1.objs.size then some (.lst (ys.map fun r=>V.ref r.1)) else none)=upd H h1.objs.size (.lst (ys.map fun r=>V.ref r.1)):=by
   funext b
   unfold lay upd;dsimp only
   by_cases z:b=h1.objs.size
   ·rw [if_pos z,if_pos z]
   ·rw [if_neg z,if_neg z]
  rw [eH] at I2;refine ⟨.ref h1.objs.size,_,I2,rfl, ?_⟩;refine cm rm rz (fun p' n=>q p' ys n F ?_) E5;rw [<- p2,GQ] at L;refine L.imp_of_mem fun {a b} Z z hab => ?_;rw [oo O (F.mem_iff.mp Z),oo O (F.mem_iff.mp z)] at hab;exact hab
theorem ot (G:X.A.units+16 < Ij):CallR X (.builtin "sorted") (lR X.K oj):=by
 intro pins s σ H xs us Q I r h;obtain ⟨ds,M,rm,rs,x,es,rfl,j,J,q⟩:=h;obtain ⟨v,rfl,rv⟩:=rs.one;obtain ⟨u,rfl,ru⟩:=dM r;obtain ⟨p,vs,rfl,sq,rvs⟩:=j6 rm rv j
 cases ru
 rcases sq with sq | sq
 ·obtain ⟨its,r',pl,z⟩:=I.list sq;have hlen:=r'.length;obtain ⟨o,ho,B,n,hd⟩:=pl.isList;exact fY cc G I rm rvs J q r' z z fun E R F=>KY p (.inl rfl) ho B hd (fun h' kp=>F h' s.toks kp (Gi _)) (by simp only [Gf] <;> lia)
 ·obtain ⟨its,r',pl,z⟩:=I.tuple sq;have hlen:=r'.length;obtain ⟨o,ho,B,n,hd⟩:=pl;exact fY cc G I rm rvs J q r' z z fun E R F=>KY p (.inr rfl) ho B hd (fun h' kp=>F h' s.toks kp (Gi _)) (by simp only [Gf] <;> lia)
end
end Mi
end L2
namespace L2
open PySem PySem.Spec PyProof.Rows
namespace Mi
end Mi
end L2
namespace L2
namespace Mi
open PySem PySem.Spec PyProof.Rows
end Mi
end L2
namespace L2
namespace It
open PySem PySem.Spec PyProof.Rows
section
variable {prog:GI} {w:Hf} {A:Hg} {E:gV->h7->Prop} {s:h7}
theorem xj {it d:Addr} {i n ep:Nat} {k v ok ov:gV} {Q:gV->h7->Prop} (hi:s.heap.get? it=some (iO .none false d i n ep ok ov))
 (q:∀ h',h'.get? it=some (iO (II s.heap.objs.size) false d i n ep k v)->h'.get? s.heap.objs.size=some { cls := .type "tuple",data := .seq #[k,v] }->(∀ b o,b≠it->s.heap.get? b=some o->h'.get? b=some o)->Q (.ref s.heap.objs.size) { s with heap:=h' }):Gm (model prog w) A (Hx (.ref it) 6 k v) Q E s:=by
 unfold Hx;refine e6 (Jy ?_ (by size_fits))
 have B:=Ga hi;have j:=h6 ({ cls := .type "tuple",data := .seq [k,v].toArray }) hi;unfold Ia;refine e6 (e6 (GU j rfl (x := .none) rfl (q7 ?_)));dsimp only;rw [if_pos rfl];refine e6 (GU j rfl (x:=ok) rfl ?_);refine e6 (GU j rfl (x:=ov) rfl ?_);refine e6 (Gx j (by simp) fun h1 e1 s1 => ?_)
 refine e6 (Gx e1 (by simp) fun h2 e2 s2 => ?_)
 refine e6 (Gx e2 (by simp) fun L G s3 => ?_)
 refine e6 (Gx G (by simp) fun F J s4 => ?_)
 refine e6 (Lj ?_);have kp:∀ b o,b≠it->(s.heap.push { cls := .type "tuple",data := .seq [k,v].toArray }).get? b=some o->F.get? b=some o:=fun b o z e=>s4.extBut b o z (s3.extBut b o z (s2.extBut b o z (s1.extBut b o z e)));refine q7 (q F J (kp _ _ (HG B) (Gh _ rfl)) fun b o z e=>kp b o z (h6 _ e))
theorem nx_any {it d:Addr} {i ep:Nat} {cd ok ov:gV} {dd:Option Addr} {sl:Array (Option gV)} {es:Array HI} {e:HI} {Q:Option gV->h7->Prop} (hi:s.heap.get? it=some (iO .none false d i es.size ep ok ov)) (hd:s.heap.get? d=some { cls:=cd,dict:=dd,data := .dict es ep,slots:=sl }) (he:es[i]? = some e)
 (q:∀ h',h'.get? it=some (iO (II s.heap.objs.size) false d (i+1) es.size ep e.key e.val)->h'.get? s.heap.objs.size=some { cls := .type "tuple",data := .seq #[e.key,e.val] }->(∀ b o,b≠it->s.heap.get? b=some o->h'.get? b=some o)->Q (some (.ref s.heap.objs.size)) { s with heap:=h' }):Gm (model prog w) A (Jq (.ref it)) Q E s:=by
 have ty:s.TypeIs (.ref it) "dict_itemiterator" := ⟨_,hi,rfl⟩;unfold Jq;refine e6 (Jv (H0 (name:=Il "__next__") ty slot_next (H8 slot_next ty da ?_ (dU _))));unfold Im.«dict_itemiterator.__next__»;have hm:=fW
 wp_walk
 dsimp only;rw [if_neg (by simp)]
 wp_walk
 simp only [Gq,he];refine e6 (HF (Q:=fun n s'=>n=2/\s'=s) ?_ (fun n s' hs => ?_) fun _ _ z=>z)
 ·wp_walk
  exact ⟨by kernel_rfl,rfl⟩
 obtain ⟨rfl,rfl⟩:=hs;refine e6 (cg ty ?_);refine e6 (Gx hi (by simp) fun h1 e1 s1 => ?_)
 refine e6 (HB ?_);have j:NZ { s' with heap:=h1 } (.ref it) "dict_itemiterator" := ⟨_,e1,rfl⟩
 refine e6 (cg j ?_);rw [if_neg (by decide +kernel)] at e1
 have e1:h1.get? it=some (iO .none false d (i+1) es.size ep ok ov):=e1;have hsz:h1.objs.size=s'.heap.objs.size:=s1.1;refine IV (by decide +kernel) ?_
 refine e6 (cg j ?_);refine IV (by decide +kernel) ?_
 refine xj (s := { s' with heap:=h1 }) e1 fun h2 e2 B G => ?_
 refine q7 ⟨_,rfl,q7 ?_⟩;dsimp only at e2 B ⊢;rw [hsz] at e2 B ⊢;exact q h2 e2 B fun b o F e=>G b o F (s1.extBut b o F e)
theorem ls:Slot "dict_itemiterator" "__iter__" "dict_itemiterator.__iter__" := .of (owner := "dict_itemiterator") (n := "__iter__") (by rw [typeLookup_type,Ni];kernel_rfl) (by decide +kernel) (by decide +kernel) (by decide +kernel) (.inl (by decide +kernel)) (by rw [LW];kernel_rfl)
theorem rM:entryFor table "dict_itemiterator.__iter__" = some Im.«dict_keyiterator.__iter__» :=
 entryFor_alias (id' := "dict_keyiterator.__iter__") (by kernel_rfl) (by first | rfl | decide +kernel | (unfold String.splitOn;simp +decide [String.splitOnAux])) (by decide +kernel) (by kernel_rfl)
theorem ur (a:gV):argsOk "dict_itemiterator.__iter__" ⟨[a],[]⟩:=by unfold argsOk;kernel_rfl
theorem it_self {it:Addr} {f0 ok ov:gV} {b:Bool} {d:Addr} {i n ep:Nat} {Q:gV->h7->Prop} (hi:s.heap.get? it=some (iO f0 b d i n ep ok ov)) (h:Q (.ref it) s):Gm (model prog w) A (Nm (.ref it)) Q E s:=by
 have ty:s.TypeIs (.ref it) "dict_itemiterator" := ⟨_,hi,rfl⟩;refine OF ty ls (H8 ls ty rM ?_ (ur _));exact q7 ⟨_,rfl, "dict_itemiterator",_,ty,slot_next.lookup,h⟩
end
end It
open PySem PySem.Spec PyProof.Rows
noncomputable def Itp (n:Nat) (G:Hp->Prop) (yl:Nat->V->V->Hp->Prop):It:=⟨fun i H=>i < n/\G H,fun i H x H' => ∃ p u v,H p=none/\x = .ref p/\H'=upd H p (.tup [u,v])/\yl i u v H,fun i H=>n<=i/\G H⟩
theorem rN {P:GI} {w:Hf} {K:Frag} {elts:List Expr} {cx} {pos:Pos} (a it:Addr) {cd:gV} {dd:Option Addr} {sl:Array (Option gV)} {es:Array HI} {ep:Nat} {G:Hp->Prop} {yl:Nat->V->V->Hp->Prop}
 (O:∀ H,G H -> ∃ u,H a=some (.frz { cls:=cd,dict:=dd,data := .dict es ep,slots:=sl } u)) (U:∀ i H h,HOk P w H h->G H -> ∀ e,es[i]? = some e -> ∃ u v,RelV u e.key/\RelV v e.val/\yl i u v H) :
 fD P w K (.Tuple elts cx pos) (Itp es.size G yl) [it] it (fun i h=>i<=es.size /\ ∃ ok ov,h.get? it=some (It.iO .none false a i es.size ep ok ov)) where
 mem:=by simp
 obj:=fun i h st b B=>by
  have e:b=it:=by simpa using B
  subst e;obtain ⟨_,ok,ov,e⟩:=st;exact ⟨_,e,fun v z=>by cases z⟩
 keep:=fun i h h' st k=>by
  obtain ⟨h1,ok,ov,e⟩:=st;exact ⟨h1,ok,ov,k it (by simp) _ e⟩
 item:=by
  intro X F hw J j i pins s σ H E I hf st q;subst F hw J;obtain ⟨hi,q⟩:=q;obtain ⟨_,ok,ov,st⟩:=st;obtain ⟨u',L⟩:=O H q;obtain ⟨u,v,ru,rv,yx⟩:=U i H s.heap I.hok q es[i] (Hj hi);refine It.nx_any (e:=es[i]) st (I.hok a _ L).1 (Hj hi) fun h1 e1 Y Z=>⟨_,rfl, ?_⟩;refine wpAny_letOwnedTupleGo_items (s := { s with heap:=h1 }) e1 fun h2 e2 s2 => ?_
  have lt:∀ {c o},s.heap.get? c=some o->c≠s.heap.objs.size:=fun e=>GW (Ga e);have nz:s.heap.objs.size≠it:=(lt st).symm;have up:∀ c o,c≠it->h1.get? c=some o->h2.get? c=some o:=fun c o n e=>s2.extBut _ _ n e;have IL:Inv X pins σ (upd H s.heap.objs.size (.tup [u,v])) { s with heap:=s.heap.push { cls := .type "tuple",data := .seq #[es[i].key,es[i].val] } } :=
   I.laid (t':=s.toks) (fun b o e=>h6 _ e) (Gi _) ⟨by rw [Gd];simp,[es[i].key,es[i].val], .cons ru (.cons rv .nil),L5 _ _⟩
  have un:∀ c∈[it],upd H s.heap.objs.size (.tup [u,v]) c=none:=fun c j=>by
   have e:c=it:=by simpa using j
   rw [e,aj nz.symm];exact (hf it (by simp)).1
  have kk:∀ c o,c∉[it]->(s.heap.push { cls := .type "tuple",data := .seq #[es[i].key,es[i].val] }).get? c=some o->h2.get? c=some o:=fun c o j e=>by
   simp only [Gj,Hu,or_false] at j
   rcases Lk e with ⟨rfl,rfl⟩ | e
   ·exact up _ _ nz Y
   ·exact up _ _ j (Z c o j e)
  have I2:Inv X pins σ (upd H s.heap.objs.size (.tup [u,v])) { s with heap:=h2 } :=
   Inv.turnedL (s := { s with heap:=s.heap.push { cls := .type "tuple",data := .seq #[es[i].key,es[i].val] } }) (h':=h2) (t':=s.toks) (fp := [it]) IL (fun c j=>⟨un c j,(hf c j).2⟩) kk
  exact ⟨.ref s.heap.objs.size,_,I2,rfl,⟨_,u,v,I.hok.fresh (Gi _),rfl,rfl,yx⟩,⟨hi,_,_,e2⟩,un⟩
 done:=by
  intro X F hw J j i pins s σ H E I hf st q;subst F hw J;obtain ⟨hi,q⟩:=q;obtain ⟨h0,ok,ov,st⟩:=st;obtain ⟨u,L⟩:=O H q;obtain ⟨f0,f1,f2,f3,f4,f5⟩:=hf it (by simp)
  have e:i=es.size:=by lia
  subst e;exact It.nx_end (I.ok.hd j) st (I.hok a _ L).1 fun h' k=>⟨rfl,I.turned (t':=s.toks) (fun b o B e=>k b o B e) f0 f1 f3 f4 f5⟩
 self:=fun A i s Q E st h=>by
  obtain ⟨_,ok,ov,e⟩:=st;exact It.it_self e h
namespace Mi
section
variable {X:Cx}
noncomputable def fZ (ta:TEd):TId:=fun ρ M R=>ta ρ M fun x M1 => ∃ a kvs,x = .ref a/\M1 a=some (.fdc kvs)/\R (kvs.map kvD) (fun _=>True) M1
theorem rO {ta:TEd} (h:ad ta):bK (fZ ta):=fun ρ M Q Q' i q=>h _ _ _ _ (fun x z ⟨a,ds,e,e1,j⟩=>⟨a,ds,e,e1,i _ _ _ j⟩) q
theorem ou {K:Frag} {H:Hp}:∀ {kvs:List (D×D)} {es:List HI},HD (kc K H) kvs es -> ∀ (i:Nat) (e:HI),es[i]? = some e -> ∃ (kv:D×D) (u v:V),kvs[i]? = some kv/\RD K H kv.1 u/\RelV u e.key/\RD K H kv.2 v/\RelV v e.val
 | _,_, .nil,_,_,h=>by simp at h
 | _,_, .cons r t,0,_,h=>by
   simp at h;subst h;obtain ⟨kV,vV,g1,g2,g3,j⟩:=r;exact ⟨_,kV,vV,rfl,g1,g2,g3,j⟩
 | _,_, .cons _ t,i+1,e,h=>by
   obtain ⟨kv,u,v,h1,h2⟩:=ou t i e (by simpa using h)
   exact ⟨kv,u,v,by simpa using h1,h2⟩
theorem xk {elts:List Expr} {cx} {tpos:Pos} {e:Expr} {ta:TEd} {apos cpos:Pos} (m:ad ta) (he:PE X e (lE X.K ta)) (B:Kg e "items" X.env (eval e X.env)=eval e X.env) (L:(apos.endLine==cpos.line)=true) :
 PI X (.Tuple elts cx tpos) (.Call (.Attribute e "items" apos) [] [] cpos) (lI X.K (fZ ta)):=by
 intro pins s σ H R I h;obtain ⟨ρ,M,rs,rm,q⟩:=h;have hq:lE X.K ta σ H (fun v H1 => ∃ a kvs O,v = .ref a/\Ext M H O H1/\RM X.K O H1/\O a=some (.fdc kvs) /\ ∀ J,fL X.K H1 (kvs.map kvD) (fun _=>True) J->R J H1) :=
  ⟨ρ,M,rs,rm,m _ _ _ _ (fun x O ⟨a,kvs,e,e1,q1⟩ v H1 x1 j rd1=>by
    subst e
    cases Q6.mp rd1
    exact ⟨a,kvs,O,rfl,x1,j,e1,fun J ij=>q1 J H1 x1 j ij⟩) q⟩
 refine KG B L (thn (he pins s σ H _ I hq) fun u s1 ⟨x,H1,I1,r1,a,kvs,O,e0,x1,j,e1,q1⟩ => ?_);subst e0;obtain rfl:u=GJ a:=r1;obtain ⟨o,ps,hp,pr⟩:=j _ _ e1;obtain ⟨Z,ok⟩:=I1.hok a _ hp;obtain ⟨cd,dd,sl,es,ep,g1,g2,g3⟩:=nZ ok pr;obtain ⟨ty,t2,E3⟩:=iW I1 (.inr ⟨ps, .inr ⟨o,hp⟩⟩);rw [Z] at g1
 cases g1
 have E4:cd = .type "dict" := by
  obtain ⟨o,h1,h2⟩:=ty;rw [Z] at h1;cases h1;exact h2
 subst E4;have lz:kvs.length=es.size:=by have:=bo g3;simpa using this
 refine ⟨"dict", "dict.items",OG,Mk,OH,ty,t2,J2 rfl (LB ?_)⟩;refine lq ty E3 Z ?_;have kpv:∀ b o,s1.heap.get? b=some o->(s1.heap.push { cls:=Hb "dict_items",data:=Kx #[GJ a] }).get? b=some o:=fun b o e=>h6 _ e;have I2:Inv X pins σ H1 { s1 with heap:=s1.heap.push { cls:=Hb "dict_items",data:=Kx #[GJ a] } }:=I1.kept (t':=s1.toks) kpv
 refine It.it_view (s := { s1 with heap:=s1.heap.push { cls:=Hb "dict_items",data:=Kx #[GJ a] } }) (Gh _ rfl) (kpv _ _ Z) ?_
 refine ⟨_,_,_,_,H1,rfl,I2.kept (t':=s1.toks) fun b o e=>h6 _ e,rN (G:=fun H=>H a=some (.frz { cls := .type "dict",dict:=dd,data := .dict es ep,slots:=sl } (.dT ps))/\HD (fun (p:D×D) (q:List Key×V)=>RKeys p.1 q.1/\RD X.K H p.2 q.2) kvs ps) (yl:=fun i u v H => ∃ kv,kvs[i]? = some kv/\RD X.K H kv.1 u/\RD X.K H kv.2 v) a _ (fun H h=>⟨_,h.1⟩) (fun i H h hok ⟨ha,pr'⟩ e he => ?_),⟨Ih _,_,_,Gh _ rfl⟩,fun b hb => ?_,q1 _ ?_⟩
 ·obtain ⟨z0,ok'⟩:=hok a _ ha;obtain ⟨cd,dd,sl',es',ep',z1,_,z3⟩:=nZ ok' pr';rw [z0] at z1
  cases z1
  obtain ⟨kv,u,v,y1,y2,y3,y4,y5⟩:=ou z3 i e (by simpa using he)
  exact ⟨u,v,y3,y5,kv,y1,y2,y4⟩
 ·have e:b=(s1.heap.push { cls:=Hb "dict_items",data:=Kx #[GJ a] }).objs.size:=by simpa using hb
  subst e;exact I2.fpOk (Gi _) (I2.hok.fresh (Gi _))
 ·intro M' H' st rm' _ i;have U:=st.frz _ _ _ hp;have pr':HD (fun (p:D×D) (q:List Key×V)=>RKeys p.1 q.1/\RD X.K H' p.2 q.2) kvs ps:=Qa pr fun _ _ z=>⟨z.1,z.2.mono st⟩;rw [r3,lz];refine ⟨fun hi=>⟨hi,U,pr'⟩,fun hi=>⟨⟨hi,U,pr'⟩,fun x H'' y => ?_⟩⟩;obtain ⟨p,u,v,n,e,e2,kv,y1,y2,y3⟩:=y;subst e e2;have Y:Stab H' (upd H' p (.tup [u,v])):=(Qg (M:=M') n).stab rm';exact ⟨.inr ⟨p,[u,v],n,rfl⟩,kvD kv,by rw [GH,y1];rfl,Qf ⟨p,[u,v],rfl,aG,RDs.cons (y2.mono Y) (RDs.cons (y3.mono Y) RDs.nil)⟩⟩
end
end Mi
end L2
namespace L2
open PySem PySem.Spec PyProof.Rows
section
section
variable {X:Cx}
noncomputable def D8:R2:=fun x y H Q => ∃ l b xs zs,x = .ref l/\y = .ref b/\H l=some (.lst xs)/\H b=some (.lst zs)/\xs.length+zs.length<=Gg/\Q (.ref l) (upd H l (.lst (xs++zs)))
theorem D9 {M:Kv} {A:Hg} {E:gV->h7->Prop} {s:h7} {a b:gV} {Q:gV->h7->Prop} (z:s.TypeIs a "list") (J:s.TypeIs b "list")
 (L:Gm M A (call (.builtin "list.__iadd__") [a,b]) Q E s):Gm M A (J6 .Add a b) Q E s:=by
 unfold J6;refine HB ?_;have B:PD (.type "list") (dunderI "add")=pure (some (.builtin "list.__iadd__")):=PySem.F.slot_list_iadd.lookup;have G:isSeqSlot (some (.builtin "list.__iadd__"))=true:=by decide +kernel
 have j:OW (.type "list") "add" (Operator.Add == .Add)=pure false:=by
  unfold OW;show (PD (.type "list") (dunderI "add") >>= fun fi=>pure (fi.isSome && !isSeqSlot fi))=pure false;rw [B,pure_bind,G];rfl
 have q:seqSlot? (.type "list") (dunderI "add")=pure (some (.builtin "list.__iadd__")):=PySem.seqSlot_of B G;refine e6 (KO z (e6 (Jl j ?_)));show Gm M A (if false=true then _ else _) Q E s
 rw [if_neg Gb];refine e6 (PySem.wpAny_binaryOp1_none (nm := "add") z J PySem.noFill_list_add ?_);refine e6 (Jl q ?_);exact e6 (IC L)
theorem zM:OpR X (J6 .Add) D8:=by
 intro pins s σ H x y v u Q I rx ry h;obtain ⟨l,b,xs,zs,rfl,rfl,G,J,Y,q⟩:=h
 cases rx
 cases ry
 obtain ⟨z,its,n,r,Z,e⟩:=I.lstM G;obtain ⟨z2,j,L,O,U,e2⟩:=I.lstM J;have hsz:its.toArray.size+j.toArray.size<=Gg:=by rw [Gf,Gf];lia
 have B : ¬ (!its.toArray.isEmpty&&Jt (its.toArray.size+j.toArray.size))=true:=by
  rw [mJ hsz,Bool.and_false];exact Gb
 refine D9 ⟨_,e,rfl⟩ ⟨_,e2,rfl⟩ (JW PySem.F.slot_list_iadd ⟨_,e,rfl⟩ PySem.F.entry_list_iadd (PySem.F.args_list_iadd_2 _ _)
  (AutoSeq1.list___iadd___list_list_0 l its.toArray n b j.toArray L B (by rw [Gf];lia) (by lia)) ⟨e,e2, ?_⟩)
 refine ⟨.ref l,_,I.lset (its':=its++j) G e (by simp) (r.append O) ?_,rfl,q⟩
 rw [D2];lia
end
namespace Mi
section
variable {X:Cx}
noncomputable def rP:R2d:=fun x y M Q => ∃ a b xs ys,x = .ref a/\y = .ref b/\M a=some (.lst xs)/\M b=some (.lst ys)/\xs.length+ys.length<=Gg/\Q (.ref a) (af M a (.lst (xs++ys)))
theorem lu:av rP:=fun _ _ _ _ _ h ⟨a,b,xs,y,e1,e2,j,B,z,q⟩=>⟨a,b,xs,y,e1,e2,j,B,z,h _ _ q⟩
theorem ut:OpR X (J6 .Add) (l2 X.K rP):=by
 refine OpR.of zM fun v u H Q h => ?_;obtain ⟨x,y,M,rm,rx,ry,a,b,xs,ys,rfl,rfl,e1,e2,z,q⟩:=h
 cases Q6.mp rx
 cases Q6.mp ry
 obtain ⟨us,j,ru⟩:=rm _ _ e1;obtain ⟨ws,B,rw'⟩:=rm _ _ e2;exact ⟨a,b,us,ws,rfl,rfl,j,B,by rw [ru.length,rw'.length];exact z,gB rm e1 (ru.append rw') (Q6.mpr rfl) q⟩
end
end Mi
end
end L2
namespace L2
open PySem PySem.Spec PyProof.Rows
namespace Mi
open L2.Srt
end Mi
end L2
namespace L2
open PySem PySem.Spec PyProof.Rows
end L2
namespace L2
namespace Mi
open PySem PySem.Spec PyProof.Rows
end Mi
end L2
namespace L2
open PySem PySem.Spec PyProof.Rows
namespace Mi
end Mi
end L2
namespace L2
namespace Mi
open PySem PySem.Spec PyProof.Rows
section
mutual
noncomputable def GV (K:Frag):D->gV->Prop
 | .int i,v => ∃ t,v = .int i t
 | .str x,v => ∃ t,v = .str x t
 | .tup ds,v => ∃ a o its n,v = .ref a/\K.lookup a=some o/\o.cls = .type "tuple" /\ o.data = .seq its n/\its.size<=Gg/\fk ds=false/\GVs K ds its.toList
 | _,_=>False
noncomputable def GVs (K:Frag):List D->List gV->Prop
 | [],us=>us=[]
 | d::ds,us => ∃ u r,us=u::r/\GV K d u/\GVs K ds r
end
end
section
inductive BOp where | add | sub | mul | fdiv | mod | pow | ext
inductive COp where | eq | ne | lt | gt | ge | isn | inS | ninD
inductive BF where | len | abs | min2 | int | tuple | sum | sorted | sortl
inductive MF where | append
inductive MF0 where | clear | pop0
mutual
inductive MG where
 | name (i:Nat)
 | tup (gs:MGs)
inductive MGs where
 | nil
 | cons (g:MG) (r:MGs)
end
mutual
inductive ME where
 | var (i:Nat)
 | int (i:Int)
 | bl (b:Bool)
 | non
 | bin (op:BOp) (a b:ME)
 | neg (a:ME)
 | cmp (op:COp) (a b:ME)
 | and (es:MEs)
 | or (es:MEs)
 | not (a:ME)
 | ite (c:MT) (a b:ME)
 | tup (es:MEs)
 | lst (es:MEs)
 | ix (a b:ME)
 | sl (a:ME) (lo hi:MO)
 | call (f:Nat) (es:MEs)
 | blt (f:BF) (es:MEs)
 | dnew (t:Bool)
 | sortI (a:ME)
 | dget (o k x:ME)
 | meth (m:MF) (o a:ME)
 | meth0 (m:MF0) (o:ME)
 | comp (fr:List (Option Nat)) (N:List Str) (c:MC)
inductive MEs where
 | nil
 | cons (e:ME) (r:MEs)
inductive MO where
 | none
 | some (e:ME)
inductive MT where
 | tru (e:ME)
 | cmp (op:COp) (a b:ME)
 | and (ts:MTs)
 | or (ts:MTs)
 | not (t:MT)
inductive MTs where
 | nil
 | cons (t:MT) (r:MTs)
inductive MI where
 | seq (e:ME)
 | rng1 (a:ME)
 | rng2 (a b:ME)
 | zip (a b:ME)
 | enum (a:ME)
 | items (a:ME)
inductive MC where
 | last (src:MI) (g:MG) (ifs:MTs) (elt:ME)
 | more (src:MI) (g:MG) (ifs:MTs) (rest:MC)
end
mutual
inductive MS where
 | asg (g:MG) (e:ME)
 | par (i j:Nat) (a b:ME)
 | put (o i e:ME)
 | aug (i:Nat) (op:BOp) (e:ME)
 | augI (o i:ME) (op:BOp) (e:ME)
 | drop (e:ME)
 | ret (e:ME)
 | ite (c:MT) (a b:MSs)
 | for (g:MG) (src:MI) (b:MSs)
 | while (c:MT) (b:MSs)
 | frz (i:Nat) (s:MS)
 | pass | brk | cnt
inductive MSs where
 | nil
 | cons (s:MS) (r:MSs)
end
noncomputable def opB:BOp->R2d
 | .add=>fI | .sub=>rf | .mul=>jU | .fdiv=>lZ | .mod=>rg | .pow=>rh | .ext=>fI
noncomputable def opC:COp->R2d
 | .eq=>wEq | .ne=>wNe | .lt=>wLt| .gt=>wGt | .ge=>wGe| .isn=>wL| .inS=>wZ| .ninD=>xb true
noncomputable def opF:BF->RAd
 | .len=>fJ| .sortl=>oj| .abs=>n6| .min2=>m8 | .int=>n8| .tuple=>ng | .sum=>rq| .sorted=>kb
noncomputable def opM:MF->D->List D->Mem->QD->Prop
 | .append=>jX
noncomputable def rQ:MF0->D->List D->Mem->QD->Prop
 | .clear=>ny| .pop0=>xf
noncomputable def opI:BOp->R2d
 | .add=>m9 | .sub=>md | .mul=>mf | .ext=>rP | _=>fun _ _ _ _=>False
theorem ox:∀ o,av (opB o)
 | .add=>mW | .sub=>w9 | .mul=>wa | .fdiv=>tH | .mod=>wb | .pow=>wc | .ext=>mW
theorem eY:∀ o,av (opC o)
 | .eq=>za | .ne=>zb | .lt=>zf| .gt=>zg | .ge=>zh| .isn=>wM| .inS=>x8| .ninD=>xc
theorem xm:∀ o,b4 (opF o)
 | .len=>n4| .sortl=>jx| .abs=>n9| .min2=>kQ | .int=>nc| .tuple=>j7 | .sum=>ni| .sorted=>i9
theorem xo:∀ o,dO (opM o)
 | .append=>i6
theorem uu:∀ o,dO (rQ o)
 | .clear=>jd| .pop0=>oh
theorem oz:∀ o,av (opI o)
 | .add=>fR | .sub=>fS | .mul=>fT | .ext=>lu
 | .fdiv=>fun _ _ _ _ _ _ q=>q.elim | .mod=>fun _ _ _ _ _ _ q=>q.elim | .pow=>fun _ _ _ _ _ _ q=>q.elim
noncomputable abbrev Phi:=Nat->RAd
mutual
noncomputable def bG:MG->BT
 | .name i=>bQ i
 | .tup gs=>nA (bGs gs)
noncomputable def bGs:MGs->BTs
 | .nil=>fK
 | .cons g r=>bJ (bG g) (bGs r)
end
mutual
noncomputable def wE (Φ:Phi):ME->TEd
 | .var i=>im i
 | .int i=>wC (.int i)
 | .bl b=>wC (.bl b)
 | .non=>wC .non
 | .bin op a b=>wOp (opB op) (wE Φ a) (wE Φ b)
 | .neg a=>wUn rj (wE Φ a)
 | .cmp op a b=>wOp (opC op) (wE Φ a) (wE Φ b)
 | .and es=>wAnds Φ es
 | .or es=>wOrs Φ es
 | .not a=>jb (wE Φ a)
 | .ite c a b=>wIf (wT Φ c) (wE Φ a) (wE Φ b)
 | .tup es=>wAr mR (wA Φ es)
 | .lst es=>wAr mU (wA Φ es)
 | .ix a b=>wOp wIx (wE Φ a) (wE Φ b)
 | .sl a lo hi=>wSl (wE Φ a) (wO Φ lo) (wO Φ hi)
 | .call f es=>wAr (Φ f) (wA Φ es)
 | .blt f es=>wAr (opF f) (wA Φ es)
 | .dnew t=>jn t
 | .sortI a=>fX (wE Φ a)
 | .dget o k x=>jw (wE Φ o) (wE Φ k) (wE Φ x)
 | .meth m o a=>wBM (opM m) (wE Φ o) (b8 (wE Φ a) bB)
 | .meth0 m o=>wBM (rQ m) (wE Φ o) bB
 | .comp fr _ c=>wCmp Φ fr c
noncomputable def wA (Φ:Phi):MEs->TAd
 | .nil=>bB
 | .cons e r=>b8 (wE Φ e) (wA Φ r)
noncomputable def wAnds (Φ:Phi):MEs->TEd
 | .nil=>fun _ _ _=>False
 | .cons e .nil=>wE Φ e
 | .cons e (.cons f r)=>ja (wE Φ e) (wAnds Φ (.cons f r))
noncomputable def wOrs (Φ:Phi):MEs->TEd
 | .nil=>fun _ _ _=>False
 | .cons e .nil=>wE Φ e
 | .cons e (.cons f r)=>nt (wE Φ e) (wOrs Φ (.cons f r))
noncomputable def wO (Φ:Phi):MO->TOd
 | .none=>eD
 | .some e=>jc (wE Φ e)
noncomputable def wT (Φ:Phi):MT->TTd
 | .tru e=>nn (wE Φ e)
 | .cmp op a b=>io (wOp (opC op) (wE Φ a) (wE Φ b))
 | .and ts=>wAndTs Φ ts
 | .or ts=>wOrTs Φ ts
 | .not t=>j8 (wT Φ t)
noncomputable def wAndTs (Φ:Phi):MTs->TTd
 | .nil=>fun _ _ _=>False
 | .cons e .nil=>wT Φ e
 | .cons e (.cons f r)=>j9 (wT Φ e) (wAndTs Φ (.cons f r))
noncomputable def wOrTs (Φ:Phi):MTs->TTd
 | .nil=>fun _ _ _=>False
 | .cons e .nil=>wT Φ e
 | .cons e (.cons f r)=>no (wT Φ e) (wOrTs Φ (.cons f r))
noncomputable def wTl (Φ:Phi):MTs->List TTd
 | .nil => []
 | .cons t r=>wT Φ t::wTl Φ r
noncomputable def wI (Φ:Phi):MI->TId
 | .seq e=>nB (wE Φ e)
 | .rng1 a=>je (b8 (wE Φ a) bB)
 | .rng2 a b=>jf (b8 (wE Φ a) (b8 (wE Φ b) bB))
 | .zip a b=>nC (wE Φ a) (wE Φ b)
 | .enum a=>jh (wE Φ a)
 | .items a=>fZ (wE Φ a)
noncomputable def wCl (Φ:Phi):MC->TCd
 | .last src g ifs elt=>dh (wI Φ src) (bG g) (be (wTl Φ ifs) (dP (wE Φ elt)))
 | .more src g ifs rest=>dh (wI Φ src) (bG g) (be (wTl Φ ifs) (wCl Φ rest))
noncomputable def wCmp (Φ:Phi) (fr:List (Option Nat)):MC->TEd
 | .last src g ifs elt=>gD fr (wI Φ src) (bG g) (be (wTl Φ ifs) (dP (wE Φ elt)))
 | .more src g ifs rest=>gD fr (wI Φ src) (bG g) (be (wTl Φ ifs) (wCl Φ rest))
end
mutual
noncomputable def wS (Φ:Phi):MS->TSd
 | .asg g e=>iw (wE Φ e) (bG g)
 | .par i j a b=>nH (b8 (wE Φ a) (b8 (wE Φ b) bB)) (bJ (bQ i) (bJ (bQ j) fK))
 | .put o i e=>nJ (wE Φ e) (wE Φ o) (wE Φ i)
 | .aug i op e=>nN i (opI op) (wE Φ e)
 | .augI o i op e=>jm (wE Φ o) (wE Φ i) (wE Φ e) (opI op)
 | .drop e=>jk (wE Φ e)
 | .ret e=>nG (wE Φ e)
 | .ite c a b=>sIf (wT Φ c) (wSs Φ a) (wSs Φ b)
 | .for g src b=>nI (wI Φ src) (bG g) (wSs Φ b)
 | .while c b=>fP (wT Φ c) (wSs Φ b)
 | .frz i s=>rJ i (wS Φ s)
 | .pass=>gE
 | .brk=>fO
 | .cnt=>jj
noncomputable def wSs (Φ:Phi):MSs->TSd
 | .nil=>gE
 | .cons s r=>nF (wS Φ s) (wSs Φ r)
end
section
variable {Φ:Phi} (hΦ:∀ f,b4 (Φ f))
include hΦ
mutual
theorem mE:∀ m,ad (wE Φ m)
 | .var _=>w5
 | .int _=>mQ
 | .bl _=>mQ
 | .non=>mQ
 | .bin op a b=>eC (ox op) (mE a) (mE b)
 | .neg a=>yY mY (mE a)
 | .cmp op a b=>eC (eY op) (mE a) (mE b)
 | .and es=>mAnds es
 | .or es=>mOrs es
 | .not a=>tM (mE a)
 | .ite c a b=>zo (mT c) (mE a) (mE b)
 | .tup es=>gy tE (mA es)
 | .lst es=>gy tF (mA es)
 | .ix a b=>eC pT (mE a) (mE b)
 | .sl a lo hi=>zr (mE a) (mO lo) (mO hi)
 | .call f es=>gy (hΦ f) (mA es)
 | .blt f es=>gy (xm f) (mA es)
 | .dnew _=>u7
 | .sortI a=>rH (mE a)
 | .dget o k x=>uo (mE o) (mE k) (mE x)
 | .meth m o a=>pU (xo m) (mE o) (ao (mE a) au)
 | .meth0 m o=>pU (uu m) (mE o) au
 | .comp fr _ c=>mCmp fr c
theorem mA:∀ m,aU (wA Φ m)
 | .nil=>au
 | .cons e r=>ao (mE e) (mA r)
theorem mAnds:∀ m,ad (wAnds Φ m)
 | .nil=>fun _ _ _ _ _ q=>q.elim
 | .cons e .nil=>mE e
 | .cons e (.cons f r)=>tL (mE e) (mAnds (.cons f r))
theorem mOrs:∀ m,ad (wOrs Φ m)
 | .nil=>fun _ _ _ _ _ q=>q.elim
 | .cons e .nil=>mE e
 | .cons e (.cons f r)=>wo (mE e) (mOrs (.cons f r))
theorem mO:∀ m,eS (wO Φ m)
 | .none=>pA
 | .some e=>tO (mE e)
theorem mT:∀ m,aC (wT Φ m)
 | .tru e=>wm (mE e)
 | .cmp op a b=>w6 (eC (eY op) (mE a) (mE b))
 | .and ts=>mAndTs ts
 | .or ts=>mOrTs ts
 | .not t=>tJ (mT t)
theorem mAndTs:∀ m,aC (wAndTs Φ m)
 | .nil=>fun _ _ _ _ _ q=>q.elim
 | .cons e .nil=>mT e
 | .cons e (.cons f r)=>tK (mT e) (mAndTs (.cons f r))
theorem mOrTs:∀ m,aC (wOrTs Φ m)
 | .nil=>fun _ _ _ _ _ q=>q.elim
 | .cons e .nil=>mT e
 | .cons e (.cons f r)=>wn (mT e) (mOrTs (.cons f r))
theorem mTl:∀ m, ∀ t∈wTl Φ m,aC t
 | .nil=>by rw [wTl];intro t j;simp at j
 | .cons t r=>by
  rw [wTl];intro t' j
  rcases Gj.mp j with e | e
  ·rw [e];exact mT t
  ·exact mTl r t' e
theorem mI:∀ m,bK (wI Φ m)
 | .seq e=>wu (mE e)
 | .rng1 a=>tR (ao (mE a) au)
 | .rng2 a b=>tS (ao (mE a) (ao (mE b) au))
 | .zip a b=>wv (mE a) (mE b)
 | .enum a=>tT (mE a)
 | .items a=>rO (mE a)
theorem mCl:∀ m,bM (wCl Φ m)
 | .last src g ifs elt=>i7 (mI src) (aK (bj (mE elt)) (mTl ifs))
 | .more src g ifs rest=>i7 (mI src) (aK (mCl rest) (mTl ifs))
theorem mCmp (fr:List (Option Nat)):∀ m,ad (wCmp Φ fr m)
 | .last src g ifs elt=>kR (mI src) (aK (bj (mE elt)) (mTl ifs))
 | .more src g ifs rest=>kR (mI src) (aK (mCl rest) (mTl ifs))
end
mutual
theorem mS:∀ m,aB (wS Φ m)
 | .asg g e=>wy (mE hΦ e)
 | .par i j a b=>wz (ao (mE hΦ a) (ao (mE hΦ b) au))
 | .put o i e=>wJ (mE hΦ e) (mE hΦ o) (mE hΦ i)
 | .aug i op e=>wK (oz op) (mE hΦ e)
 | .augI o i op e=>u6 (mE hΦ o) (mE hΦ i) (mE hΦ e) (oz op)
 | .drop e=>tW (mE hΦ e)
 | .ret e=>ww (mE hΦ e)
 | .ite c a b=>wx (mT hΦ c) (mSs a) (mSs b)
 | .for g src b=>wB (mI hΦ src) (mSs b)
 | .while c b=>rD (mT hΦ c) (mSs b)
 | .frz i s=>wY (mS s)
 | .pass=>kT
 | .brk=>rC
 | .cnt=>tU
theorem mSs:∀ m,aB (wSs Φ m)
 | .nil=>kT
 | .cons s r=>tV (mS s) (mSs r)
end
end
end
section
structure Ctx where
 Γ:List Str
 N:List Str
 sc:Scope
 fn:List Str
 cs:List (Str×D)
noncomputable def glB (sc:Scope) (x:Str):Bool:=sc.names.lookup x==some .globalImplicit
noncomputable def xp (sc:Scope) (x:Str):Bool:=sc.names.lookup x==some .local || sc.names.lookup x==some .cell || sc.names.lookup x==some .free
noncomputable def rR (sc:Scope) (x:Str):Bool:=sc.names.lookup x==some .local || sc.names.lookup x==some .cell
noncomputable def aO:Expr->Bool
 | .Starred .. => false
 | _=>true
noncomputable def oA:Expr->Bool
 | .Name .. | .Call .. | .Subscript .. | .Constant .. | .BinOp .. | .Attribute .. => true
 | _=>false
noncomputable def cv:Expr->Bool
 | .Slice .. => false
 | _=>true
noncomputable def g9:Expr->Bool
 | .ListComp .. | .SetComp .. | .DictComp .. => false
 | _=>true
noncomputable def mm:Expr->Bool
 | .Set .. => false
 | _=>true
noncomputable def cw:Expr->Bool
 | .Call .. => false
 | _=>true
noncomputable def opO:BOp->JT
 | .add => .Add | .sub => .Sub | .mul => .Mult | .fdiv => .FloorDiv | .mod => .Mod | .pow => .Pow | .ext => .Add
noncomputable def xq:COp->CmpOp
 | .eq => .Eq | .ne => .NotEq | .lt => .Lt| .gt => .Gt | .ge => .GtE| .isn => .IsNot| .inS => .In| .ninD => .NotIn
noncomputable def oB:BF->Str
 | .len => "len"| .sortl => "sorted"| .abs => "abs"| .min2 => "min" | .int => "int"| .tuple => "tuple" | .sum => "sum"| .sorted => "sorted"
noncomputable def BK:MF->Str
 | .append => "append"
noncomputable def zN:MF0->Str
 | .clear => "clear"| .pop0 => "pop"
noncomputable def bltNames:List Str := ["len", "abs", "max", "min", "int", "list", "tuple", "sum", "isinstance", "range", "bool", "str", "dict", "zip", "enumerate", "reversed", "sorted", "all", "any", "set"]
noncomputable def iD (sc osc:Scope):Scope :=
 { sc with names:=sc.names.map fun (n,k)=>if (k == .free&&osc.kind == .function&&osc.names.lookup n==some .cell) then (n, .cell) else (n,k) }
theorem pG (sc:Scope) (env:Env):relabel sc env=iD sc env.scope:=rfl
noncomputable def xr (sc osc:Scope) (oN N':List Str) (fr:List (Option Nat)):Bool :=
 decide (sc.kind = .function)&&decide ((sc.names.map (·.1)).Nodup)&&decide (N'.Nodup)
  && sc.names.all (fun x => !(x.2 == .free) || osc.names.lookup x.1==some .cell || osc.names.lookup x.1==some .free)
  && decide (fr.length=N'.length)
  && (D0 N'.length).all fun i=>match fr[i]?,N'[i]? with
   | some (some j),some x=>decide (oN[j]? = some x)&&sc.names.any (fun y=>decide (y=(x,Ha)))
   | _,_=>true
theorem pk {p:Prop} [d:Decidable p] {t:p->Bool} (h:dite p t (fun _=>false)=true):∃ c,t c=true:=by
 cases d with
 | isTrue c=>exact ⟨c,h⟩
 | isFalse c=>cases h
noncomputable def eZ (e:Expr) (f:Str->Pos->Bool):Bool:=if h:e.ctorIdx=23 then @PZ.elim (fun _=>Bool) e h f else false
@[elab_as_elim]
theorem gO {P:Expr->Prop} (e:Expr) {f:Str->Pos->Bool} (h:eZ e f=true) (k:∀ a b,f a b=true->P (.Name a b)):P e :=
 (pk h).elim fun c => @PZ.elim (fun e => ∀ c, @PZ.elim (fun _=>Bool) e c f=true->P e) e c (fun a b _ h=>k a b h) c
noncomputable def dW (e:Expr) (f:Const->Nat->Pos->Bool):Bool:=if h:e.ctorIdx=19 then @O0.elim (fun _=>Bool) e h f else false
@[elab_as_elim]
theorem gb {P:Expr->Prop} (e:Expr) {f:Const->Nat->Pos->Bool} (h:dW e f=true) (k:∀ a b c,f a b c=true->P (.Constant a b c)):P e :=
 (pk h).elim fun c => @O0.elim (fun e => ∀ c, @O0.elim (fun _=>Bool) e c f=true->P e) e c (fun a b c _ h=>k a b c h) c
noncomputable def uv (e:Expr) (f:Expr->JT->Expr->Pos->Bool):Bool:=if h:e.ctorIdx=2 then @PM.elim (fun _=>Bool) e h f else false
@[elab_as_elim]
theorem BL {P:Expr->Prop} (e:Expr) {f:Expr->JT->Expr->Pos->Bool} (h:uv e f=true) (k:∀ a b c d,f a b c d=true->P (.BinOp a b c d)):P e :=
 (pk h).elim fun c => @PM.elim (fun e => ∀ c, @PM.elim (fun _=>Bool) e c f=true->P e) e c (fun a b c d _ h=>k a b c d h) c
noncomputable def fe (e:Expr) (f:UnaryOp->Expr->Pos->Bool):Bool:=if h:e.ctorIdx=3 then @OI.elim (fun _=>Bool) e h f else false
@[elab_as_elim]
theorem iE {P:Expr->Prop} (e:Expr) {f:UnaryOp->Expr->Pos->Bool} (h:fe e f=true) (k:∀ a b c,f a b c=true->P (.UnaryOp a b c)):P e :=
 (pk h).elim fun c => @OI.elim (fun e => ∀ c, @OI.elim (fun _=>Bool) e c f=true->P e) e c (fun a b c _ h=>k a b c h) c
noncomputable def iF (e:Expr) (f:Expr->List CmpOp->List Expr->Pos->Bool):Bool:=if h:e.ctorIdx=15 then @OJ.elim (fun _=>Bool) e h f else false
@[elab_as_elim]
theorem oC {P:Expr->Prop} (e:Expr) {f:Expr->List CmpOp->List Expr->Pos->Bool} (h:iF e f=true) (k:∀ a b c d,f a b c d=true->P (.Compare a b c d)):P e :=
 (pk h).elim fun c => @OJ.elim (fun e => ∀ c, @OJ.elim (fun _=>Bool) e c f=true->P e) e c (fun a b c d _ h=>k a b c d h) c
noncomputable def eI (e:Expr) (f:BoolOp->List Expr->Pos->Bool):Bool:=if h:e.ctorIdx=0 then @P9.elim (fun _=>Bool) e h f else false
@[elab_as_elim]
theorem gP {P:Expr->Prop} (e:Expr) {f:BoolOp->List Expr->Pos->Bool} (h:eI e f=true) (k:∀ a b c,f a b c=true->P (.BoolOp a b c)):P e :=
 (pk h).elim fun c => @P9.elim (fun e => ∀ c, @P9.elim (fun _=>Bool) e c f=true->P e) e c (fun a b c _ h=>k a b c h) c
noncomputable def uw (e:Expr) (f:Expr->Expr->Expr->Pos->Bool):Bool:=if h:e.ctorIdx=5 then @PN.elim (fun _=>Bool) e h f else false
@[elab_as_elim]
theorem BM {P:Expr->Prop} (e:Expr) {f:Expr->Expr->Expr->Pos->Bool} (h:uw e f=true) (k:∀ a b c d,f a b c d=true->P (.IfExp a b c d)):P e :=
 (pk h).elim fun c => @PN.elim (fun e => ∀ c, @PN.elim (fun _=>Bool) e c f=true->P e) e c (fun a b c d _ h=>k a b c d h) c
noncomputable def cI (e:Expr) (f:List Expr->Nat->Pos->Bool):Bool:=if h:e.ctorIdx=25 then @PQ.elim (fun _=>Bool) e h f else false
@[elab_as_elim]
theorem dE {P:Expr->Prop} (e:Expr) {f:List Expr->Nat->Pos->Bool} (h:cI e f=true) (k:∀ a b c,f a b c=true->P (.Tuple a b c)):P e :=
 (pk h).elim fun c => @PQ.elim (fun e => ∀ c, @PQ.elim (fun _=>Bool) e c f=true->P e) e c (fun a b c _ h=>k a b c h) c
noncomputable def yk (e:Expr) (f:List Expr->Pos->Bool):Bool:=if h:e.ctorIdx=24 then @Q0.elim (fun _=>Bool) e h f else false
@[elab_as_elim]
theorem Da {P:Expr->Prop} (e:Expr) {f:List Expr->Pos->Bool} (h:yk e f=true) (k:∀ a b,f a b=true->P (.List a b)):P e :=
 (pk h).elim fun c => @Q0.elim (fun e => ∀ c, @Q0.elim (fun _=>Bool) e c f=true->P e) e c (fun a b _ h=>k a b h) c
noncomputable def ci (e:Expr) (f:Expr->Expr->Pos->Bool):Bool:=if h:e.ctorIdx=21 then @NG.elim (fun _=>Bool) e h f else false
@[elab_as_elim]
theorem de {P:Expr->Prop} (e:Expr) {f:Expr->Expr->Pos->Bool} (h:ci e f=true) (k:∀ a b c,f a b c=true->P (.Subscript a b c)):P e :=
 (pk h).elim fun c => @NG.elim (fun e => ∀ c, @NG.elim (fun _=>Bool) e c f=true->P e) e c (fun a b c _ h=>k a b c h) c
noncomputable def rS (e:Expr) (f:Expr->List Expr->List MU->Pos->Bool):Bool:=if h:e.ctorIdx=16 then @Q1.elim (fun _=>Bool) e h f else false
@[elab_as_elim]
theorem ym {P:Expr->Prop} (e:Expr) {f:Expr->List Expr->List MU->Pos->Bool} (h:rS e f=true) (k:∀ a b c d,f a b c d=true->P (.Call a b c d)):P e :=
 (pk h).elim fun c => @Q1.elim (fun e => ∀ c, @Q1.elim (fun _=>Bool) e c f=true->P e) e c (fun a b c d _ h=>k a b c d h) c
noncomputable def jy (e:Expr) (f:Expr->Str->Pos->Bool):Bool:=if h:e.ctorIdx=20 then @NH.elim (fun _=>Bool) e h f else false
@[elab_as_elim]
theorem rT {P:Expr->Prop} (e:Expr) {f:Expr->Str->Pos->Bool} (h:jy e f=true) (k:∀ a b c,f a b c=true->P (.Attribute a b c)):P e :=
 (pk h).elim fun c => @NH.elim (fun e => ∀ c, @NH.elim (fun _=>Bool) e c f=true->P e) e c (fun a b c _ h=>k a b c h) c
noncomputable def uz (e:Expr) (f:Option Expr->Option Expr->Option Expr->Pos->Bool):Bool:=if h:e.ctorIdx=26 then @PR.elim (fun _=>Bool) e h f else false
@[elab_as_elim]
theorem BN {P:Expr->Prop} (e:Expr) {f:Option Expr->Option Expr->Option Expr->Pos->Bool} (h:uz e f=true) (k:∀ a b c d,f a b c d=true->P (.Slice a b c d)):P e :=
 (pk h).elim fun c => @PR.elim (fun e => ∀ c, @PR.elim (fun _=>Bool) e c f=true->P e) e c (fun a b c d _ h=>k a b c d h) c
noncomputable def lv (e:Expr) (f:Expr->List Hr->Scope->Pos->Bool):Bool:=if h:e.ctorIdx=8 then @O1.elim (fun _=>Bool) e h f else false
@[elab_as_elim]
theorem uA {P:Expr->Prop} (e:Expr) {f:Expr->List Hr->Scope->Pos->Bool} (h:lv e f=true) (k:∀ a b c d,f a b c d=true->P (.ListComp a b c d)):P e :=
 (pk h).elim fun c => @O1.elim (fun e => ∀ c, @O1.elim (fun _=>Bool) e c f=true->P e) e c (fun a b c d _ h=>k a b c d h) c
noncomputable def yn (e:Expr) (f:List (Option Expr)->List Expr->Pos->Bool):Bool:=if h:e.ctorIdx=6 then @Q2.elim (fun _=>Bool) e h f else false
@[elab_as_elim]
theorem Db {P:Expr->Prop} (e:Expr) {f:List (Option Expr)->List Expr->Pos->Bool} (h:yn e f=true) (k:∀ a b c,f a b c=true->P (.Dict a b c)):P e :=
 (pk h).elim fun c => @Q2.elim (fun e => ∀ c, @Q2.elim (fun _=>Bool) e c f=true->P e) e c (fun a b c _ h=>k a b c h) c
noncomputable def fg (e:Stmt) (f:List Expr->Expr->Pos->Bool):Bool:=if h:e.ctorIdx=5 then @Pa.elim (fun _=>Bool) e h f else false
@[elab_as_elim]
theorem iG {P:Stmt->Prop} (e:Stmt) {f:List Expr->Expr->Pos->Bool} (h:fg e f=true) (k:∀ a b c,f a b c=true->P (.Assign a b c)):P e :=
 (pk h).elim fun c => @Pa.elim (fun e => ∀ c, @Pa.elim (fun _=>Bool) e c f=true->P e) e c (fun a b c _ h=>k a b c h) c
noncomputable def ee (e:Stmt) (f:Expr->JT->Expr->Pos->Bool):Bool:=if h:e.ctorIdx=7 then @NI.elim (fun _=>Bool) e h f else false
@[elab_as_elim]
theorem ie {P:Stmt->Prop} (e:Stmt) {f:Expr->JT->Expr->Pos->Bool} (h:ee e f=true) (k:∀ a b c d,f a b c d=true->P (.AugAssign a b c d)):P e :=
 (pk h).elim fun c => @NI.elim (fun e => ∀ c, @NI.elim (fun _=>Bool) e c f=true->P e) e c (fun a b c d _ h=>k a b c d h) c
noncomputable def uB (e:Stmt) (f:Expr->Pos->Bool):Bool:=if h:e.ctorIdx=24 then @Q3.elim (fun _=>Bool) e h f else false
@[elab_as_elim]
theorem BO {P:Stmt->Prop} (e:Stmt) {f:Expr->Pos->Bool} (h:uB e f=true) (k:∀ a b,f a b=true->P (.Expr a b)):P e :=
 (pk h).elim fun c => @Q3.elim (fun e => ∀ c, @Q3.elim (fun _=>Bool) e c f=true->P e) e c (fun a b _ h=>k a b h) c
noncomputable def oD (e:Stmt) (f:Option Expr->Pos->Bool):Bool:=if h:e.ctorIdx=3 then @Pb.elim (fun _=>Bool) e h f else false
@[elab_as_elim]
theorem xt {P:Stmt->Prop} (e:Stmt) {f:Option Expr->Pos->Bool} (h:oD e f=true) (k:∀ a b,f a b=true->P (.Return a b)):P e :=
 (pk h).elim fun c => @Pb.elim (fun e => ∀ c, @Pb.elim (fun _=>Bool) e c f=true->P e) e c (fun a b _ h=>k a b h) c
noncomputable def BP (e:Stmt) (f:Expr->List Stmt->List Stmt->Pos->Bool):Bool:=if h:e.ctorIdx=12 then @Stmt.If.elim (fun _=>Bool) e h f else false
@[elab_as_elim]
theorem DX {P:Stmt->Prop} (e:Stmt) {f:Expr->List Stmt->List Stmt->Pos->Bool} (h:BP e f=true) (k:∀ a b c d,f a b c d=true->P (.If a b c d)):P e :=
 (pk h).elim fun c => @Stmt.If.elim (fun e => ∀ c, @Stmt.If.elim (fun _=>Bool) e c f=true->P e) e c (fun a b c d _ h=>k a b c d h) c
noncomputable def yo (e:Stmt) (f:Expr->Expr->List Stmt->List Stmt->Pos->Bool):Bool:=if h:e.ctorIdx=9 then @Stmt.For.elim (fun _=>Bool) e h f else false
@[elab_as_elim]
theorem Dc {P:Stmt->Prop} (e:Stmt) {f:Expr->Expr->List Stmt->List Stmt->Pos->Bool} (h:yo e f=true) (k:∀ a b c d e,f a b c d e=true->P (.For a b c d e)):P e :=
 (pk h).elim fun c => @Stmt.For.elim (fun e => ∀ c, @Stmt.For.elim (fun _=>Bool) e c f=true->P e) e c (fun a b c d e _ h=>k a b c d e h) c
noncomputable def qc (e:Stmt) (f:Expr->List Stmt->List Stmt->Pos->Bool):Bool:=if h:e.ctorIdx=11 then @PU.elim (fun _=>Bool) e h f else false
@[elab_as_elim]
theorem zO {P:Stmt->Prop} (e:Stmt) {f:Expr->List Stmt->List Stmt->Pos->Bool} (h:qc e f=true) (k:∀ a b c d,f a b c d=true->P (.While a b c d)):P e :=
 (pk h).elim fun c => @PU.elim (fun e => ∀ c, @PU.elim (fun _=>Bool) e c f=true->P e) e c (fun a b c d _ h=>k a b c d h) c
noncomputable def uC (e:Stmt) (f:Pos->Bool):Bool:=if h:e.ctorIdx=25 then @Q4.elim (fun _=>Bool) e h f else false
@[elab_as_elim]
theorem BQ {P:Stmt->Prop} (e:Stmt) {f:Pos->Bool} (h:uC e f=true) (k:∀ a,f a=true->P (.Pass a)):P e :=
 (pk h).elim fun c => @Q4.elim (fun e => ∀ c, @Q4.elim (fun _=>Bool) e c f=true->P e) e c (fun a _ h=>k a h) c
noncomputable def qd (e:Stmt) (f:Pos->Bool):Bool:=if h:e.ctorIdx=26 then @PV.elim (fun _=>Bool) e h f else false
@[elab_as_elim]
theorem zP {P:Stmt->Prop} (e:Stmt) {f:Pos->Bool} (h:qd e f=true) (k:∀ a,f a=true->P (.Break a)):P e :=
 (pk h).elim fun c => @PV.elim (fun e => ∀ c, @PV.elim (fun _=>Bool) e c f=true->P e) e c (fun a _ h=>k a h) c
noncomputable def jz (e:Stmt) (f:Pos->Bool):Bool:=if h:e.ctorIdx=27 then @O6.elim (fun _=>Bool) e h f else false
@[elab_as_elim]
theorem rV {P:Stmt->Prop} (e:Stmt) {f:Pos->Bool} (h:jz e f=true) (k:∀ a,f a=true->P (.Continue a)):P e :=
 (pk h).elim fun c => @O6.elim (fun e => ∀ c, @O6.elim (fun _=>Bool) e c f=true->P e) e c (fun a _ h=>k a h) c
noncomputable def lv0 {α:Type} (xs:List α) (b:Bool):Bool:=xs.isEmpty&&b
noncomputable def lvc {α:Type} (xs:List α) (f : α -> List α -> Bool):Bool:=match xs with
 | y::r=>f y r
 | [] => false
noncomputable def lv1 {α:Type} (xs:List α) (f : α -> Bool):Bool:=lvc xs fun y r=>lv0 r (f y)
noncomputable def lv2 {α:Type} (xs:List α) (f : α -> α -> Bool):Bool:=lvc xs fun y r=>lv1 r (f y)
noncomputable def os {α:Type} (o:Option α) (f : α -> Bool):Bool:=match o with
 | some x=>f x
 | none=>false
noncomputable def on {α:Type} (o:Option α) (b:Bool):Bool:=o.isNone&&b
@[elab_as_elim]
theorem eh {α:Type} {P:List α -> Prop} (xs:List α) {b:Bool} (h:lv0 xs b=true) (k:b=true->P []):P xs:=by
 cases xs with
 | nil=>exact k h
 | cons _ _=>cases h
@[elab_as_elim]
theorem BR {α:Type} {P:List α -> Prop} (xs:List α) {f : α -> List α -> Bool} (h:lvc xs f=true) (k:∀ y r,f y r=true->P (y::r)):P xs:=by
 cases xs with
 | nil=>cases h
 | cons y r=>exact k y r h
@[elab_as_elim]
theorem cQ {α:Type} {P:List α -> Prop} (xs:List α) {f : α -> Bool} (h:lv1 xs f=true) (k:∀ y,f y=true->P [y]):P xs :=
 BR xs h fun y r h=>eh r h fun h=>k y h
@[elab_as_elim]
theorem oE {α:Type} {P:List α -> Prop} (xs:List α) {f : α -> α -> Bool} (h:lv2 xs f=true) (k:∀ y z,f y z=true->P [y,z]):P xs :=
 BR xs h fun y r h=>cQ r h fun z h=>k y z h
@[elab_as_elim]
theorem jos {α:Type} {P:Option α -> Prop} (o:Option α) {f : α -> Bool} (h:os o f=true) (k:∀ x,f x=true->P (some x)):P o:=by
 cases o with
 | none=>cases h
 | some x=>exact k x h
@[elab_as_elim]
theorem jon {α:Type} {P:Option α -> Prop} (o:Option α) {b:Bool} (h:on o b=true) (k:b=true->P none):P o:=by
 cases o with
 | none=>exact k h
 | some x=>cases h
theorem bx {a b:Bool} (h:(a&&b)=true):a=true/\b=true:=by rwa [hH] at h
noncomputable def cJ (e:Expr) (g:Str->List Expr->Bool):Bool:=rS e fun f xs ks _=>lv0 ks (eZ f fun x _=>g x xs)
@[elab_as_elim]
theorem dF {P:Expr->Prop} (e:Expr) {g:Str->List Expr->Bool} (h:cJ e g=true) (k:∀ x xs p pos,g x xs=true->P (.Call (.Name x p) xs [] pos)):P e :=
 ym e h fun f xs ks pos h=>eh ks h fun h=>gO f h fun x p h=>k x xs p pos h
noncomputable def gQ (e:Expr) (g:Expr->Str->List Expr->Pos->Pos->Bool):Bool:=rS e fun f xs ks p=>lv0 ks (jy f fun o n q=>g o n xs q p)
@[elab_as_elim]
theorem jA {P:Expr->Prop} (e:Expr) {g:Expr->Str->List Expr->Pos->Pos->Bool} (h:gQ e g=true) (k:∀ o n xs q p,g o n xs q p=true->P (.Call (.Attribute o n q) xs [] p)):P e :=
 ym e h fun f xs ks pos h=>eh ks h fun h=>rT f h fun o n q h=>k o n xs q pos h
noncomputable def iSl (e:Expr) (g:Expr->Option Expr->Option Expr->Option Expr->Bool):Bool:=ci e fun x y _=>uz y fun l u s _=>g x l u s
@[elab_as_elim]
theorem jSl {P:Expr->Prop} (e:Expr) {g:Expr->Option Expr->Option Expr->Option Expr->Bool} (h:iSl e g=true) (k:∀ x l u s p pos,g x l u s=true->P (.Subscript x (.Slice l u s p) pos)):P e :=
 de e h fun x y pos h=>BN y h fun l u s p h=>k x l u s p pos h
mutual
noncomputable def okG:MG->Ctx->Expr->Bool
 | .name i,C,e=>eZ e fun x _=>decide (C.N[i]? = some x)&&rR C.sc x&&(C.sc.names.lookup x==some .local || C.fn.contains x)
 | .tup gs,C,e=>cI e fun es _ _=>okGs gs C es
noncomputable def okGs:MGs->Ctx->List Expr->Bool
 | .nil,_,es=>es.isEmpty
 | .cons g r,C,es=>match es with
  | e::es=>aO e&&okG g C e&&okGs r C es
  | [] => false
end
mutual
noncomputable def okE:ME->Ctx->Expr->Bool
 | .var i,C,e=>eZ e fun x _=>decide (C.N[i]? = some x)&&xp C.sc x && !(x==("__debug__":Str)) && !(x==("__classdict__":Str))
 | .int i,_,e=>dW e fun c _ _=>decide (c = .int i)
 | .bl i,_,e=>dW e fun c _ _=>decide (c = .bool i)
 | .non,_,e=>dW e fun c _ _=>decide (c = .none)
 | .bin op a b,C,e=>uv e fun l o r _=>decide (o=opO op)&&okE a C l&&okE b C r
 | .neg a,C,e=>fe e fun o x _=>decide (o = .USub)&&okE a C x
 | .cmp op a b,C,e=>iF e fun l os rs _=>lv1 os fun o=>lv1 rs fun r=>decide (o=xq op)&&okE a C l&&okE b C r && !(Kd o r)
 | .and es,C,e=>eI e fun o xs _=>decide (o = .And) && !xs.isEmpty&&okEs es C xs
 | .or es,C,e=>eI e fun o xs _=>decide (o = .Or) && !xs.isEmpty&&okEs es C xs
 | .not a,C,e=>fe e fun o x _=>decide (o = .Not)&&okE a C x
 | .ite c a b,C,e=>uw e fun t x y _=>okT c C t&&okE a C x&&okE b C y
 | .tup es,C,e=>cI e fun xs _ _=>okEs es C xs
 | .lst es,C,e=>yk e fun xs _=>okEs es C xs
 | .ix a b,C,e=>ci e fun x y _=>cv y&&okE a C x&&okE b C y
 | .sl a lo hi,C,e=>iSl e fun x l u s=>on s (okE a C x&&okO lo C l&&okO hi C u)
 | .call f es,C,e=>cJ e fun x xs=>decide (C.Γ[f]? = some x)&&glB C.sc x && !(x==("__debug__":Str))&&okEs es C xs
 | .blt f es,C,e=>cJ e fun x xs=>decide (x=oB f)&&glB C.sc x && !xs.isEmpty&&okEs es C xs
 | .dnew _,_,e=>yn e fun ks vs _=>lv0 ks (lv0 vs true)
 | .sortI a,C,e=>cJ e fun x xs=>lv1 xs fun w=>gQ w fun y n ys ap cp=>lv0 ys (decide (x = "sorted")&&glB C.sc x&&decide (n = "items")&&cw y&&(ap.endLine==cp.line)&&okE a C y)
 | .dget o k x,C,e=>gQ e fun y n xs ap cp=>lv2 xs fun e1 e2=>decide (n = "get")&&cw y&&(ap.endLine==cp.line)&&aO e1&&aO e2&&okE o C y&&okE k C e1&&okE x C e2
 | .meth m o a,C,e=>gQ e fun x n xs ap cp=>lv1 xs fun y=>decide (n=BK m)&&cw x&&(ap.endLine==cp.line)&&aO y&&okE o C x&&okE a C y
 | .meth0 m o,C,e=>gQ e fun x n xs ap cp=>lv0 xs (decide (n=zN m)&&cw x&&(ap.endLine==cp.line)&&okE o C x)
 | .comp fr N' c,C,e=>lv e fun elt gens sc _=>xr sc C.sc C.N N' fr&&okC c C ⟨C.Γ,N',iD sc C.sc,(sc.names.filter (·.2 == .cell)).map (·.1),C.cs⟩ gens elt
noncomputable def okEs:MEs->Ctx->List Expr->Bool
 | .nil,_,es=>es.isEmpty
 | .cons m r,C,es=>match es with
  | e::es=>aO e&&okE m C e&&okEs r C es
  | [] => false
noncomputable def okO:MO->Ctx->Option Expr->Bool
 | .none,_,e=>e.isNone
 | .some m,C,e=>match e with
  | some e=>okE m C e
  | none=>false
noncomputable def okT:MT->Ctx->Expr->Bool
 | .tru m,C,e=>oA e&&okE m C e
 | .cmp op a b,C,e=>iF e fun l os rs _=>lv1 os fun o=>lv1 rs fun r=>decide (o=xq op)&&okE a C l&&okE b C r && !(Kd o r)
 | .and ts,C,e=>eI e fun o xs _=>decide (o = .And) && !xs.isEmpty&&okTs ts C xs
 | .or ts,C,e=>eI e fun o xs _=>decide (o = .Or) && !xs.isEmpty&&okTs ts C xs
 | .not t,C,e=>fe e fun o x _=>decide (o = .Not)&&okT t C x
noncomputable def okTs:MTs->Ctx->List Expr->Bool
 | .nil,_,es=>es.isEmpty
 | .cons m r,C,es=>match es with
  | e::es=>okT m C e&&okTs r C es
  | [] => false
noncomputable def okI:MI->Ctx->Expr->Expr->Bool
 | .seq m,C,_,e=>mm e&&okE m C e
 | .items a,C,t,e=>gQ e fun x n xs ap cp=>lv0 xs (cI t fun _ _ _=>decide (n = "items")&&cw x&&(ap.endLine==cp.line)&&okE a C x)
 | .rng1 a,C,_,e=>cJ e fun x xs=>lv1 xs fun y=>decide (x = "range")&&glB C.sc x&&aO y&&okE a C y
 | .rng2 a b,C,_,e=>cJ e fun x xs=>lv2 xs fun y z=>decide (x = "range")&&glB C.sc x&&aO y&&aO z&&okE a C y&&okE b C z
 | .enum a,C,t,e=>cJ e fun x xs=>lv1 xs fun y=>cI t fun _ _ _=>decide (x = "enumerate")&&glB C.sc x&&aO y&&okE a C y
 | .zip a b,C,t,e=>cJ e fun x xs=>lv2 xs fun y z=>cI t fun _ _ _=>decide (x = "zip")&&glB C.sc x&&aO y&&aO z&&okE a C y&&okE b C z
noncomputable def okC:MC->Ctx->Ctx->List Hr->Expr->Bool
 | .last src g ifs m,Cs,C,gens,elt=>match gens with
  | [⟨t,it,fs,a⟩] => decide (a=0)&&okI src Cs t it&&okG g C t&&okTs ifs C fs&&okE m C elt
  | _=>false
 | .more src g ifs rest,Cs,C,gens,elt=>match gens with
  | ⟨t,it,fs,a⟩::g2::gs=>decide (a=0)&&okI src Cs t it&&okG g C t&&okTs ifs C fs&&okC rest C C (g2::gs) elt
  | _=>false
end
noncomputable def aV (sc:Scope) (ts:List Expr):List Str:=ts.filterMap fun
 | .Name id pos=>if sc.names.lookup id==some .local&&pos.line==(ts.head?.map (·.pos.line)).getD 0 then some id else none
 | _=>none
noncomputable def rW (sc:Scope) (ts vs:List Expr):Bool := !(ts.length==2 || ts.length==3) || vs.length != ts.length || (aV sc ts).length != ts.length || (aV sc ts).eraseDups.length != (aV sc ts).length || vs.all (O7 8)
noncomputable def rX (C:Ctx) (i:Nat) (x:Str):Bool:=decide (C.N[i]? = some x)&&decide (C.sc.names.lookup x=some .local)
noncomputable def rY (sc:Scope) (ts vs:List Expr) (ns:List Str):Bool := !(!(ts.length==2 || ts.length==3) || vs.length != ts.length) && !(vs.any fun | .Starred .. => true | _=>false)&&decide (aV sc ts=ns) && !((aV sc ts).length != ts.length || (aV sc ts).eraseDups.length != (aV sc ts).length) && !(vs.all (O7 8)) && !(vs.all (constantsAlone 8))
noncomputable def jB (sc:Scope) (tg e:Expr):Bool:=match tg,e with
 | .Tuple ts _ _, .Tuple vs _ _=>rW sc ts vs
 | .Tuple ..,_=>true
 | .Name ..,_=>true
 | _,_=>false
noncomputable def BS (sc:Scope) (x:Str) (px:Pos) (e:Expr):Bool:=match e with
 | .DictComp _ _ _ s _ => !(sc.names.lookup x==some .local&&px.line==e.pos.line && !(s.names.any fun (n,k)=>n==x&&(k == .local || k == .cell)))
 | _=>true
noncomputable def rZ (sc:Scope) (x:Str) (px:Pos) (e:Expr):Bool:=match e with
 | .ListComp _ _ s _=>sc.names.lookup x==some .local&&px.line==e.pos.line && !(s.names.any fun (n,k)=>n==x&&(k == .local || k == .cell))
 | _=>false
mutual
noncomputable def okS:MS->Ctx->Stmt->Bool
 | .asg g m,C,s=>fg s fun ts e _=>lv1 ts fun tg=>okG g C tg&&okE m C e&&jB C.sc tg e&&(match tg with | .Name x px=>BS C.sc x px e | _=>g9 e)
 | .par i j a b,C,s=>fg s fun ts e _=>lv1 ts fun tg=>cI tg fun ts _ _=>cI e fun es _ _=>lv2 ts fun t u=>lv2 es fun e f=>eZ t fun x px=>eZ u fun y py=>rX C i x&&rX C j y&&decide (i≠j)&&aO e&&aO f&&okE a C e&&okE b C f&&rY C.sc [.Name x px, .Name y py] [e,f] [x,y]
 | .put o i m,C,s=>fg s fun ts e _=>lv1 ts fun tg=>ci tg fun x y _=>cv y&&g9 e&&okE o C x&&okE i C y&&okE m C e
 | .aug i op m,C,s=>ee s fun t o e _=>eZ t fun x _=>decide (o=opO op)&&(match op with | .add | .sub | .mul | .ext=>true | _=>false)&&decide (C.N[i]? = some x)&&rR C.sc x&&(C.sc.names.lookup x==some .local || C.fn.contains x)&&okE m C e
 | .augI o i op m,C,s=>ee s fun t o' e _=>ci t fun x y _=>decide (o'=opO op)&&(match op with | .add | .sub | .mul=>true | _=>false)&&cv y&&okE o C x&&okE i C y&&okE m C e
 | .drop m,C,s=>uB s fun e _=>g9 e&&okE m C e
 | .ret m,C,s=>oD s fun o _=>os o fun e=>okE m C e
 | .ite c a b,C,s=>BP s fun t x y _=>okT c C t&&okSs a C x&&okSs b C y
 | .for g src b,C,s=>yo s fun tg it body els _=>lv0 els (mm it&&okG g C tg&&okI src C tg it&&okSs b C body)
 | .while c b,C,s=>qc s fun t body els _=>lv0 els (okT c C t&&okSs b C body)
 | .frz _ m,C,s=>okS m C s
 | .pass,_,s=>uC s fun _=>true
 | .brk,_,s=>qd s fun _=>true
 | .cnt,_,s=>jz s fun _=>true
noncomputable def okSs:MSs->Ctx->List Stmt->Bool
 | .nil,_,ss=>ss.isEmpty
 | .cons m r,C,ss=>match ss with
  | s::ss=>okS m C s&&okSs r C ss
  | [] => false
end
theorem ak {e:Expr} {es:List Expr} {env:Env} (h:aO e=true):GN (e::es) env=(false,eval e env)::GN es env:=by
 cases e <;> first | rfl | (simp [aO] at h;done)
theorem lw {e:Expr} {es:List Expr} {env:Env} (h:aO e=true):IB (e::es) env=(false,assign e env)::IB es env:=by
 cases e <;> first | rfl | (simp [aO] at h;done)
theorem s9 {e:Expr} {env:Env} (h:oA e=true):∀ whole,isTrue e env whole=(do let v <- whole;Md e.pos;holding [v] (truthy v)):=by
 intro w
 cases e <;> first | rfl | (simp [oA] at h;done)
theorem xu {e:Expr} (h:cv e=true):jP e:=by
 intro o i
 cases e <;> first | rfl | (simp [cv] at h;done)
theorem uD {e:Expr} {env:Env} (h:mm e=true):∀ x,IP e env x=pure x:=by
 intro x
 cases e <;> first | rfl | (simp [mm] at h;done)
theorem cy {e:Expr} {n:Str} {env:Env} (h:cw e=true):Kg e n env (eval e env)=eval e env:=by
 cases e <;> first | rfl | (simp [cw] at h;done)
theorem kf {e:Expr} {t:Option Expr} {l:Nat} {env:Env} (h:g9 e=true):Kw e t l env=pure false:=by
 cases e <;> first | rfl | (simp [g9] at h;done)
end
section
noncomputable def lSp (K:Frag) (r:RAd):Sp:=fun vs H Q _=>lR K r vs H Q
structure Good (C:Ctx) (Φ:Phi) (k:Nat) (X:Cx):Prop where
 hx:∀ e s,X.xe e s->False
 calm:X.calm=true
 N:X.N=C.N
 sc:X.env.scope=C.sc
 nd:X.N.Nodup
 fn:∀ x∈C.fn,X.fn x=true
 room:Room k X.A
 mgB:∀ x∈bltNames,X.mg x=none
 fns:∀ (i:Nat) (x:Str),C.Γ[i]? = some x -> ∃ f fd ps,X.mg x=some (.ref f)/\KP X.K HK x=some (some (.ref f))/\JV X.K (.ref f)=true/\Binds X.K fd ps []/\dv X.prog X.w X.K X.mg X.base CX0 k f fd ps (lSp X.K (Φ i))
 mono:∀ f,b4 (Φ f)
 cs:∀ x d,(x,d)∈C.cs -> ∃ u,X.mg x=some u/\GV X.K d u
section
variable {C:Ctx} {Φ:Phi} {k:Nat} {X:Cx}
theorem Good.units (G:Good C Φ k X):X.A.units+64 < Ij:=G.room.units
theorem Good.gl (G:Good C Φ k X) {x:Str} (h:glB C.sc x=true):Gl X x:=by
 show X.env.scope.names.lookup x=_;rw [G.sc];simpa [glB] using h
theorem Good.vis (G:Good C Φ k X) {x:Str} (h:xp C.sc x=true):Vis X.env.scope x:=by
 unfold Vis;rw [G.sc];simp [xp] at h
 rcases h with (h | h) | h
 ·exact .inl h
 ·exact .inr (.inl h)
 ·exact .inr (.inr h)
theorem Good.loc (G:Good C Φ k X) {x:Str} (h:rR C.sc x=true):Loc X.env.scope x:=by
 unfold Loc;rw [G.sc];simpa [rR] using h
theorem Good.own (G:Good C Φ k X) {x:Str} (h:(C.sc.names.lookup x==some .local || C.fn.contains x)=true):X.fn x=true∨X.env.scope.names.lookup x=some .local:=by
 rw [G.sc];simp at h
 rcases h with h | h
 ·exact .inr h
 ·exact .inl (G.fn x h)
theorem BU (G:Good C Φ k X):∀ o:BOp,OpR X (I9 (opO o)) (l2 X.K (opB o))
 | .add=>mX | .sub=>wd | .mul=>we | .fdiv=>tI | .mod=>wg | .pow=>wj | .ext=>mX
theorem qe (G:Good C Φ k X):∀ o:COp,OpR X (I7 (xq o)) (l2 X.K (opC o))
 | .eq=>zc (by have:=G.units;lia) | .ne=>ze (by have:=G.units;lia) | .lt=>zi| .gt=>zj | .ge=>zk| .isn=>wP| .inS=>xa| .ninD=>uq (by have:=G.units;lia)
theorem BV (G:Good C Φ k X) {f:BF} {e:Expr} {es:List Expr} {t:TAd} {p pos:Pos} (mt:aU t) (q:Gl X (oB f)) (z:PA X (e::es) (lA X.K t))
 (he:GN (e::es) X.env=(false,eval e X.env)::GN es X.env) (j:(KI pos (GN es X.env)).any (·.1)=false):PE X (.Call (.Name (oB f) p) (e::es) [] pos) (lE X.K (wAr (opF f) t)):=by
 cases f with
 | sortl=>exact PE.imp (cl (ot (by have:=G.units;lia)) q (G.mgB _ (by decide)) (by decide +kernel) z (by decide) (by decide) he j) (bI jx mt)
 | len=>exact PE.imp (cl rl q (G.mgB _ (by decide)) PySem.boot_len z (by decide) (by decide) he j) (bI n4 mt)
 | abs=>exact PE.imp (cl rn q (G.mgB _ (by decide)) (by decide +kernel) z (by decide) (by decide) he j) (bI n9 mt)
 | min2=>exact PE.imp (cl (pq G.calm) q (G.mgB _ (by decide)) (by decide +kernel) z (by decide) (by decide) he j) (bI kQ mt)
 | int=>exact PE.imp (kI rp q (G.mgB _ (by decide)) (by decide +kernel) z (by decide) (by decide) he j) (bI nc mt)
 | tuple=>exact PE.imp (kI nh q (G.mgB _ (by decide)) (by decide +kernel) z (by decide) (by decide) he j) (bI j7 mt)
 | sum=>exact PE.imp (cl (rA G.calm) q (G.mgB _ (by decide)) (by decide +kernel) z (by decide) (by decide) he j) (bI ni mt)
 | sorted=>exact PE.imp (cl (lW (by have:=G.units;lia)) q (G.mgB _ (by decide)) (by decide +kernel) z (by decide) (by decide) he j) (bI i9 mt)
theorem zQ (G:Good C Φ k X) {f:Nat} {x:Str} {e:Expr} {es:List Expr} {t:TAd} {p pos:Pos} (mt:aU t) (hf:C.Γ[f]? = some x) (z:Gl X x) (j:(x==("__debug__":Str))=false) (B:PA X (e::es) (lA X.K t))
 (he:GN (e::es) X.env=(false,eval e X.env)::GN es X.env) (q:(KI pos (GN es X.env)).any (·.1)=false):PE X (.Call (.Name x p) (e::es) [] pos) (lE X.K (wAr (Φ f) t)):=by
 obtain ⟨a,fd,ps,hm,_,J,L,F⟩:=G.fns f x hf;refine PE.imp (yQ F G.room z hm J L .nil y8 B j he q) fun σ H Q h => ?_;have h2:=bI (G.mono f) mt σ H Q h;have:(fun vs H1=>lSp X.K (Φ f) (vs++[]) H1 Q E0)=fun vs H1=>lR X.K (Φ f) vs H1 Q:=by
  funext vs H1;rw [HU];rfl
 show (lA X.K t) σ H _;rw [this];exact h2
theorem xv (G:Good C Φ k X) {f:Nat} {x:Str} {p pos:Pos} (hf:C.Γ[f]? = some x) (z:Gl X x) (j:(x==("__debug__":Str))=false):PE X (.Call (.Name x p) [] [] pos) (lE X.K (wAr (Φ f) bB)):=by
 obtain ⟨a,fd,ps,hm,_,B,J,F⟩:=G.fns f x hf;refine PE.imp (vM F G.room z hm B J .nil y8 j) fun σ H Q h => ?_;obtain ⟨ρ,M,rs,rm,q⟩:=h;exact ⟨[],M,rm,RDs.nil,q⟩
theorem iH {env:Env} {pos:Pos}:∀ {es:List Expr},es.all aO=true->(KI pos (GN es env)).any (·.1)=false
 | [],_=>rfl
 | e::es,h=>by
   simp only [JN,hH] at h;rw [ak h.1];show (false || (KI pos (GN es env)).any (·.1))=false
   rw [iH h.2];rfl
theorem gc:∀ {ms:MEs} {es:List Expr},okEs ms C es=true->es.all aO=true
 | .nil,[],_=>rfl
 | .nil,_::_,h=>by simp [okEs] at h
 | .cons m r,[],h=>by simp [okEs] at h
 | .cons m r,e::es,h=>by
  simp only [okEs,hH] at h;simp only [JN,hH];exact ⟨h.1.1,gc h.2⟩
theorem qf:∀ {gs:MGs} {es:List Expr},okGs gs C es=true -> ∀ ds ρ ρ',bGs gs ds ρ = some ρ'->ds.length=es.length
 | .nil,es,h,ds, ρ, ρ',e=>by
  simp [okGs] at h;subst h;rw [bGs] at e
  cases ds with
  | nil=>rfl
  | cons _ _=>cases e
 | .cons g r,[],h,_,_,_,_=>by simp [okGs] at h
 | .cons g r,x::es,h,ds, ρ, ρ',e=>by
  simp only [okGs,hH] at h;rw [bGs] at e
  cases ds with
  | nil=>cases e
  | cons d ds =>
    simp only [bJ] at e
    cases e1:bG g d ρ with
    | none=>rw [e1] at e;cases e
    | some ρ1 =>
      rw [e1] at e;simp [qf h.2 ds ρ1 ρ' e]
theorem oF {env:Env}:∀ {gs:MGs} {es:List Expr},okGs gs C es=true->(IB es env).length=es.length/\(IB es env).findIdx? (·.1)=none
 | .nil,es,h=>by simp [okGs] at h;subst h;exact ⟨rfl,rfl⟩
 | .cons g r,[],h=>by simp [okGs] at h
 | .cons g r,x::es,h=>by
  simp only [okGs,hH] at h;obtain ⟨a,b⟩:=oF (env:=env) h.2;rw [lw h.1.1];refine ⟨by simp [a], ?_⟩
  rw [List.findIdx?_cons];simp [b]
mutual
theorem sG (G:Good C Φ k X):∀ (m:MG) (e:Expr),okG m C e=true->PG X e (lG X.K (bG m))
 | .name i,e,h=>by
  refine gO e h fun x _ h => ?_;simp only [hH] at h;exact zw G.nd (by rw [G.N];exact of_decide_eq_true h.1.1) (G.loc h.1.2) (G.own h.2)
 | .tup gs,e,h=>by
  refine dE e h fun es _ _ h => ?_;rw [bG];obtain ⟨a,b⟩:=oF (env:=X.env) h;exact Bs G.calm (qf h) (sGs G gs _ h) a b
theorem sGs (G:Good C Φ k X):∀ (m:MGs) (es:List Expr),okGs m C es=true->PGs X es (lGs X.K (bGs m))
 | .nil,es,h=>by
  simp [okGs] at h;subst h;exact zx
 | .cons g r,[],h=>by simp [okGs] at h
 | .cons g r,e::es,h=>by
  simp only [okGs,hH] at h;exact wt (sG G g e h.1.2) (sGs G r es h.2) (by rw [lw h.1.1];rfl)
end
theorem PB.imp {F:Sem Fin->Sem Fin} {t t':TC} (h:PB X F t) (i:∀ σ H N,t' σ H N->t σ H N):PB X F t':=fun pins s σ H N k Q E I q hk=>h pins s σ H N k Q E I (i _ _ _ q) hk
theorem jC {sc osc:Scope} {oN N':List Str} {fr:List (Option Nat)} (h:xr sc osc oN N' fr=true):aX sc osc oN N' fr:=by
 simp only [xr,hH,decide_eq_true_eq] at h;obtain ⟨⟨⟨⟨⟨h1,h2⟩,F⟩,G⟩,J⟩,L⟩:=h;refine ⟨h1,h2,F,fun x hx e => ?_,J,fun i j x hi hf => ?_⟩
 ·have z:=Ld.mp G x hx;rw [e] at z;simpa using z
 ·have B:i < N'.length:=(GB.mp hi).1;have q:=Ld.mp L i (GL.mpr B);rw [hf,hi] at q;simp only [hH,decide_eq_true_eq,K6] at q;obtain ⟨a,y,O,e⟩:=q;exact ⟨a,by rw [<- e];exact O⟩
theorem Good.blk (G:Good C Φ k X) {sc:Scope} {N':List Str} {fr:List (Option Nat)} (B:aX sc C.sc C.N N' fr) (s:h7) (H:Hp) (fp:List Addr) :
 Good ⟨C.Γ,N',iD sc C.sc,(sc.names.filter (·.2 == .cell)).map (·.1),C.cs⟩ Φ k (aD X sc N' s H fp):=by
 refine ⟨fun _ _ h=>h,G.calm,rfl, ?_,B.ndN,fun x hx => ?_,G.room,G.mgB,G.fns,G.mono,G.cs⟩
 ·show relabel sc X.env=_;rw [pG,G.sc]
 ·obtain ⟨y,q,e⟩:=Gk.mp hx;obtain ⟨h1,h2⟩:=IT.mp q;obtain ⟨n,kd⟩:=y;have j:kd = .cell:=by simpa using h2
  subst j;have e':n=x:=e;subst e';show (sc.names.lookup n==some .cell)=true;rw [aQ B.nd h1];rfl
end
end
section
section
variable {Φ:Phi} {k:Nat}
theorem dj {C:Ctx} {X:Cx} (G:Good C Φ k X) {F:Sem Fin->Sem Fin} {p:Addr} {tb:TCd} {ifs:List Expr} {ts:List TTd} (mb:bM tb) (mt:∀ t∈ts,aC t) (j:PB X F (lC X.K p tb)) (q:HD (fun c t=>PT X c t) ifs (ts.map (lT X.K))) :
 PB X (fun k=>ba ifs X.env >>= fun ok=>if ok=true then F k else k) (lC X.K p (be ts tb)) :=
 PB.imp (vY G.hx j q) (ji mb mt)
theorem gd {m:MC} {Cs C:Ctx} {g2:Hr} {gs:List Hr} {elt:Expr} (h:okC m Cs C (g2::gs) elt=true):g2.is_async=0:=by
 obtain ⟨t,i,f,a⟩:=g2
 cases m with
 | last src g ifs m =>
   cases gs with
   | nil=>simp only [okC,hH,decide_eq_true_eq] at h;exact h.1.1.1.1
   | cons _ _=>simp [okC] at h
 | more src g ifs rest =>
   cases gs with
   | nil=>simp [okC] at h
   | cons _ _=>simp only [okC,hH,decide_eq_true_eq] at h;exact h.1.1.1.1
mutual
theorem sE:∀ (m:ME) {C:Ctx} {X:Cx} (G:Good C Φ k X) (e:Expr),okE m C e=true->PE X e (lE X.K (wE Φ m))
 | .var i,C,X,G,e,h=>by
  refine gO e h fun x _ h => ?_;simp only [hH,Iq,decide_eq_true_eq] at h;exact Be (by rw [G.N];exact h.1.1.1) (G.vis h.1.1.2) h.1.2 h.2
 | .int i,C,X,G,e,h=>by
  refine gb e h fun c _ _ h => ?_;rw [of_decide_eq_true h];exact Bf
 | .bl i,C,X,G,e,h=>by
  refine gb e h fun c _ _ h => ?_;rw [of_decide_eq_true h];exact CP
 | .non,C,X,G,e,h=>by
  refine gb e h fun c _ _ h => ?_;rw [of_decide_eq_true h];exact Bg
 | .bin op a b,C,X,G,e,h=>by
  refine BL e h fun l o r _ h => ?_;simp only [hH,decide_eq_true_eq] at h;rw [h.1.1];exact CQ (BU G op) (ox op) (mE G.mono a) (mE G.mono b) (sE a G _ h.1.2) (sE b G _ h.2)
 | .neg a,C,X,G,e,h=>by
  refine iE e h fun o x _ h => ?_;replace h:=bx h;obtain ⟨ho,h⟩:=h
  cases of_decide_eq_true ho
  exact CS wk mY (mE G.mono a) (sE a G _ h)
 | .cmp op a b,C,X,G,e,h=>by
  refine oC e h fun l os rs pos h => ?_;refine cQ os h fun o h => ?_;refine cQ rs h fun r h => ?_;simp only [hH,decide_eq_true_eq] at h;obtain ⟨⟨⟨ho,U⟩,hb⟩,hm⟩:=h;rw [Iq] at hm;subst ho;exact Bh (qe G op) (eY op) (mE G.mono a) (mE G.mono b) (sE a G _ U) (sE b G _ hb) hm
 | .and es,C,X,G,e,h=>by
  refine gP e h fun o xs _ h => ?_;replace h:=bx h;obtain ⟨ho,h⟩:=h;obtain ⟨ho,q⟩:=bx ho
  cases of_decide_eq_true ho
  exact sAnds es G _ _ h (by intro z;rw [z] at q;cases q)
 | .or es,C,X,G,e,h=>by
  refine gP e h fun o xs _ h => ?_;replace h:=bx h;obtain ⟨ho,h⟩:=h;obtain ⟨ho,q⟩:=bx ho
  cases of_decide_eq_true ho
  exact sOrs es G _ _ h (by intro z;rw [z] at q;cases q)
 | .not a,C,X,G,e,h=>by
  refine iE e h fun o x _ h => ?_;replace h:=bx h;obtain ⟨ho,h⟩:=h
  cases of_decide_eq_true ho
  exact Br (mE G.mono a) (sE a G _ h)
 | .ite c a b,C,X,G,e,h=>by
  refine BM e h fun t x y _ h => ?_;simp only [hH] at h;exact CZ (mT G.mono c) (mE G.mono a) (mE G.mono b) (sT c G _ h.1.1) (sE a G _ h.1.2) (sE b G _ h.2)
 | .tup es,C,X,G,e,h=>by
  refine dE e h fun xs _ _ h => ?_;exact Bj (mA G.mono es) (sA es G _ h)
 | .lst es,C,X,G,e,h=>by
  refine Da e h fun xs _ h => ?_;exact Bk (mA G.mono es) (sA es G _ h)
 | .ix a b,C,X,G,e,h=>by
  refine de e h fun x y _ h => ?_;simp only [hH] at h;exact CT (DT (by have:=G.units;lia)) pT (mE G.mono a) (mE G.mono b) (sE a G _ h.1.2) (sE b G _ h.2) (xu h.1.1)
 | .sl a lo hi,C,X,G,e,h=>by
  refine jSl e h fun x l u s p pos h => ?_;refine jon s h fun  h => ?_;simp only [hH] at h;exact D3 (mE G.mono a) (mO G.mono lo) (mO G.mono hi) (sE a G _ h.1.1) (sO lo G _ h.1.2) (sO hi G _ h.2)
 | .call f es,C,X,G,e,h=>by
  refine dF e h fun x xs p pos h => ?_;simp only [hH,decide_eq_true_eq,Iq] at h;have Y:=sA es G _ h.2;have J:=gc h.2
  cases xs with
  | nil =>
    cases es with
    | nil=>exact xv G h.1.1.1 (G.gl h.1.1.2) h.1.2
    | cons _ _=>simp [okEs] at h
  | cons y ys =>
    simp only [JN,hH] at J;exact zQ G (mA G.mono es) h.1.1.1 (G.gl h.1.1.2) h.1.2 Y (ak J.1) (iH J.2)
 | .blt f es,C,X,G,e,h=>by
  refine dF e h fun x xs p pos h => ?_;simp only [hH,decide_eq_true_eq,Iq] at h;have Y:=sA es G _ h.2;have J:=gc h.2;obtain ⟨⟨⟨rfl,O⟩,q⟩,_⟩:=h
  cases xs with
  | nil=>simp at q
  | cons y ys =>
    simp only [JN,hH] at J;exact BV G (mA G.mono es) (G.gl O) Y (ak J.1) (iH J.2)
 | .dnew t,C,X,G,e,h=>by
  refine Db e h fun ks vs _ h => ?_;refine eh ks h fun  h => ?_;refine eh vs h fun  h => ?_;exact zC
 | .sortI a,C,X,G,e,h=>by
  refine dF e h fun x xs p pos h => ?_;refine cQ xs h fun w h => ?_;refine jA w h fun y n ys ap cp h => ?_;refine eh ys h fun  h => ?_;simp only [hH,decide_eq_true_eq] at h;obtain ⟨⟨⟨⟨⟨rfl,O⟩,rfl⟩,j⟩,L⟩,U⟩:=h;exact wX (by have:=G.units;lia) (mE G.mono a) G.calm (sE a G _ U) (G.gl O) (G.mgB _ (by decide)) (cy j) L
 | .dget o k' x,C,X,G,e,h=>by
  refine jA e h fun y n xs ap cp h => ?_;refine oE xs h fun e1 e2 h => ?_;simp only [hH,decide_eq_true_eq] at h;obtain ⟨⟨⟨⟨⟨⟨⟨rfl,j⟩,L⟩,Z⟩,E3⟩,ho⟩,hk⟩,hx⟩:=h;have st:GN [e1,e2] X.env=[(false,eval e1 X.env),(false,eval e2 X.env)]:=by
   rw [ak Z,ak E3];rfl
  refine zL (by have:=G.units;lia) (mE G.mono o) (mE G.mono k') (mE G.mono x) (sE o G _ ho) (sE k' G _ hk) (sE x G _ hx) ⟨cy j, ?_,L, ?_⟩
  ·rw [st];rfl
  ·rw [st];rfl
 | .meth m o a,C,X,G,e,h=>by
  refine jA e h fun x n xs ap cp h => ?_;refine cQ xs h fun y h => ?_;simp only [hH,decide_eq_true_eq] at h;obtain ⟨⟨⟨⟨⟨hn,j⟩,L⟩,hs⟩,ho⟩,U⟩:=h;subst hn;have pa:PA X [y] (lA X.K (b8 (wE Φ a) bB)):=bu (mE G.mono a) au (sE a G _ U) dA (ak hs);have few:((KI cp (GN [y] X.env)).all (fun x => !x.1)&&(backToKw cp (P4 [] X.env)).all (fun x=>x.1.isSome)&&decide (([y]:List Expr).length+([]:List MU).length+(if ([]:List MU).isEmpty then 0 else 1) < 30))=true:=by
   rw [ak hs];rfl
  cases m with
  | append=>exact PE.imp (CK KH PySem.F.slot_list_append PySem.F.type_list_append kJ (sE o G _ ho) pa (cy j) few L (ak hs) rfl) (zt i6 (mE G.mono o) (ao (mE G.mono a) au) wq)
 | .meth0 m o,C,X,G,e,h=>by
  refine jA e h fun x n xs ap cp h => ?_;refine eh xs h fun  h => ?_;simp only [hH,decide_eq_true_eq] at h;obtain ⟨⟨⟨hn,j⟩,L⟩,ho⟩:=h;subst hn
  cases m with
  | clear=>exact PE.imp (t8 KH PySem.F.slot_list_clear PySem.F.type_list_clear vP (sE o G _ ho) (cy j) L) (nv jd (mE G.mono o) zu)
  | pop0=>exact PE.imp (t8 KH PySem.F.slot_list_pop PySem.F.type_list_pop B5 (sE o G _ ho) (cy j) L) (nv oh (mE G.mono o) D7)
 | .comp fr N' c,C,X,G,e,h=>by
  refine uA e h fun elt gens sc pos h => ?_;simp only [hH] at h;have B:aX sc X.env.scope X.N N' fr:=by rw [G.sc,G.N];exact jC h.1
  have B':aX sc C.sc C.N N' fr:=jC h.1
  cases c with
  | last src g ifs m =>
    have h2:=h.2;simp only [okC] at h2
    split at h2
    ·rename_i t it fs a;simp only [hH,decide_eq_true_eq] at h2;obtain ⟨⟨⟨⟨rfl,hi⟩,O⟩,ht⟩,he⟩:=h2;refine PE.imp (i5 G.calm G.hx B (fun g' z=>by simp at z) (sI src G _ t hi).1 (fun s H fp=>sG (G.blk B' s H fp) g t O) (tb:=fun p=>lC X.K p (be (wTl Φ ifs) (dP (wE Φ m)))) (fun s H fp p => ?_) (sI src G _ t hi).2) (dQ (mI G.mono src) (aK (bj (mE G.mono m)) (mTl G.mono ifs)))
     have G':=G.blk B' s H fp;exact dj (p:=p) G' (bj (mE G.mono m)) (mTl G.mono ifs) (PB.imp (jR G'.hx (sE m G' elt he) rfl) (fN (mE G.mono m))) (sTl ifs G' fs ht)
    ·cases h2
  | more src g ifs rest =>
    have h2:=h.2;simp only [okC] at h2
    split at h2
    ·rename_i t it fs a g2 gs;simp only [hH,decide_eq_true_eq] at h2;obtain ⟨⟨⟨⟨rfl,hi⟩,O⟩,ht⟩,he⟩:=h2;have E4:∀ g',(g2::gs)[0]? = some g'->g'.is_async=0:=fun g' z=>by
      have z':g2=g':=by simpa using z
      subst z';exact gd he
     refine PE.imp (i5 G.calm G.hx B E4 (sI src G _ t hi).1 (fun s H fp=>sG (G.blk B' s H fp) g t O) (tb:=fun p=>lC X.K p (be (wTl Φ ifs) (wCl Φ rest))) (fun s H fp p => ?_) (sI src G _ t hi).2) (dQ (mI G.mono src) (aK (mCl G.mono rest) (mTl G.mono ifs)));have G':=G.blk B' s H fp;exact dj (p:=p) G' (mCl G.mono rest) (mTl G.mono ifs) (sCl rest G' elt (⟨t,it,fs,0⟩::g2::gs) sc pos 0 (.inl rfl) p he) (sTl ifs G' fs ht)
    ·cases h2
theorem sA:∀ (m:MEs) {C:Ctx} {X:Cx} (G:Good C Φ k X) (es:List Expr),okEs m C es=true->PA X es (lA X.K (wA Φ m))
 | .nil,C,X,G,es,h=>by
  simp [okEs] at h;subst h;exact dA
 | .cons m r,C,X,G,[],h=>by simp [okEs] at h
 | .cons m r,C,X,G,e::es,h=>by
  simp only [okEs,hH] at h;exact bu (mE G.mono m) (mA G.mono r) (sE m G e h.1.2) (sA r G es h.2) (ak h.1.1)
theorem sAnds:∀ (m:MEs) {C:Ctx} {X:Cx} (G:Good C Φ k X) (es:List Expr) (pos:Pos),okEs m C es=true->es≠[]->PE X (.BoolOp .And es pos) (lE X.K (wAnds Φ m))
 | .nil,C,X,G,es,pos,h,j=>by simp [okEs] at h;exact absurd h j
 | .cons m r,C,X,G,[],pos,h,j=>absurd rfl j
 | .cons m .nil,C,X,G,e::es,pos,h,_=>by
  simp only [okEs,hH] at h;obtain ⟨h1,h2⟩:=h;simp at h2;subst h2;exact tN (sE m G e h1.2)
 | .cons m (.cons m2 r),C,X,G,e::es,pos,h,_=>by
  simp only [okEs,hH] at h;obtain ⟨h1,h2⟩:=h
  cases es with
  | nil=>simp at h2
  | cons f fs =>
    exact Bq (mE G.mono m) (mAnds G.mono _) (sE m G e h1.2) (sAnds (.cons m2 r) G (f::fs) pos (by simpa only [okEs,hH] using h2) (by simp))
theorem sOrs:∀ (m:MEs) {C:Ctx} {X:Cx} (G:Good C Φ k X) (es:List Expr) (pos:Pos),okEs m C es=true->es≠[]->PE X (.BoolOp .Or es pos) (lE X.K (wOrs Φ m))
 | .nil,C,X,G,es,pos,h,j=>by simp [okEs] at h;exact absurd h j
 | .cons m r,C,X,G,[],pos,h,j=>absurd rfl j
 | .cons m .nil,C,X,G,e::es,pos,h,_=>by
  simp only [okEs,hH] at h;obtain ⟨h1,h2⟩:=h;simp at h2;subst h2;exact tN (sE m G e h1.2)
 | .cons m (.cons m2 r),C,X,G,e::es,pos,h,_=>by
  simp only [okEs,hH] at h;obtain ⟨h1,h2⟩:=h
  cases es with
  | nil=>simp at h2
  | cons f fs =>
    exact CY (mE G.mono m) (mOrs G.mono _) (sE m G e h1.2) (sOrs (.cons m2 r) G (f::fs) pos (by simpa only [okEs,hH] using h2) (by simp))
theorem sO:∀ (m:MO) {C:Ctx} {X:Cx} (G:Good C Φ k X) (e:Option Expr),okO m C e=true->PO X e (lO X.K (wO Φ m))
 | .none,C,X,G,e,h=>by
  simp [okO] at h;subst h;exact zp
 | .some m,C,X,G,none,h=>by simp [okO] at h
 | .some m,C,X,G,some e,h=>by
  simp only [okO] at h;exact zq (mE G.mono m) (sE m G e h)
theorem sT:∀ (m:MT) {C:Ctx} {X:Cx} (G:Good C Φ k X) (e:Expr),okT m C e=true->PT X e (lT X.K (wT Φ m))
 | .tru m,C,X,G,e,h=>by
  simp only [okT,hH] at h;exact Bm (mE G.mono m) (sE m G e h.2) (s9 h.1)
 | .cmp op a b,C,X,G,e,h=>by
  refine oC e h fun l os rs pos h => ?_;refine cQ os h fun o h => ?_;refine cQ rs h fun r h => ?_;simp only [hH,decide_eq_true_eq] at h;obtain ⟨⟨⟨ho,q⟩,B⟩,hm⟩:=h;rw [Iq] at hm;subst ho;exact Bi (qe G op) (eY op) (mE G.mono a) (mE G.mono b) (sE a G _ q) (sE b G _ B) hm
 | .and ts,C,X,G,e,h=>by
  refine gP e h fun o xs _ h => ?_;replace h:=bx h;obtain ⟨ho,h⟩:=h;obtain ⟨ho,j⟩:=bx ho
  cases of_decide_eq_true ho
  exact (sAndTs ts G _ _ h (by intro z;rw [z] at j;cases j)).pt
 | .or ts,C,X,G,e,h=>by
  refine gP e h fun o xs _ h => ?_;replace h:=bx h;obtain ⟨ho,h⟩:=h;obtain ⟨ho,j⟩:=bx ho
  cases of_decide_eq_true ho
  exact (sOrTs ts G _ _ h (by intro z;rw [z] at j;cases j)).pt
 | .not t,C,X,G,e,h=>by
  refine iE e h fun o x _ h => ?_;replace h:=bx h;obtain ⟨ho,h⟩:=h
  cases of_decide_eq_true ho
  exact Bn (mT G.mono t) (sT t G _ h)
theorem sAndTs:∀ (m:MTs) {C:Ctx} {X:Cx} (G:Good C Φ k X) (es:List Expr) (pos:Pos),okTs m C es=true->es≠[]->PW X (.BoolOp .And es pos) (lT X.K (wAndTs Φ m))
 | .nil,C,X,G,es,pos,h,j=>by simp [okTs] at h;exact absurd h j
 | .cons m r,C,X,G,[],pos,h,j=>absurd rfl j
 | .cons m .nil,C,X,G,e::es,pos,h,_=>by
  simp only [okTs,hH] at h;obtain ⟨h1,h2⟩:=h;simp at h2;subst h2;exact zn (sT m G e h1)
 | .cons m (.cons m2 r),C,X,G,e::es,pos,h,_=>by
  simp only [okTs,hH] at h;obtain ⟨h1,h2⟩:=h
  cases es with
  | nil=>simp at h2
  | cons f fs =>
    exact Bp (mT G.mono m) (mAndTs G.mono _) (sT m G e h1) (sAndTs (.cons m2 r) G (f::fs) pos (by simpa only [okTs,hH] using h2) (by simp))
theorem sOrTs:∀ (m:MTs) {C:Ctx} {X:Cx} (G:Good C Φ k X) (es:List Expr) (pos:Pos),okTs m C es=true->es≠[]->PW X (.BoolOp .Or es pos) (lT X.K (wOrTs Φ m))
 | .nil,C,X,G,es,pos,h,j=>by simp [okTs] at h;exact absurd h j
 | .cons m r,C,X,G,[],pos,h,j=>absurd rfl j
 | .cons m .nil,C,X,G,e::es,pos,h,_=>by
  simp only [okTs,hH] at h;obtain ⟨h1,h2⟩:=h;simp at h2;subst h2;exact Bo (sT m G e h1)
 | .cons m (.cons m2 r),C,X,G,e::es,pos,h,_=>by
  simp only [okTs,hH] at h;obtain ⟨h1,h2⟩:=h
  cases es with
  | nil=>simp at h2
  | cons f fs =>
    exact CW (mT G.mono m) (mOrTs G.mono _) (sT m G e h1) (sOrTs (.cons m2 r) G (f::fs) pos (by simpa only [okTs,hH] using h2) (by simp))
theorem sTl:∀ (m:MTs) {C:Ctx} {X:Cx} (G:Good C Φ k X) (es:List Expr),okTs m C es=true->HD (fun c t=>PT X c t) es ((wTl Φ m).map (lT X.K))
 | .nil,C,X,G,es,h=>by
  simp [okTs] at h;subst h;exact .nil
 | .cons m r,C,X,G,[],h=>by simp [okTs] at h
 | .cons m r,C,X,G,e::es,h=>by
  simp only [okTs,hH] at h;exact .cons (sT m G e h.1) (sTl r G es h.2)
theorem sI:∀ (m:MI) {C:Ctx} {X:Cx} (G:Good C Φ k X) (e tg:Expr),okI m C tg e=true->PI X tg e (lI X.K (wI Φ m)) /\ ∀ x,IP e X.env x=pure x
 | .seq m,C,X,G,e,tg,h=>by
  simp only [okI,hH] at h;exact ⟨Bv (mE G.mono m) (sE m G e h.2),uD h.1⟩
 | .rng1 a,C,X,G,e,tg,h=>by
  refine dF e h fun x xs p pos h => ?_;refine cQ xs h fun y h => ?_;simp only [hH,decide_eq_true_eq] at h;obtain ⟨⟨⟨rfl,B⟩,hs⟩,q⟩:=h;exact ⟨zy (ao (mE G.mono a) au) (G.gl B) (G.mgB _ (by decide)) (bu (mE G.mono a) au (sE a G _ q) dA (ak hs)) (ak hs),fun x=>rfl⟩
 | .rng2 a b,C,X,G,e,tg,h=>by
  refine dF e h fun x xs p pos h => ?_;refine oE xs h fun y z h => ?_;simp only [hH,decide_eq_true_eq] at h;obtain ⟨⟨⟨⟨⟨rfl,B⟩,hs⟩,j⟩,q⟩,F⟩:=h;exact ⟨zz (ao (mE G.mono a) (ao (mE G.mono b) au)) (G.gl B) (G.mgB _ (by decide)) (bu (mE G.mono a) (ao (mE G.mono b) au) (sE a G _ q) (bu (mE G.mono b) au (sE b G _ F) dA (ak j)) (ak hs)) (by rw [ak hs,ak j];rfl) (ak j),fun x=>rfl⟩
 | .enum a,C,X,G,e,tg,h=>by
  refine dF e h fun x xs p pos h => ?_;refine cQ xs h fun y h => ?_;refine dE tg h fun ts kt pt h => ?_;simp only [hH,decide_eq_true_eq] at h;obtain ⟨⟨⟨rfl,B⟩,hs⟩,q⟩:=h;exact ⟨zA (mE G.mono a) (G.gl B) (G.mgB _ (by decide)) (bu (mE G.mono a) au (sE a G _ q) dA (ak hs)) (ak hs),fun x=>rfl⟩
 | .items a,C,X,G,e,tg,h=>by
  refine jA e h fun x n xs ap cp h => ?_;refine eh xs h fun  h => ?_;refine dE tg h fun ts kt pt h => ?_;simp only [hH,decide_eq_true_eq] at h;obtain ⟨⟨⟨rfl,J⟩,L⟩,q⟩:=h;exact ⟨xk (mE G.mono a) (sE a G _ q) (cy J) L,fun x=>rfl⟩
 | .zip a b,C,X,G,e,tg,h=>by
  refine dF e h fun x xs p pos h => ?_;refine oE xs h fun y z h => ?_;refine dE tg h fun ts kt pt h => ?_;simp only [hH,decide_eq_true_eq] at h;obtain ⟨⟨⟨⟨⟨rfl,B⟩,hs⟩,j⟩,q⟩,F⟩:=h;exact ⟨By (mE G.mono a) (mE G.mono b) (G.gl B) (G.mgB _ (by decide)) (bu (mE G.mono a) (ao (mE G.mono b) au) (sE a G _ q) (bu (mE G.mono b) au (sE b G _ F) dA (ak j)) (ak hs)) (by rw [ak hs,ak j];rfl) (ak j),fun x=>rfl⟩
theorem sCl:∀ (m:MC) {C:Ctx} {X:Cx} (G:Good C Φ k X) (elt:Expr) (gens:List Hr) (sc:Scope) (pos:Pos) (d:Nat) (_:d=0∨d=d) (p:Addr),okC m C C (gens.drop (d+1)) elt=true ->
 PB X (aW elt gens sc pos d (.ref p) X.env) (lC X.K p (wCl Φ m))
 | .last src g ifs m,C,X,G,elt,gens,sc,pos,d,_,p,h=>by
  simp only [okC] at h
  split at h
  ·rename_i t it fs a hd;simp only [hH,decide_eq_true_eq] at h;obtain ⟨⟨⟨⟨rfl,hi⟩,j⟩,q⟩,he⟩:=h;have e1:gens[d+1]? = some ⟨t,it,fs,0⟩:=by
    have z:(gens.drop (d+1))[0]? = some ⟨t,it,fs,0⟩:=by rw [hd];rfl
    rw [Kt] at z;simpa using z
   have e2:gens[d+1+1]? = none:=by
    have z:(gens.drop (d+1))[1]? = none:=by rw [hd];rfl
    rw [Kt] at z;simpa using z
   refine PB.imp (kN G.hx G.calm e1 (fun g' z=>by rw [e2] at z;cases z) (sI src G _ t hi).1 (sG G g t j) (dj (p:=p) G (bj (mE G.mono m)) (mTl G.mono ifs) (PB.imp (jR G.hx (sE m G elt he) e2) (fN (mE G.mono m))) (sTl ifs G fs q)) (sI src G _ t hi).2) (i8 (mI G.mono src) (aK (bj (mE G.mono m)) (mTl G.mono ifs)))
  ·cases h
 | .more src g ifs rest,C,X,G,elt,gens,sc,pos,d,_,p,h=>by
  simp only [okC] at h
  split at h
  ·rename_i t it fs a g2 gs hd;simp only [hH,decide_eq_true_eq] at h;obtain ⟨⟨⟨⟨rfl,hi⟩,j⟩,q⟩,he⟩:=h;have e1:gens[d+1]? = some ⟨t,it,fs,0⟩:=by
    have z:(gens.drop (d+1))[0]? = some ⟨t,it,fs,0⟩:=by rw [hd];rfl
    rw [Kt] at z;simpa using z
   have e2:gens[d+1+1]? = some g2:=by
    have z:(gens.drop (d+1))[1]? = some g2:=by rw [hd];rfl
    rw [Kt] at z;simpa using z
   have F:gens.drop (d+1+1)=g2::gs:=by
    have z:(gens.drop (d+1)).drop 1=g2::gs:=by rw [hd];rfl
    rw [LU] at z;simpa using z
   have B:∀ g',gens[d+1+1]? = some g'->g'.is_async=0:=fun g' z=>by
    rw [e2] at z;cases z;exact gd he
   refine PB.imp (kN G.hx G.calm e1 B (sI src G _ t hi).1 (sG G g t j) (dj (p:=p) G (mCl G.mono rest) (mTl G.mono ifs) (sCl rest G elt gens sc pos (d+1) (.inr rfl) p (by rw [F];exact he)) (sTl ifs G fs q)) (sI src G _ t hi).2) (i8 (mI G.mono src) (aK (mCl G.mono rest) (mTl G.mono ifs)))
  ·cases h
end
end
end
section
section
variable {Φ:Phi} {k:Nat} {C:Ctx} {X:Cx}
theorem xw {sc:Scope} {ts vs:List Expr} {kk j:Nat} {pp p2:Pos} {env:Env} (hs:env.scope=sc) (q:sc.kind = .function) (h:rW sc ts vs=true):Jp [.Tuple ts kk pp] (.Tuple vs j p2) env=pure none:=by
 have z:env.blockKind = .function:=by unfold Mp;rw [hs,q];rfl
 have h':rW sc ts vs=true:=h;unfold Jp;dsimp only;rw [z]
 by_cases c1:(!(ts.length==2 || ts.length==3) || vs.length != ts.length)=true
 ·simp only [c1,Bool.true_or,if_true]
 ·simp only [La] at c1;rw [c1];simp only [Lg,bne_self_eq_false,HH,if_false]
  split
  ·rfl
  ·
    generalize B:List.filterMap _ ts=L;obtain rfl:L=aV sc ts:=by
     rw [<- B];unfold aV;congr 1
     funext x
     cases x <;> first | rfl | (unfold Oj;rw [hs])
    unfold rW at h';rw [c1] at h';simp only [Lg,Na] at h'
    by_cases c3:((aV sc ts).length != ts.length || (aV sc ts).eraseDups.length != (aV sc ts).length)=true
    ·rw [if_pos c3]
    ·rw [if_neg c3];have F:vs.all (O7 8)=true:=by
      rcases h' with h' | h'
      ·exact absurd (Na _ _ |>.mpr h') c3
      ·exact h'
     rw [if_pos F]
theorem zR {sc:Scope} {ts vs:List Expr} {ns:List Str} {kk j:Nat} {pp p2:Pos} {env:Env} (hs:env.scope=sc) (q:sc.kind = .function) (h:rY sc ts vs ns=true):Jp [.Tuple ts kk pp] (.Tuple vs j p2) env=pure (some ns):=by
 have B:env.blockKind = .function:=by unfold Mp;rw [hs,q];rfl
 simp only [rY,hH,Iq,decide_eq_true_eq] at h;obtain ⟨⟨⟨⟨⟨c1,F⟩,G⟩,J⟩,O⟩,U⟩:=h;unfold Jp;dsimp only;rw [B,c1];simp only [Lg,bne_self_eq_false,HH,if_false]
 split
 ·next z=>exact absurd z (by rw [La];exact F)
 ·generalize Y:List.filterMap _ ts=L;obtain rfl:L=aV sc ts:=by
   rw [<- Y];unfold aV;congr 1
   funext x
   cases x <;> first | rfl | (unfold Oj;rw [hs])
  rw [J,O,U,G];rfl
theorem qg {C:Ctx} {i:Nat} {x:Str} (h:rX C i x=true):C.N[i]? = some x/\C.sc.names.lookup x=some .local:=by
 simpa [rX] using h
theorem dl {tg e:Expr} {l:Nat} {env:Env} {b:Bool} (h:Kw e (some tg) l env=pure b):Kc [tg] e l env=pure b:=by
 unfold Kc;exact h
theorem zS {sc:Scope} {tg e:Expr} {env:Env} (hs:env.scope=sc) (j:sc.kind = .function) (h:jB sc tg e=true):Jp [tg] e env=pure none:=by
 cases tg with
 | Tuple ts kk pp =>
   cases e with
   | Tuple vs q p2=>exact xw hs j h
   | _=>rfl
 | _=>first | rfl | (simp [jB] at h;done)
theorem oG {elt:Expr} {gens:List Hr} {s sc:Scope} {pos px:Pos} {x:Str} {l:Nat} {env:Env} (hs:env.scope=sc) (j:sc.kind = .function) :
 Kw (.ListComp elt gens s pos) (some (.Name x px)) l env=pure (rZ sc x px (.ListComp elt gens s pos)):=by
 have q:env.blockKind = .function:=by unfold Mp;rw [hs,j];rfl
 unfold Kw;dsimp only;rw [q];unfold rZ Oj;rw [hs];rfl
theorem uE {ek ev:Expr} {gens:List Hr} {s sc:Scope} {pos px:Pos} {x:Str} {l:Nat} {env:Env} (hs:env.scope=sc) (j:sc.kind = .function) :
 Kw (.DictComp ek ev gens s pos) (some (.Name x px)) l env=pure (sc.names.lookup x==some .local&&px.line==(Expr.DictComp ek ev gens s pos).pos.line && !(s.names.any fun (n,k)=>n==x&&(k == .local || k == .cell))):=by
 have q:env.blockKind = .function:=by unfold Mp;rw [hs,j];rfl
 unfold Kw;dsimp only;rw [q];unfold Oj;rw [hs];rfl
mutual
theorem sS:∀ (m:MS) (G:Good C Φ k X) (q:C.sc.kind = .function) (s:Stmt),okS m C s=true->PS X s (lS X.K (wS Φ m))
 | .asg g m,G,q,s,h=>by
  refine iG s h fun ts e pos h1 => ?_;clear h;refine cQ ts h1 fun tg h => ?_;clear h1;simp only [hH] at h;obtain ⟨⟨⟨F,he⟩,J⟩,Z⟩:=h;have hw:=zS G.sc q J;have pg:=sG G g tg F;have plain:Kc [tg] e pos.line X.env=pure false->PS X (.Assign [tg] e pos) (lS X.K (iw (wE Φ m) (bG g))):=fun hs =>
   PS.imp (sN (sE m G e he) pg hs hw (by cases tg <;> first | rfl | (simp [jB] at J;done))) (wG (mE G.mono m))
  cases tg with
  | Tuple ts a b=>exact plain (dl (kf Z))
  | Name x px =>
    cases e with
    | ListComp elt gens sc cpos =>
      by_cases sw:rZ C.sc x px (.ListComp elt gens sc cpos)=true
      ·cases g with
       | tup gs=>exact absurd F Gb
       | name i =>
         cases m with
         | comp fr N' c =>
           replace he:=bx he;have B:aX sc X.env.scope X.N N' fr:=by rw [G.sc,G.N];exact jC he.1
           have B':aX sc C.sc C.N N' fr:=jC he.1;have E3:PG X (.Name x px) (iM i):=by
            have F:=bx F;have F:=L9 (bx F.1) F.2;exact pK G.nd (by rw [G.N];exact of_decide_eq_true F.1.1) (G.loc F.1.2) (G.own F.2)
           have E4:∀ l,Kw (.ListComp elt gens sc cpos) (some (.Name x px)) l X.env=pure true:=fun l=>by rw [oG G.sc q,sw]
           have mc:=mCmp G.mono fr c
           cases c with
           | last src g ifs m =>
             have h2:=he.2;simp only [okC] at h2
             split at h2
             ·rename_i t it fs a;simp only [hH,decide_eq_true_eq] at h2;obtain ⟨⟨⟨⟨rfl,hi⟩,O⟩,ht⟩,L⟩:=h2;refine PS.imp (j4 (i:=i) (g:=lG X.K (bG g)) (wi:=lI X.K (wI Φ src)) G.calm G.hx B (fun g' z=>by simp at z) (sI src G _ t hi).1 (fun s H fp=>sG (G.blk B' s H fp) g t O) (tb:=fun p=>lC X.K p (be (wTl Φ ifs) (dP (wE Φ m)))) (fun s H fp p => ?_) (sI src G _ t hi).2 E3 (E4 _)) fun D σ H h => ?_
              ·have G':=G.blk B' s H fp;exact dj (p:=p) G' (bj (mE G.mono m)) (mTl G.mono ifs) (PB.imp (jR G'.hx (sE m G' elt L) rfl) (fN (mE G.mono m))) (sTl ifs G' fs ht)
              ·exact dQ (mI G.mono src) (aK (bj (mE G.mono m)) (mTl G.mono ifs)) σ H _ (kW mc D σ H h)
             ·cases h2
           | more src g ifs rest =>
             have h2:=he.2;simp only [okC] at h2
             split at h2
             ·rename_i t it fs a g2 gs;simp only [hH,decide_eq_true_eq] at h2;obtain ⟨⟨⟨⟨rfl,hi⟩,O⟩,ht⟩,L⟩:=h2;have E5:∀ g',(g2::gs)[0]? = some g'->g'.is_async=0:=fun g' z=>by
               have z':g2=g':=by simpa using z
               subst z';exact gd L
              refine PS.imp (j4 (i:=i) (g:=lG X.K (bG g)) (wi:=lI X.K (wI Φ src)) G.calm G.hx B E5 (sI src G _ t hi).1 (fun s H fp=>sG (G.blk B' s H fp) g t O) (tb:=fun p=>lC X.K p (be (wTl Φ ifs) (wCl Φ rest))) (fun s H fp p => ?_) (sI src G _ t hi).2 E3 (E4 _)) fun D σ H h => ?_
              ·have G':=G.blk B' s H fp;exact dj (p:=p) G' (mCl G.mono rest) (mTl G.mono ifs) (sCl rest G' elt (⟨t,it,fs,0⟩::g2::gs) sc cpos 0 (.inl rfl) p L) (sTl ifs G' fs ht)
              ·exact dQ (mI G.mono src) (aK (mCl G.mono rest) (mTl G.mono ifs)) σ H _ (kW mc D σ H h)
             ·cases h2
         | _=>exact absurd he Gb
      ·refine plain ?_;simp only [La] at sw;refine dl ?_;rw [oG G.sc q,sw]
    | SetComp _ _ _ _=>cases m <;> exact absurd he Gb
    | DictComp _ _ _ _ _ =>
      refine plain (dl ?_);rw [uE G.sc q];unfold BS at Z;simp only [Iq] at Z;rw [Z]
    | _=>exact plain (dl rfl)
  | _=>simp [jB] at J
 | .par i j a b,G,q,s,h=>by
  refine iG s h fun ts e pos h => ?_;refine cQ ts h fun tg h => ?_;refine dE tg h fun ts k p h => ?_;refine dE e h fun es k' p' h => ?_;refine oE ts h fun t u h => ?_;refine oE es h fun e f h => ?_;refine gO t h fun x px h => ?_;refine gO u h fun y py h => ?_;simp only [hH,decide_eq_true_eq] at h;obtain ⟨⟨⟨⟨⟨⟨⟨hi,hj⟩,E6⟩,n1⟩,n2⟩,J⟩,hb⟩,hw⟩:=h;obtain ⟨i1,i2⟩:=qg hi;obtain ⟨j1,j2⟩:=qg hj;exact PS.imp (AM G.calm G.nd (by rw [G.N];exact i1) (by rw [G.N];exact j1) E6 (by rw [G.sc];exact i2) (by rw [G.sc];exact j2) (bu (mE G.mono a) (ao (mE G.mono b) au) (sE a G _ J) (bu (mE G.mono b) au (sE b G _ hb) dA (ak n2)) (ak n1)) (zR G.sc q hw) (dl rfl)) (u4 (ao (mE G.mono a) (ao (mE G.mono b) au)))
 | .put o i m,G,q,s,h=>by
  refine iG s h fun ts e pos h => ?_;refine cQ ts h fun tg h => ?_;refine de tg h fun x y tp h => ?_;simp only [hH] at h;obtain ⟨⟨⟨⟨U,Z⟩,ho⟩,hi⟩,he⟩:=h;exact BA (by have:=G.units;lia) (mE G.mono m) (mE G.mono o) (mE G.mono i) (sE m G e he) (sE o G x ho) (sE i G y hi) (dl (kf Z)) rfl (fun v=>by cases y <;> first | rfl | (simp [cv] at U;done))
 | .aug i op m,G,q,s,h=>by
  refine ie s h fun t o e pos h => ?_;refine gO t h fun x _ h => ?_;simp only [hH,decide_eq_true_eq] at h;obtain ⟨⟨⟨⟨⟨rfl,Y⟩,hi⟩,hl⟩,hf⟩,he⟩:=h
  cases op with
  | add=>exact jl G.nd (by rw [G.N];exact hi) (G.loc hl) (sE m G _ he) kY fR (mE G.mono m) (G.own hf)
  | sub=>exact jl G.nd (by rw [G.N];exact hi) (G.loc hl) (sE m G _ he) kZ fS (mE G.mono m) (G.own hf)
  | ext=>exact jl G.nd (by rw [G.N];exact hi) (G.loc hl) (sE m G _ he) ut lu (mE G.mono m) (G.own hf)
  | mul=>exact jl G.nd (by rw [G.N];exact hi) (G.loc hl) (sE m G _ he) lc fT (mE G.mono m) (G.own hf)
  | _=>simp at Y
 | .augI o i op m,G,q,s,h=>by
  refine ie s h fun t o' e pos h => ?_;refine de t h fun x y tp h => ?_;simp only [hH,decide_eq_true_eq] at h;obtain ⟨⟨⟨⟨⟨rfl,Y⟩,U⟩,ho⟩,hi⟩,he⟩:=h;have hu:X.A.units+1 < Ij:=by have:=G.units;lia
  have J:∀ ov iv new,augStore y ov iv new=(do holding [new,ov,iv] (NJ ov iv new);release [new,ov,iv] [];pure .next):=fun ov iv new=>by cases y <;> first | rfl | (simp [cv] at U;done)
  cases op with
  | add=>exact jY hu (mE G.mono o) (mE G.mono i) (mE G.mono m) fR (sE o G x ho) (sE i G y hi) (sE m G e he) kY J
  | sub=>exact jY hu (mE G.mono o) (mE G.mono i) (mE G.mono m) fS (sE o G x ho) (sE i G y hi) (sE m G e he) kZ J
  | mul=>exact jY hu (mE G.mono o) (mE G.mono i) (mE G.mono m) fT (sE o G x ho) (sE i G y hi) (sE m G e he) lc J
  | _=>simp at Y
 | .drop m,G,q,s,h=>by
  refine BO s h fun e _ h => ?_;simp only [hH] at h;exact PS.imp (yI (sE m G _ h.2) (kf h.1)) (tY (mE G.mono m))
 | .ret m,G,q,s,h=>by
  refine xt s h fun o _ h => ?_;refine jos o h fun e h => ?_;rw [wS];exact PS.imp (AH (sE m G _ h)) (wF (mE G.mono m))
 | .ite c a b,G,q,s,h=>by
  refine DX s h fun t x y _ h => ?_;simp only [hH] at h;exact PS.imp (Cu (sT c G _ h.1.1) (sSs a G q _ h.1.2) (sSs b G q _ h.2)) (zB (mT G.mono c))
 | .for g src b,G,q,s,h=>by
  refine Dc s h fun tg it body els _ h => ?_;refine eh els h fun  h => ?_;simp only [hH] at h;obtain ⟨⟨⟨hs,F⟩,hi⟩,hb⟩:=h;exact PS.imp (AR (fun e s z=>(G.hx e s z).elim) G.calm (sI src G _ _ hi).1 (sG G g _ F) (sSs b G q _ hb) (uD hs)) (wH (mI G.mono src) (mSs G.mono b))
 | .while c b,G,q,s,h=>by
  refine zO s h fun t body els _ h => ?_;refine eh els h fun  h => ?_;simp only [hH] at h;exact PS.imp (vF (fun e s z=>(G.hx e s z).elim) (sT c G _ h.1) (sSs b G q _ h.2)) (rF (mT G.mono c) (mSs G.mono b))
 | .frz i m,G,q,s,h=>by
  simp only [okS] at h;exact BH (sS m G q s h)
 | .pass,G,q,s,h=>by
  refine BQ s h fun _ h => ?_;exact PS.imp yH kU
 | .brk,G,q,s,h=>by
  refine zP s h fun _ h => ?_;exact PS.imp vD rE
 | .cnt,G,q,s,h=>by
  refine rV s h fun _ h => ?_;exact PS.imp pj tX
theorem sSs:∀ (m:MSs) (G:Good C Φ k X) (j:C.sc.kind = .function) (s:List Stmt),okSs m C s=true->PSs X s (lS X.K (wSs Φ m))
 | .nil,G,j,s,h=>by
  simp [okSs] at h;subst h;exact PSs.imp yG kU
 | .cons m r,G,j,[],h=>by simp [okSs] at h
 | .cons m r,G,j,s::ss,h=>by
  simp only [okSs,hH] at h;exact PSs.imp (vC (sS m G j s h.1) (sSs r G j ss h.2)) (wD (mS G.mono m) (mSs G.mono r))
end
end
end
section
structure FD where
 name:Str
 st:Stmt
 N:List Str
 np:Nat
 body:MSs
noncomputable def eJ (N:List Str) (ds:List D):al:=ds.map some++D1 (N.length - ds.length) none
noncomputable def phi (T:List FD):Nat->Phi
 | 0=>fun _ _ _ _=>False
 | k+1=>fun f ds M Q => ∃ d,T[f]? = some d/\ds.length=d.np/\wSs (phi T k) d.body { nx:=fun _ M'=>Q .non M',rt:=Q } (eJ d.N ds) M
theorem iI (T:List FD):∀ k f,b4 (phi T k f)
 | 0,f=>fun _ _ _ _ _ q=>q.elim
 | k+1,f=>fun ds M Q Q' h ⟨d,e,l,q⟩=>⟨d,e,l,mSs (iI T k) d.body { nx:=fun _ M'=>Q .non M',rt:=Q } { nx:=fun _ M'=>Q' .non M',rt:=Q' } _ _ ⟨fun _ M' q'=>h _ _ q',h,fun _ _ z=>z,fun _ _ z=>z⟩ q⟩
noncomputable def sd (Γ:List Str) (cs:List (Str×D)) (d:FD):Bool :=
 decide ((aw d.st).kind = .function) && !(aw d.st).isCoroutine && !(aw d.st).isGenerator&&decide (d.N.Nodup)&&decide (d.np<=d.N.length)
  && (d.N.take d.np).all (fun x=>(aw d.st).names.lookup x==some .local || (aw d.st).names.lookup x==some .cell)
  && (aw d.st).names.all (fun y => !(y.2 == .free))&&okSs d.body ⟨Γ,d.N,aw d.st,d.N,cs⟩ (bH d.st)
theorem xx {Γ:List Str} {cs:List (Str×D)} {d:FD} (h:sd Γ cs d=true):gw d.N (d.N.take d.np) (aw d.st)/\(d.N.take d.np).length=d.np/\okSs d.body ⟨Γ,d.N,aw d.st,d.N,cs⟩ (bH d.st)=true:=by
 simp only [sd,hH,decide_eq_true_eq,Iq] at h;obtain ⟨⟨⟨⟨⟨⟨⟨h1,h2⟩,q⟩,B⟩,O⟩,F⟩,G⟩,J⟩:=h;have j:(d.N.take d.np).length=d.np:=by rw [GZ];lia
 refine ⟨⟨h1,h2,q,B,by rw [j],fun x hx => ?_,fun y L e => ?_⟩,j,J⟩
 ·have z:=Ld.mp F x hx;simpa using z
 ·have z:=Ld.mp G y L;rw [e] at z;simp at z
section
variable {P:GI} {w:Hf} {K:Frag} {mg:Str->Option gV} {base:Heap}
structure yp (K:Frag) (mg:Str->Option gV) (T:List FD) (cs:List (Str×D)):Prop where
 blt:∀ x∈bltNames,mg x=none
 fns:∀ (i:Nat) (d:FD),T[i]? = some d -> ∃ f fd,Fun K d.name d.name d.st f fd/\mg d.name=some (.ref f)/\KP K HK d.name=some (some (.ref f))/\Binds K fd (d.N.take d.np) []
 ok:∀ d∈T,sd (T.map (·.name)) cs d=true
 cst:∀ x d,(x,d)∈cs -> ∃ u,mg x=some u/\GV K d u
theorem uF {T:List FD} {cs:List (Str×D)} (O:yp K mg T cs):∀ (k i:Nat) (d:FD) (f:Addr) (fd:JU),T[i]? = some d->Fun K d.name d.name d.st f fd->dv P w K mg base CX0 k f fd (d.N.take d.np) (lSp K (phi T k i))
 | 0,i,d,f,fd,e,F=>⟨fun vs H Q E h=>by obtain ⟨ds,M,_,_,q⟩:=h;exact q.elim,fun A outer s H args us vs Q E _ _ _ _ h=>by obtain ⟨ds,M,_,_,q⟩:=h;exact q.elim⟩
 | k+1,i,d,f,fd,e,F=>by
   obtain ⟨S,Z,hb⟩:=xx (O.ok d (Hc e));refine F.ok S (fun vs H Q E h => ?_) fun cdv A outer s H vs Q E hr h => ?_
   ·obtain ⟨ds,M,rm,rs,d',e',l,q⟩:=h;rw [e] at e';cases e';rw [rs.length,l,Z]
   ·obtain ⟨ds,M,rm,rs,d',e',l,q⟩:=h;rw [e] at e';cases e';have G:Good ⟨T.map (·.name),d.N,aw d.st,d.N,cs⟩ (phi T k) k ((ik CX0 P w K mg base d.N d.name (aw d.st) f cdv A outer s H E).nox):=by
     refine ⟨fun _ _ z=>z,rfl,rfl,rfl,S.nd,fun _ _=>rfl,hr,O.blt,fun j x hx => ?_,iI T k,O.cst⟩;have B:(T.map (·.name))[j]? = some x:=hx;rw [GH] at B
     cases e2:T[j]? with
     | none=>rw [e2] at B;cases B
     | some d2 =>
       rw [e2] at B;cases B;obtain ⟨f2,U,Y,m2,n2,b2⟩:=O.fns j d2 e2;exact ⟨f2,U,_,m2,n2,Y.kp,b2,uF O k j d2 f2 U e2 Y⟩
    refine ⟨_,sSs d.body G S.kind _ hb,eJ d.N ds,M, { nx:=fun _ M'=>KE' K M H Q .non M',rt:=KE' K M H Q }, ?_,rm,⟨fun ρ M' σ H' x rs' rm' q' => ?_,fun d M' v H' x rm' rd' q'=>q' v H' x rm' rd',fun _ _ _ _ _ _ _ z=>z,fun _ _ _ _ _ _ _ z=>z⟩,q⟩
    ·refine ⟨by simp [cC,eJ,rs.length],fun j dd J => ?_⟩
     unfold eJ at J;unfold cC
     by_cases L:j < ds.length
     ·rw [Gs (by simpa using L),GH] at J
      cases e3:ds[j]? with
      | none=>rw [e3] at J;cases J
      | some z =>
        rw [e3] at J;cases J;obtain ⟨v,hv,rv⟩:=rs.get e3;refine ⟨v, ?_,rv⟩;rw [Gs (by rw [r3,rs.length];exact L),GH,hv];rfl
     ·rw [z4 (by simpa using L),Mr] at J
      split at J <;> cases J
    ·exact q' .non H' x rm' (Qc.mpr rfl)
theorem BW {T:List FD} {k i:Nat} {H:Hp} {a:Addr} {ns:List Int} (B:r8 H) (F:SqL K H a (ns.map V.int)) (h:phi T k i [.con (ns.map D.int)] (fun _=>none) fun d _=>d = .bl true) :
 lSp K (phi T k i) [.ref a] H (fun v _=>v = .bl true) fun _ _ _=>False:=by
 have j:RM K (fun _=>none) H:=fun _ _ z=>by cases z
 refine ⟨[.con (ns.map D.int)],fun _=>none,j,RDs.cons (Q9.mpr ⟨a,ns.map V.int,rfl, ?_,Qn ns⟩) RDs.nil,iI T k i [.con (ns.map D.int)] (fun _=>none) (fun d _=>d = .bl true) (KE' K (fun _=>none) H fun v _=>v = .bl true) (fun d M' e=>fun v H' x rm rd => ?_) h⟩
 ·rcases F with (z | ⟨o,z⟩) | z
  ·rcases B a with q | ⟨o,xs,q⟩
   ·rw [z] at q;cases q
   ·rw [z] at q;cases q
  ·exact .inl ⟨o,z⟩
  ·exact .inr z
 ·subst e;exact Q7.mp rd
end
theorem dX (us:List gV) (h:us.length=1):∃ a,us=[a]:=List.length_eq_one_iff.mp h
theorem bT (us:List gV) (h:us.length=2):∃ a b,us=[a,b]:=by
 cases us with
 | nil=>cases h
 | cons a us=>obtain ⟨b,rfl⟩:=dX us (Nat.succ.inj h);exact ⟨a,b,rfl⟩
theorem mn (us:List gV) (h:us.length=3):∃ a b c,us=[a,b,c]:=by
 cases us with
 | nil=>cases h
 | cons a us=>obtain ⟨b,c,rfl⟩:=bT us (Nat.succ.inj h);exact ⟨a,b,c,rfl⟩
theorem Dd (us:List gV) (h:us.length=4):∃ a b c d,us=[a,b,c,d]:=by
 cases us with
 | nil=>cases h
 | cons a us=>obtain ⟨b,c,d,rfl⟩:=mn us (Nat.succ.inj h);exact ⟨a,b,c,d,rfl⟩
end
section
theorem BX {T:List FD} {k f:Nat} {d:FD} {ds:List D} {M:Mem} {Q:QD} (e:T[f]? = some d) (l:ds.length=d.np) {ρ:al} (r:eJ d.N ds = ρ)
 (h:wSs (phi T k) d.body { nx:=fun _ M'=>Q .non M',rt:=Q } ρ M):phi T (k+1) f ds M Q:=⟨d,e,l,by rw [r];exact h⟩
theorem aA {T:List FD} {n f:Nat} {d:FD} {ds:List D} {M:Mem} {Q:QD} (j : 1<=n) (e:T[f]? = some d) (l:ds.length=d.np) {ρ:al} (r:eJ d.N ds = ρ)
 (h:wSs (phi T (n - 1)) d.body { nx:=fun _ M'=>Q .non M',rt:=Q } ρ M):phi T n f ds M Q:=by
 obtain ⟨k,rfl⟩:∃ k,n=k+1:=⟨n - 1,by lia⟩
 exact BX e l r h
theorem zT {Φ:Phi} {D:b7} {ρ:al} {M:Mem}:wSs Φ .nil D ρ M=D.nx ρ M:=by rw [wSs];rfl
theorem bD {Φ:Phi} {s:MS} {r:MSs} {D:b7} {ρ:al} {M:Mem}:wSs Φ (.cons s r) D ρ M=wS Φ s { D with nx:=wSs Φ r D } ρ M:=by rw [wSs];rfl
theorem qh {ds:List D} {y:D} {M:Mem} {Q:QD}:wIx (.tup ds) y M Q = ∃ i d,y = .int i/\atI ds i=some d/\Q d M:=rfl
theorem qi {ds:List D} {y:D} {M:Mem} {Q:QD}:wIx (.con ds) y M Q = ∃ i d,y = .int i/\atI ds i=some d/\Q d M:=rfl
theorem cK {a:Addr} {i:Int} {ds:List D} {d:D} {M:Mem} {Q:QD} (h:M a=some (.lst ds)) (e:atI ds i=some d) (q:Q d M):wIx (.ref a) (.int i) M Q := .inl ⟨ds,i,d,h,rfl,e,q⟩
theorem bg {a:Addr} {i:Int} {ds:List D} {v:D} {j:Nat} {M:Mem} {Q:Mem->Prop} (h:M a=some (.lst ds)) (e:ixN ds.length i=some j) (q:Q (af M a (.lst (ds.set j v)))):eV (.ref a) (.int i) v M Q:=⟨a,rfl, .inl ⟨ds,i,j,rfl,h,e,q⟩⟩
theorem kg {a:Addr} {ds:List D} {M:Mem} {Q:QD} (h:M a=some (.lst ds)) (q:Q (.int ds.length) M):fJ [.ref a] M Q:=⟨_,_,rfl,by simp only [n0,h],q⟩
theorem ag {a:Addr} {ds:List D} {M:Mem} (h:M a=some (.lst ds)):aq M (.ref a)=some ds:=by simp only [aq,h]
theorem BY {i:Int} {M:Mem} {Q:QD}:n8 [.int i] M Q=Q (.int i) M:=by
 apply propext;constructor
 ·rintro (⟨j,e,q⟩ | ⟨k,e,q⟩)
  ·cases e;exact q
  ·cases e
 ·exact fun q => .inl ⟨i,rfl,q⟩
theorem BZ {b:Bool} {M:Mem} {Q:QD}:n8 [.bl b] M Q=Q (.int (if b then 1 else 0)) M:=by
 apply propext;constructor
 ·rintro (⟨j,e,q⟩ | ⟨k,e,q⟩)
  ·cases e
  ·cases e;exact q
 ·exact fun q => .inr ⟨b,rfl,q⟩
theorem De {i j:Int} {M:Mem} {Q:QD}:wEq (.int i) (.int j) M Q=Q (.bl (i==j)) M:=by
 simp [wEq,rb,GR]
theorem Df {i j:Int} {M:Mem} {Q:QD}:wNe (.int i) (.int j) M Q=Q (.bl (!(i==j))) M:=by
 simp [wNe,rb,GR]
theorem uG {i j:Int} {M:Mem} {Q:QD}:fI (.int i) (.int j) M Q=Q (.int (i+j)) M:=rfl
theorem uH {a b:List D} {M:Mem} {Q:QD}:fI (.tup a) (.tup b) M Q=((a≠[]∨True)/\a.length+b.length<=Gg/\Q (.tup (a++b)) M):=rfl
theorem uI {i j:Int} {M:Mem} {Q:QD}:rf (.int i) (.int j) M Q=Q (.int (i - j)) M:=rfl
theorem uJ {i j:Int} {M:Mem} {Q:QD}:jU (.int i) (.int j) M Q=(MulOk i j/\Q (.int (i*j)) M):=rfl
theorem uK {ds:List D} {k:Int} {M:Mem} {Q:QD}:jU (.tup ds) (.int k) M Q=(-(2 ^ 63)<=k/\k < 2 ^ 63/\ds.length*k.toNat<=Gg/\Q (.tup (D1 k.toNat ds).flatten) M):=rfl
theorem qj {i j:Int} {M:Mem} {Q:QD}:lZ (.int i) (.int j) M Q=(0 < j/\j < 2 ^ 256/\Q (.int (i / j)) M):=rfl
theorem uL {i j:Int} {M:Mem} {Q:QD}:rg (.int i) (.int j) M Q=(0 < j/\Q (.int (i % j)) M):=rfl
theorem uM {i j:Int} {M:Mem} {Q:QD}:rh (.int i) (.int j) M Q=(0<=j/\j<=1000000/\i.natAbs < 2 ^ 64/\Q (.int (i ^ j.toNat)) M):=rfl
theorem yq {i j:Int} {M:Mem} {Q:QD}:wLt (.int i) (.int j) M Q=Q (.bl (decide (i < j))) M:=rfl
theorem yr {i j:Int} {M:Mem} {Q:QD}:wLe (.int i) (.int j) M Q=Q (.bl (decide (i<=j))) M:=rfl
theorem se {i j:Int} {M:Mem} {Q:QD}:wGt (.int i) (.int j) M Q=Q (.bl (decide (j < i))) M:=rfl
theorem yt {i j:Int} {M:Mem} {Q:QD}:wGe (.int i) (.int j) M Q=Q (.bl (decide (j<=i))) M:=rfl
theorem qk {i j:Int} {M:Mem} {Q:QD}:m9 (.int i) (.int j) M Q=Q (.int (i+j)) M:=rfl
theorem ql {i j:Int} {M:Mem} {Q:QD}:md (.int i) (.int j) M Q=Q (.int (i - j)) M:=rfl
theorem qm {i j:Int} {M:Mem} {Q:QD}:mf (.int i) (.int j) M Q=(MulOk i j/\Q (.int (i*j)) M):=rfl
theorem uN {i:Int} {M:Mem} {Q:QD}:rj (.int i) M Q=Q (.int (-i)) M:=rfl
theorem C0 {i:Int} {M:Mem} {Q:QD}:n6 [.int i] M Q=Q (.int (if i < 0 then -i else i)) M:=by simp [n6]
theorem zU {i j:Int} {M:Mem} {Q:QD}:m8 [.int i, .int j] M Q=Q (.int (if j < i then j else i)) M:=by
 apply propext;constructor
 ·rintro ⟨a,b,e,q⟩;cases e;exact q
 ·exact fun q=>⟨i,j,rfl,q⟩
theorem C1 {ds:List D} {M:Mem} {Q:QD}:fJ [.con ds] M Q=Q (.int ds.length) M:=by simp [fJ,n0]
theorem C2 {ds:List D} {M:Mem} {Q:QD}:fJ [.tup ds] M Q=Q (.int ds.length) M:=by simp [fJ,n0]
theorem jD {ds:List D} {M:Mem}:aq M (.tup ds)=some ds:=rfl
theorem uO {ds:List D} {M:Mem}:aq M (.con ds)=some ds:=rfl
theorem yu {α:Sort _} {a b : α}:(if true=true then a else b)=a:=rfl
theorem yv {α:Sort _} {a b : α}:(if false=true then a else b)=b:=rfl
theorem zV {ta tb:TEd} {ρ:al} {M:Mem} {R:List D->(Mem->Prop)->Mem->Prop}:nC ta tb ρ M R=ta ρ M fun x j=>tb ρ j fun y M2 => ∃ xs ys,aq M2 x=some xs/\aq M2 y=some ys/\R (IH jg xs ys) (fun M=>aq M x=some xs/\aq M y=some ys) M2:=by
 unfold nC b8;congr 1;funext x j;unfold bB;congr 1;funext y M2;apply propext;constructor
 ·rintro ⟨x',y',xs,ys,e,q⟩
  cases e;exact ⟨xs,ys,q⟩
 ·rintro ⟨xs,ys,q⟩;exact ⟨x,y,xs,ys,rfl,q⟩
theorem uP {x y:Str} {M:Mem} {Q:QD}:fI (.str x) (.str y) M Q=(x.length+y.length<=Gg/\Q (.str (x++y)) M):=rfl
local macro_rules | `(tactic| walk_at "wp") => `(tactic| ((try dsimp only [wS,wE,wA,wAnds,wOrs,wO,wT,wAndTs,wOrTs,wTl,wI,wCl,wCmp,bG,bGs,opB,opC,opF,opM,rQ,opI,im,wC,wOp,wUn,bB,b8,wAr,io,mR,mU,nn,j8,j9,no,ja,nt,jb,wIf,eD,jc,wSl,jn,fX,jw,wBM,bQ,fK,bJ,nA,nB,jh,fZ,je,jf,dP,be,dh,gD,jS,gE,nF,fO,jj,jk,nG,sIf,iw,nH,nI,fP,nJ,nN,jm,uG,uH,uP,uI,uJ,uK,qj,uL,uM,yq,yr,se,yt,qk,ql,qm,uN,jD,uO,qh,qi,yu,yv,MA,Jz,Ol,Om,My,IU,OX,OY,OZ,Gr,Ji,HJ,Jf]);(try simp only [wS,wE,wA,wAnds,wOrs,wO,wT,wAndTs,wOrTs,wTl,wI,wCl,wCmp,bG,bGs,opB,opC,opF,opM,rQ,opI,im,wC,wOp,wUn,bB,b8,wAr,io,mR,mU,nn,j8,j9,no,ja,nt,jb,wIf,eD,jc,wSl,jn,fX,jw,wBM,bQ,fK,bJ,nA,nB,zV,jh,fZ,je,jf,dP,be,dh,gD,jS,gE,nF,fO,jj,jk,nG,sIf,iw,nH,nI,fP,nJ,nN,jm,zT,
 uG,uH,uP,uI,uJ,uK,qj,uL,uM,yq,yr,se,yt,qk,ql,qm,uN,BY,BZ,De,Df,C0,zU,C1,C2,jD,uO,qh,qi,yu,yv,HH,if_false,if_true,
 MA,Jz,Ol,Om,OA,exists_eq_left',exists_eq_left,exists_eq_right,exists_and_left,exists_and_right,D.bl.injEq,D.int.injEq,D.ref.injEq,D.tup.injEq,My,IU,OX,OY,OZ,Gr,Ji,decide_eq_true_eq,Nb,and_true,true_and,HJ,Jf])))
local macro_rules | `(tactic| walk_at "st") => `(tactic| ((first | rw [bD] | (dsimp only;rw [bD]));walk_at "wp"))
theorem C3 {a:Addr} {t:Bool} {kvs:List (D×D)} {k d:D} {M:Mem} {Q:QD} (h:M a=some (.dct t kvs)) (ok:dN t k=true) (e:dget kvs k=some d) (q:Q d M):wIx (.ref a) k M Q := .inr (.inl ⟨t,kvs,d,h,ok,e,q⟩)
theorem zW {i:Nat} {t:TSd} {A:b7} {ρ:al} {M:Mem} {a:Addr} {kvs:List (D×D)} (e : ρ[i]? = some (some (.ref a))) (m:M a=some (.dct true kvs)) (h:t A ρ (af M a (.fdc kvs))):rJ i t A ρ M:=⟨a,kvs,e, .inl ⟨m,h⟩⟩
theorem oH {a:Addr} {t:Bool} {kvs:List (D×D)} {k v:D} {M:Mem} {Q:Mem->Prop} (h:M a=some (.dct t kvs)) (ok:dN t k=true) (j:kvs.length < Gg) (q:Q (af M a (.dct t (e7 kvs k v)))):eV (.ref a) k v M Q:=⟨a,rfl, .inr ⟨t,kvs,h,ok,j,q⟩⟩
theorem uQ {M:Mem} {a:Addr} {o o':O}:af (af M a o) a o'=af M a o':=by
 funext b;unfold af;split <;> rfl
theorem uR {M:Mem} {a:Addr} {o:O} (h:M a=some o):af M a o=M:=by
 funext b;unfold af;split
 ·next e=>rw [e,h]
 ·rfl
def Ge (M M':Mem):Prop := ∀ a o,M a=some o->M' a=some o
theorem Ge.refl {M:Mem}:Ge M M:=fun _ _ h=>h
theorem Ge.trans {M M' M'':Mem} (h:Ge M M') (g:Ge M' M''):Ge M M'':=fun _ _ e=>g _ _ (h _ _ e)
theorem Ge.new {M:Mem} {p:Addr} {o:O} (h:M p=none):Ge M (af M p o):=fun a o' e=>by
 rw [aE (fun z=>by rw [z,h] at e;cases e)];exact e
def Box (b:Addr) (M:Mem):Prop := ∃ x y z:Int,M b=some (.lst [.int x, .int y, .int z])
structure Bx (b:Addr) (M M':Mem):Prop where
 box:Box b M'
 keep:∀ a o,a≠b->M a=some o->M' a=some o
theorem Bx.refl {b:Addr} {M:Mem} (h:Box b M):Bx b M M:=⟨h,fun _ _ _ e=>e⟩
theorem Bx.trans {b:Addr} {M M' M'':Mem} (h:Bx b M M') (g:Bx b M' M''):Bx b M M'':=⟨g.box,fun a o n e=>g.keep a o n (h.keep a o n e)⟩
theorem Bx.ge {b:Addr} {M M' M'':Mem} (h:Bx b M M') (g:Ge M' M''):Bx b M M'':=⟨by obtain ⟨x,y,z,e⟩:=h.box;exact ⟨x,y,z,g _ _ e⟩,fun a o n e=>g _ _ (h.keep a o n e)⟩
theorem Bx.put {b:Addr} {M:Mem} {x y z:Int}:Bx b M (af M b (.lst [.int x, .int y, .int z])):=⟨⟨x,y,z,ab⟩,fun a o n e=>by rw [aE n];exact e⟩
theorem Bx.of {b:Addr} {M M':Mem} (h:Box b M) (g:Ge M M'):Bx b M M':=(Bx.refl h).ge g
theorem uS {b:BT} {tb:TCd} {chk:Mem->Prop} {N:NC} (I:List D->al->Mem->List D->Prop) {xs:List D} {ρ:al} {M:Mem} {acc:List D}
 (h0:I [] ρ M acc)
 (q:∀ l ρ M acc,I l ρ M acc->chk M)
 (hs:∀ l x r ρ M acc,xs=l++x::r->I l ρ M acc -> ∃ ρ',b x ρ = some ρ' /\ ∀ N':NC,(∀ ρ2 M2 j,I (l++[x]) ρ2 M2 j->N' ρ2 M2 j)->tb ρ' M acc N')
 (z:∀ ρ M acc,I xs ρ M acc->N ρ M acc):bR b tb chk N xs ρ M acc:=by
 have g:∀ (r l:List D) (ρ:al) (M:Mem) (acc:List D),xs=l++r->I l ρ M acc->bR b tb chk N r ρ M acc:=by
  intro r
  induction r with
  | nil=>intro l ρ M acc e i;rw [HU] at e;subst e;exact ⟨q _ _ _ _ i,z _ _ _ i⟩
  | cons x r ih =>
    intro l ρ M acc e i;obtain ⟨ρ',e1,h⟩:=hs l x r ρ M acc e i;exact ⟨q _ _ _ _ i, ρ',e1,h _ fun ρ2 M2 j B=>ih (l++[x]) ρ2 M2 j (by rw [e];simp) B⟩
 exact g xs [] ρ M acc rfl h0
section
variable {T:List FD}
noncomputable def jE (s:Stmt):FD:=⟨"_law_cell_at",s,["_law_script", "_law_k"],2,
 (.cons (.ite (.cmp .lt (.var 1) (.blt .len (.cons (.var 0) .nil))) (.cons (.ret (.ix (.var 0) (.var 1)))
 .nil) .nil)
 (.cons (.ret (.int 0))
 .nil))⟩
theorem xz {α:Type} {xs:List α} {i:Int} (h0 : 0<=i) (h1:i < xs.length):∃ x,atI xs i=some x/\xs[i.toNat]? = some x:=by
 have:i.toNat < xs.length:=by lia
 refine ⟨xs[i.toNat], ?_,tv this⟩;unfold atI ixN;simp [h0,h1,tv this]
theorem zX {f:Nat} {s:Stmt} (hf:T[f]? = some (jE s)) {n:Nat} (j : 1<=n) {ns:List Int} {k:Int} {M:Mem} {Q:QD} (h0 : 0<=k) (q:∀ i,Q (.int i) M):phi T n f [.con (ns.map D.int), .int k] M Q:=by
 refine aA j hf rfl (ρ := [some _,some _]) rfl ?_;unfold jE;walk_at "st"
 split
 ·next h =>
  walk_at "st";obtain ⟨x,e,e2⟩:=xz (xs:=ns.map D.int) h0 h;rw [GH] at e2
  cases e3:ns[k.toNat]? with
  | none=>rw [e3] at e2;cases e2
  | some y=>rw [e3] at e2;cases e2;exact ⟨_,e,q y⟩
 ·walk_at "st";exact q 0
theorem bE {i j:Int} (h : -(2 ^ 64) < i/\i < 2 ^ 64):MulOk i j := .inl h
theorem kh {i j:Int} (h : -(2 ^ 64) < j/\j < 2 ^ 64):MulOk i j := .inr (.inl h)
noncomputable def qo (s:Stmt):FD:=⟨"_law_mixed",s,["_law_number_here", "_law_k", "_law_once", "_law_twice"],2,
 (.cons (.asg (.name 2) (.bin .mod (.bin .mul (.bin .add (.bin .add (.bin .mod (.var 0) (.int 1000000007)) (.bin .mul (.int 7) (.var 1))) (.int 1)) (.int 48271)) (.int 2147483647)))
 (.cons (.asg (.name 3) (.bin .mod (.bin .mul (.var 2) (.bin .add (.bin .add (.bin .mod (.var 2) (.int 1009)) (.var 1)) (.int 3))) (.int 998244353)))
 (.cons (.ret (.bin .fdiv (.bin .mod (.bin .add (.bin .mul (.var 3) (.int 39373)) (.var 2)) (.int 2147483629)) (.int 64)))
 .nil)))⟩
noncomputable def sg (s:Stmt) (fc fm:Nat):FD:=⟨"_law_box",s,["_law_script", "_law_k", "_law_cell"],2,
 (.cons (.asg (.name 2) (.call fc (.cons (.var 0) (.cons (.var 1) .nil))))
 (.cons (.ret (.lst (.cons (.bin .mul (.blt .abs (.cons (.var 2) .nil)) (.blt .int (.cons (.cmp .ge (.blt .abs (.cons (.var 2) .nil)) (.bin .pow (.int 10) (.int 18))) .nil))) (.cons (.call fm (.cons (.var 2) (.cons (.bin .add (.int 900) (.var 1)) .nil))) (.cons (.int 0) .nil)))))
 .nil))⟩
theorem C4 {f fc fm:Nat} {s sc:Stmt} (hf:T[f]? = some (sg s fc fm)) (z:T[fc]? = some (jE sc)) {n:Nat} (B:∀ {x k:Int} {M:Mem} {Q:QD},(∀ i,Q (.int i) M)->phi T (n - 1) fm [.int x, .int k] M Q) (G : 2<=n) {ns:List Int} {k:Int} {M:Mem} {Q:QD} (h0 : 0<=k)
 (q:∀ p x y,M p=none->Q (.ref p) (af M p (.lst [.int x, .int y, .int 0]))):phi T n f [.con (ns.map D.int), .int k] M Q:=by
 refine aA (by lia) hf rfl (ρ := [some _,some _,none]) rfl ?_
 unfold sg;walk_at "st";refine zX z (by lia) h0 fun i => ?_
 walk_at "st";refine ⟨by decide,by decide,by decide,kh ?_, ?_⟩
 ·split <;> lia
 refine B fun j => ?_;exact ⟨by rw [Gd];lia,fun p F=>q p _ _ F⟩
noncomputable def oI (s:Stmt) (fm:Nat):FD:=⟨"_law_take",s,["_law_box_here", "_law_many", "_law_found", "_law_reach"],2,
 (.cons (.ite (.cmp .gt (.ix (.var 0) (.int 0)) (.int 0)) (.cons (.asg (.name 2) (.bin .mod (.ix (.var 0) (.int 0)) (.var 1)))
 (.cons (.put (.var 0) (.int 0) (.bin .fdiv (.ix (.var 0) (.int 0)) (.var 1)))
 (.cons (.ret (.var 2))
 .nil))) .nil)
 (.cons (.asg (.tup (.cons (.name 2) (.cons (.name 3) .nil))) (.tup (.cons (.int 0) (.cons (.int 1) .nil))))
 (.cons (.while (.cmp .lt (.var 3) (.var 1)) (.cons (.put (.var 0) (.int 2) (.bin .add (.ix (.var 0) (.int 2)) (.int 1)))
 (.cons (.asg (.name 2) (.bin .add (.bin .mul (.var 2) (.int 33554432)) (.call fm (.cons (.ix (.var 0) (.int 1)) (.cons (.ix (.var 0) (.int 2)) .nil)))))
 (.cons (.asg (.name 3) (.bin .mul (.var 3) (.int 33554432)))
 .nil))))
 (.cons (.ret (.bin .mod (.var 2) (.var 1)))
 .nil))))⟩
def si (T:List FD) (n fm:Nat):Prop := ∀ {x k:Int} {M:Mem} {Q:QD},(∀ i,Q (.int i) M)->phi T n fm [.int x, .int k] M Q
theorem zY {f fm:Nat} {s:Stmt} (hf:T[f]? = some (oI s fm)) {n:Nat} (J:si T (n - 1) fm) (O : 2<=n) {b:Addr} {m:Int} {M:Mem} {Q:QD} (L:Box b M) (h1 : 0 < m) (h2:m<=2 ^ 100)
 (q:∀ r M',0<=r->r < m->Bx b M M'->Q (.int r) M'):phi T n f [.ref b, .int m] M Q:=by
 refine aA (by lia) hf rfl (ρ := [some _,some _,none,none]) rfl ?_
 unfold oI;obtain ⟨x,y,z,G⟩:=L;walk_at "st";refine cK G (d := .int x) rfl ?_;simp only [se];walk_at "wp"
 split
 ·next hx =>
  walk_at "st";refine cK G (d := .int x) rfl ?_;walk_at "wp";refine ⟨h1, ?_⟩;walk_at "st";refine cK G (d := .int x) rfl ?_;walk_at "wp";refine ⟨h1,by lia, ?_⟩
  refine bg G (j := 0) rfl ?_;walk_at "st";exact q _ _ (Lz _ (by lia)) (Ku _ h1) Bx.put
 ·next hx =>
  walk_at "st";refine ⟨by rw [Gd];lia, ?_⟩
  walk_at "st";refine ⟨5, ?_⟩;have go:∀ (f:Nat) (found reach z:Int) (M':Mem),m<=reach*33554432 ^ f->M' b=some (.lst [.int x, .int y, .int z])->Bx b M M' ->
   b6 (io (wOp wLt (im 3) (im 1))) (wSs (phi T (n - 1)) (MSs.cons (MS.put (ME.var 0) (ME.int 2) (ME.bin BOp.add ((ME.var 0).ix (ME.int 2)) (ME.int 1)))
    (MSs.cons (MS.asg (MG.name 2) (ME.bin BOp.add (ME.bin BOp.mul (ME.var 2) (ME.int 33554432)) (ME.call fm (MEs.cons ((ME.var 0).ix (ME.int 1)) (MEs.cons ((ME.var 0).ix (ME.int 2)) MEs.nil)))))
      (MSs.cons (MS.asg (MG.name 3) (ME.bin BOp.mul (ME.var 3) (ME.int 33554432))) MSs.nil))))
    { nx:=wSs (phi T (n - 1)) (MSs.cons (MS.ret (ME.bin BOp.mod (ME.var 2) (ME.var 1))) MSs.nil) { nx:=fun x M'=>Q D.non M',rt:=Q },rt:=Q } (f+1) [some (.ref b),some (.int m),some (.int found),some (.int reach)] M':=by
   intro f
   induction f with
   | zero =>
     intro found reach z M' hm F B;simp only [b6];walk_at "wp";rw [if_neg (by lia)]
     walk_at "st";exact ⟨h1,q _ _ (Lz _ (by lia)) (Ku _ h1) B⟩
   | succ f ih =>
     intro found reach z M' hm F B;rw [b6];walk_at "wp"
     split
     ·next U =>
      walk_at "st";refine cK F (d := .int z) rfl ?_;walk_at "wp";refine bg F (j := 2) rfl ?_;walk_at "st";refine ⟨kh (by decide), ?_⟩
      refine cK ab (d := .int y) rfl ?_;refine cK ab (d := .int (z+1)) rfl ?_;refine J fun i => ?_;walk_at "wp";walk_at "st";refine ⟨kh (by decide), ?_⟩
      exact ih _ _ (z+1) _ (by rw [O8, <- Int.pow_succ'];exact hm) ab (B.trans Bx.put)
     ·walk_at "st";exact ⟨h1,q _ _ (Lz _ (by lia)) (Ku _ h1) B⟩
  exact go 4 0 1 z M (by lia) G (Bx.refl ⟨x,y,z,G⟩)
def uT (T:List FD) (n f:Nat):Prop := ∀ {b:Addr} {m:Int} {M:Mem} {Q:QD},Box b M->0 < m->m<=2 ^ 100->(∀ r M',0<=r->r < m->Bx b M M'->Q (.int r) M')->phi T n f [.ref b, .int m] M Q
end
section
variable {T:List FD}
def fh (ns:List Int):Prop := ∀ x∈ns, -1000<=x/\x<=1000
theorem jF {lo:Int} {n:Nat}:(bO lo n).length=n:=by simp [bO]
theorem am {α:Type} {xs l r:List α} {x : α} (e:xs=l++x::r):l.length < xs.length:=by rw [e];simp
theorem lB {α:Type} {xs l r:List α} {x : α} (e:xs=l++x::r):xs[l.length]? = some x:=by rw [e];simp
noncomputable abbrev Pr:=List Int×List Int×List Int
noncomputable def prD (p:Pr):D := .tup [.tup (p.1.map .int), .tup (p.2.1.map .int), .tup (p.2.2.map .int)]
noncomputable def fj (p:Pr):HE := .tuple [.tuple (p.1.map .int), .tuple (p.2.1.map .int), .tuple (p.2.2.map .int)]
structure C5 (L0 L1 L2:Nat) (p:Pr):Prop where
 l0:p.1.length=L0
 l1:p.2.1.length=L1
 l2:p.2.2.length=L2
 s0:fh p.1
 s1:fh p.2.1
 s2:fh p.2.2
theorem ki {k:Nat} {M:Mem}:∀ ns:List Int,aH (rb k M) (ns.map D.int)=some (ns.map PyData.int)
 | [] => rfl
 | x::r=>by
   have e:rb k M (.int x)=some (.int x):=by cases k <;> rfl
   simp [aH,e,ki r]
theorem Dg {k:Nat} {M:Mem} (p:Pr):rb (k+2) M (prD p)=some (fj p):=by
 simp [rb,prD,fj,aH,ki]
theorem uU {k:Nat} {M:Mem}:∀ ps:List Pr,aH (rb (k+2) M) (ps.map prD)=some (ps.map fj)
 | [] => rfl
 | p::r=>by simp [aH,Dg,uU r]
theorem gf {k:Nat} {M:Mem} {a:Addr} {ds:List D} (h:M a=some (.lst ds)):rb (k+1) M (.ref a)=(aH (rb k M) ds).map IJ:=by
 simp only [rb,h]
theorem xA {Φ:Phi} {s:MS} {r:MSs} {E:b7} {ρ:al} {M:Mem} (I:al->Mem->Prop) (h1:∀ R:al->Mem->Prop,(∀ ρ M,I ρ M->R ρ M)->wS Φ s { E with nx:=R } ρ M) (h2:∀ ρ M,I ρ M->wSs Φ r E ρ M):wSs Φ (.cons s r) E ρ M:=by
 rw [bD];exact h1 _ h2
theorem Bx.none {b q:Addr} {M M':Mem} (h:Bx b M M') (z:M' q=none) (j:q≠b):M q=none:=by
 cases e:M q with
 | none=>rfl
 | some o=>rw [h.keep q o j e] at z;cases z
theorem xB {k:Nat}:(D1 k [D.int 0]).flatten=(D1 k (0:Int)).map D.int:=by
 induction k with
 | zero=>rfl
 | succ k ih=>rw [Hq,Hv,ih];rfl
end
section
theorem aI {α:Type} {f : α -> D} {b:BT} {tb:TCd} {chk:Mem->Prop} {N:NC} (I:List α -> al->Mem->List D->Prop) {ys:List α} {xs:List D} (hx:xs=ys.map f) {ρ:al} {M:Mem} {acc:List D}
 (h0:I [] ρ M acc)
 (q:∀ l ρ M acc,I l ρ M acc->chk M)
 (hs:∀ l x r ρ M acc,ys=l++x::r->I l ρ M acc -> ∃ ρ',b (f x) ρ = some ρ' /\ ∀ N':NC,(∀ ρ2 M2 j,I (l++[x]) ρ2 M2 j->N' ρ2 M2 j)->tb ρ' M acc N')
 (z:∀ ρ M acc,I ys ρ M acc->N ρ M acc):bR b tb chk N xs ρ M acc:=by
 subst hx;have g:∀ (r l:List α) (ρ:al) (M:Mem) (acc:List D),ys=l++r->I l ρ M acc->bR b tb chk N (r.map f) ρ M acc:=by
  intro r
  induction r with
  | nil=>intro l ρ M acc e i;rw [HU] at e;subst e;exact ⟨q _ _ _ _ i,z _ _ _ i⟩
  | cons x r ih =>
    intro l ρ M acc e i;obtain ⟨ρ',e1,h⟩:=hs l x r ρ M acc e i;exact ⟨q _ _ _ _ i, ρ',e1,h _ fun ρ2 M2 j B=>ih (l++[x]) ρ2 M2 j (by rw [e];simp) B⟩
 exact g ys [] ρ M acc rfl h0
theorem aP {α:Type} {f : α -> D} {b:BT} {tb:TSd} {chk:Mem->Prop} {E:b7} (I:List α -> al->Mem->Prop) {ys:List α} {xs:List D} (hx:xs=ys.map f) {ρ:al} {M:Mem}
 (h0:I [] ρ M)
 (j:∀ l ρ M,I l ρ M->chk M)
 (hs:∀ l x r ρ M,ys=l++x::r->I l ρ M -> ∃ ρ',b (f x) ρ = some ρ' /\ ∀ F:al->Mem->Prop,(∀ ρ2 M2,I (l++[x]) ρ2 M2->F ρ2 M2)->tb { E with nx:=F,ct:=F,bk:=E.nx } ρ' M)
 (q:∀ ρ M,I ys ρ M->E.nx ρ M):bw b tb chk E xs ρ M:=by
 subst hx;have g:∀ (r l:List α) (ρ:al) (M:Mem),ys=l++r->I l ρ M->bw b tb chk E (r.map f) ρ M:=by
  intro r
  induction r with
  | nil=>intro l ρ M e i;rw [HU] at e;subst e;exact ⟨j _ _ _ i,q _ _ i⟩
  | cons x r ih =>
    intro l ρ M e i;obtain ⟨ρ',e1,h⟩:=hs l x r ρ M e i;exact ⟨j _ _ _ i, ρ',e1,h _ fun ρ2 M2 z=>ih (l++[x]) ρ2 M2 (by rw [e];simp) z⟩
 exact g ys [] ρ M rfl h0
theorem dm {M M':Mem} {x:D} {ds:List D} (h:aq M x=some ds) (g:Ge M M'):aq M' x=some ds:=by
 cases x with
 | ref a =>
   simp only [aq] at h ⊢
   split at h
   ·next e=>rw [g _ _ e];exact h
   ·cases h
 | _=>exact h
theorem zZ {M:Mem} {x:D} {ns:List Int} {Q:QD} (h:aq M x=some (ns.map .int)) (q:Q (.int ns.sum) M):rq [x] M Q:=⟨_,_,rfl,h,q⟩
theorem kj {α:Type} {xs:List α} {k:Nat} {x : α} (h:xs[k]? = some x):atI xs (k:Int)=some x:=by
 have j:k < xs.length:=(GB.mp h).1;unfold atI ixN;rw [if_pos (by lia),if_pos (by lia)]
 exact h
theorem aM {n:Nat}:bO 0 n=(D0 n).map fun i=>D.int (i:Nat):=by simp [bO]
end
section
variable {T:List FD}
def Big (ns:List Int):Prop := ∀ x∈ns, -1000000000000<=x/\x<=1000000000000
noncomputable def sj (s:Stmt) (ft:Nat):FD:=⟨"_law_row",s,["_law_box_here", "_law_length", "_law_most"],2,
 (.cons (.asg (.name 2) (.ix (.lst (.cons (.int 9) (.cons (.int 9) (.cons (.int 9) (.cons (.bin .pow (.int 10) (.int 12)) .nil))))) (.call ft (.cons (.var 0) (.cons (.int 4) .nil)))))
 (.cons (.ret (.comp [none,(some 0),(some 2)] ["_law_k", "_law_box_here", "_law_most"] (.last (.rng1 (.var 1)) (.name 0) .nil (.bin .sub (.call ft (.cons (.var 1) (.cons (.bin .add (.bin .mul (.int 2) (.var 2)) (.int 1)) .nil))) (.var 2)))))
 .nil))⟩
def yw (T:List FD) (n f:Nat):Prop := ∀ {b:Addr} {L:Nat} {M:Mem} {Q:QD},L<=1000->Box b M ->
 (∀ (ns:List Int) p M',ns.length=L->Big ns->Bx b M M'->M p=none->M' p=some (.lst (ns.map .int))->Q (.ref p) M')->phi T n f [.ref b, .int L] M Q
theorem C6 {f ft:Nat} {s:Stmt} (hf:T[f]? = some (sj s ft)) {n:Nat} (B:uT T (n - 1) ft) (hn : 1<=n):yw T n f:=by
 intro b L M Q hL Y q;refine aA (by lia) hf rfl (ρ := [some _,some _,none]) rfl ?_
 unfold sj;walk_at "st";refine ⟨by decide,by decide,by decide,by rw [Gd];lia,fun p Z => ?_⟩
 have g0:=Ge.new (o := .lst [.int 9, .int 9, .int 9, .int (10 ^ (12:Int).toNat)]) Z;have J:p≠b:=fun z=>by obtain ⟨x,y,w,e⟩:=Y;rw [<- z,Z] at e;cases e
 have x0:=Bx.of Y g0;refine B x0.box (by decide) (by decide) fun w M1 w0 w1 x1 => ?_
 have O:=x1.keep p _ J ab;have hw:∃ m:Int,0<=m/\m<=1000000000000/\atI [D.int 9, .int 9, .int 9, .int (10 ^ (12:Int).toNat)] w=some (.int m):=by
  have:w=0∨w=1∨w=2∨w=3:=by lia
  rcases this with rfl | rfl | rfl | rfl
  ·exact ⟨9,by decide,by decide,rfl⟩
  ·exact ⟨9,by decide,by decide,rfl⟩
  ·exact ⟨9,by decide,by decide,rfl⟩
  ·exact ⟨_,by decide,by decide,rfl⟩
 obtain ⟨m,m0,m1,em⟩:=hw;refine cK O em ?_;have U:=x0.trans x1;walk_at "st";refine ⟨by lia,by lia, ?_⟩
 refine uS (I:=fun l ρ M' acc => ∃ (ns:List Int) (x:Option D),acc=ns.map .int/\ns.length=l.length/\Big ns/\Bx b M M' /\ ρ = [x,some (.ref b),some (.int m)]) ⟨[],none,rfl,rfl,fun _ h=>by simp at h,U,rfl⟩ (fun _ _ _ _ _=>trivial) ?_ ?_
 ·rintro l x r ρ M1 acc e ⟨ns,o,rfl,G,hs,x1,rfl⟩;refine ⟨_,rfl,fun N' hN => ?_⟩;walk_at "wp";refine ⟨bE (by decide), ?_⟩
  refine B x1.box (by lia) (by lia) fun v M2 h1 h2 x2 => ?_
  walk_at "wp";have:=am e;rw [jF] at this;refine ⟨by rw [r3,G,Gd];lia,hN _ _ _ ⟨ns++[v - m],_,by simp,by simp [G], ?_,x1.trans x2,rfl⟩⟩
  intro y hy
  rcases Gy.mp hy with h | h
  ·exact hs y h
  ·simp at h;subst h;lia
 ·rintro ρ M1 acc ⟨ns,o,rfl,G,hs,x1,rfl⟩ p2 j;rw [jF] at G;have F:p2≠b:=fun z=>by obtain ⟨x,y,w,e⟩:=x1.box;rw [<- z,j] at e;cases e
  exact q ns p2 _ (by lia) hs (x1.ge (Ge.new j)) (x1.none j F) ab
noncomputable def dot (a b:List Int):Int:=(IH (· * ·) a b).sum
theorem lD {B:Int}:∀ {l:List Int},(∀ x∈l, -B<=x/\x<=B) -> -(l.length*B)<=l.sum/\l.sum<=l.length*B
 | [],_=>by simp
 | x::r,h=>by
   obtain ⟨h1,h2⟩:=h x (by simp)
   obtain ⟨q,z⟩:=lD (l:=r) fun y j=>h y (by simp [j])
   rw [O9,HJ,Km,Jo];lia
theorem uV {x y:Int} (hx : -1000<=x/\x<=1000) (j : -1000000000000<=y/\y<=1000000000000) : -1000000000000000<=x*y/\x*y<=1000000000000000:=by
 have h:(x*y).natAbs<=1000*1000000000000:=by
  rw [Int.natAbs_mul];exact HS (by lia) (by lia)
 lia
theorem uW {a b:List Int} (j:fh a) (q:Big b) (z:a.length<=1000) : -(2 ^ 64) < dot a b/\dot a b < 2 ^ 64:=by
 have h:∀ x∈IH (· * ·) a b, -1000000000000000<=x/\x<=1000000000000000:=by
  intro x hx;obtain ⟨i,hi,e⟩:=HR.mp hx;rw [List.getElem_zipWith] at e;rw [<- e];exact uV (j _ (K0 _)) (q _ (K0 _))
 obtain ⟨h1,h2⟩:=lD h;have hlen:(IH (· * ·) a b).length<=1000:=by rw [NQ];lia
 unfold dot;have:((IH (· * ·) a b).length:Int)*1000000000000000<=1000*1000000000000000:=Int.mul_le_mul_of_nonneg_right (by lia) (by lia)
 lia
theorem oJ (a b:List Int):IH jg (a.map .int) (b.map .int)=(a.zip b).map fun xy => .tup [.int xy.1, .int xy.2]:=by
 rw [List.zipWith_map,NU,P0];rfl
theorem ig {α β γ:Type} (f : α -> β -> γ) (a:List α) (b:List β):IH f a b=(a.zip b).map fun xy=>f xy.1 xy.2:=by
 rw [NU,P0]
theorem uX {a b:List Int} {L:Nat} (j:a.length=L) (q:b.length=L):((D0 L).map fun i=>a.getD i 0*b.getD i 0).sum=dot a b:=by
 unfold dot;congr 1;apply Le
 ·simp [j,q]
 ·intro i h1 h2;have:i < L:=by simpa using h1
  simp [GG,tv (show i < a.length by lia),tv (show i < b.length by lia)]
end
section
variable {T:List FD}
noncomputable def oK (x:Str) (s:Stmt):FD:=⟨"_law_mixed",s,[x, "_law_k", "_law_once", "_law_twice"],2,(qo s).body⟩
theorem uY {f:Nat} {x:Str} {s:Stmt} (hf:T[f]? = some (oK x s)) {n:Nat} (j : 1<=n):si T n f:=by
 intro x k M Q q;refine aA j hf rfl (ρ := [some _,some _,none,none]) rfl ?_;unfold oK qo;walk_at "st";refine ⟨by decide,bE (by decide),kh (by decide),by decide, ?_⟩
 walk_at "st";refine ⟨by decide,bE ?_,by decide, ?_⟩
 ·have h1:=Lz ((x % 1000000007+7*k+1)*48271) (b := 2147483647) (by decide)
  have h2:=Ku ((x % 1000000007+7*k+1)*48271) (b := 2147483647) (by decide)
  lia
 walk_at "st";refine ⟨kh (by decide),by decide,by decide,by decide, ?_⟩
 exact q _
end
section
open PySem PySem.Spec PyProof.Rows L2.Srt
variable {T:List FD}
noncomputable abbrev K3:=Int×Int×Int
noncomputable abbrev Tm:=K3×Int
noncomputable def k3D (k:K3):D := .tup [.int k.1, .int k.2.1, .int k.2.2]
noncomputable def tmD (t:Tm):D := .tup [.int t.1.1, .int t.1.2.1, .int t.1.2.2, .int t.2]
noncomputable def kcD (t:Tm):D×D:=(k3D t.1, .int t.2)
noncomputable def k3K (k:K3):Ky := .tup [.int k.1, .int k.2.1, .int k.2.2]
def klt (a b:K3):Prop:=ltK (k3K a) (k3K b)=true
theorem kl {a b:K3} (h:k3D a=k3D b):a=b:=by
 obtain ⟨a1,a2,j⟩:=a;obtain ⟨b1,b2,b3⟩:=b;simp [k3D] at h;simp [h]
theorem A0 {a b:K3} (h:k3K a=k3K b):a=b:=by
 obtain ⟨a1,a2,j⟩:=a;obtain ⟨b1,b2,b3⟩:=b;simp [k3K] at h;simp [h]
noncomputable def cf (ts:List Tm) (k:K3):Int:=((ts.filter fun t=>decide (t.1=k)).map (·.2)).sum
theorem cj {k:K3}:cf [] k=0:=rfl
theorem aF {t:Tm} {ts:List Tm} {k:K3}:cf (t::ts) k=(if t.1=k then t.2 else 0)+cf ts k:=by
 unfold cf
 by_cases h:t.1=k
 ·rw [Ho (by simpa using h),if_pos h];simp
 ·rw [Hi (by simpa using h),if_neg h];simp
theorem bF {a b:List Tm} {k:K3}:cf (a++b) k=cf a k+cf b k:=by
 induction a with
 | nil=>simp [cj]
 | cons t a ih=>rw [K5,aF,aF,ih];lia
theorem A1 {a b:List Tm} (h:a.Perm b) {k:K3}:cf a k=cf b k:=by
 induction h with
 | nil=>rfl
 | cons x h ih=>rw [aF,aF,ih]
 | swap x y l=>simp only [aF];lia
 | trans _ _ j q=>rw [j,q]
theorem km {ts:List Tm} {k:K3} (h:∀ t∈ts,t.1≠k):cf ts k=0:=by
 induction ts with
 | nil=>rfl
 | cons t ts ih=>rw [aF,if_neg (h t (by simp)),ih fun u j=>h u (by simp [j])];rfl
theorem oM {ts:List Tm} (j:(ts.map (·.1)).Nodup) {t:Tm} (q:t∈ts):cf ts t.1=t.2:=by
 induction ts with
 | nil=>simp at q
 | cons u ts ih =>
   simp only [Gr,HV] at j;rw [aF]
   rcases Gj.mp q with z | z
   ·subst z;rw [if_pos rfl,km fun v B e=>j.1 (by rw [<- e];exact GF B)]
    lia
   ·rw [if_neg fun e=>j.1 (by rw [e];exact GF z),ih j.2 z];lia
noncomputable def cR (L:List Tm) (k:K3) (c:Int):List Tm:=if (L.any fun p=>decide (p.1=k))=true then L.map fun p=>if p.1=k then (p.1,p.2+c) else p else L++[(k,c)]
theorem A2 {L:List Tm} {k:K3}:dget (L.map kcD) (k3D k)=(L.find? fun p=>decide (p.1=k)).map fun p => .int p.2:=by
 unfold dget
 induction L with
 | nil=>rfl
 | cons t L ih =>
   by_cases h:t.1=k
   ·rw [Gr,KZ (by simp [kcD,h]),KZ (by simpa using h)];rfl
   ·rw [Gr,JG (by simp only [decide_eq_true_eq];exact fun e=>h (kl e)),JG (by simpa using h),ih]
theorem C7 {L:List Tm} {k:K3}:((L.map kcD).any fun p=>decide (p.1=k3D k))=L.any fun p=>decide (p.1=k):=by
 induction L with
 | nil=>rfl
 | cons t L ih =>
   rw [Gr,IF,IF,ih];congr 1
   by_cases h:t.1=k
   ·simp [kcD,h]
   ·rw [decide_eq_false h];exact decide_eq_false (fun e=>h (kl e))
theorem A3 {L:List Tm} (j:(L.map (·.1)).Nodup) {k:K3} {c:Int}:e7 (L.map kcD) (k3D k) (.int ((((L.find? fun p=>decide (p.1=k)).map (·.2)).getD 0)+c))=(cR L k c).map kcD:=by
 unfold e7 cR;rw [C7]
 split
 ·next h =>
  rw [Ir,Ir];apply GK;intro t q;simp only [Mq]
  by_cases e:t.1=k
  ·rw [if_pos (by rw [<- e];rfl),if_pos e]
   have:L.find? (fun p=>decide (p.1=k))=some t:=by
    clear h
    induction L with
    | nil=>simp at q
    | cons u L ih =>
      simp only [Gr,HV] at j
      rcases Gj.mp q with z | z
      ·subst z;rw [KZ (by simpa using e)]
      ·rw [JG (by simp;intro e2;exact j.1 (by rw [e2, <- e];exact GF z))]
       exact ih j.2 z
   rw [this];rfl
  ·rw [if_neg (c:=(kcD t).1=k3D k) (fun z=>e (kl z)),if_neg e]
 ·next h =>
  have:L.find? (fun p=>decide (p.1=k))=none:=by
   rw [Ks];intro x hx;simp only [decide_eq_true_eq];intro e;exact h (K6.mpr ⟨x,hx,by simpa using e⟩)
  rw [this];simp [kcD]
theorem lF {L:List Tm} {k:K3} {c:Int}:(cR L k c).map (·.1)=if (L.any fun p=>decide (p.1=k))=true then L.map (·.1) else L.map (·.1)++[k]:=by
 unfold cR
 split
 ·rw [Ir];apply GK;intro t _;simp only [Mq]
  split <;> rfl
 ·simp
theorem sn {L:List Tm} (j:(L.map (·.1)).Nodup) {k:K3} {c:Int}:((cR L k c).map (·.1)).Nodup:=by
 rw [lF]
 split
 ·exact j
 ·next h =>
  refine KW.mpr ⟨j,by simp,fun a z b q e => ?_⟩
  simp at q;subst q;subst e;obtain ⟨t,B,e⟩:=Gk.mp z;exact h (K6.mpr ⟨t,B,by simpa using e⟩)
theorem xC {L:List Tm} {k:K3} {c:Int} {a:K3} (h:a∈(cR L k c).map (·.1)):a∈L.map (·.1)∨a=k:=by
 rw [lF] at h
 split at h
 ·exact .inl h
 ·rcases Gy.mp h with z | z
  ·exact .inl z
  ·exact .inr (by simpa using z)
theorem xD {L:List Tm} {k:K3} {c:Int}:(cR L k c).length<=L.length+1:=by
 unfold cR;split <;> simp
theorem A4 {L:List Tm} (j:(L.map (·.1)).Nodup) {k a:K3} {c:Int}:cf (cR L k c) a=cf L a+if k=a then c else 0:=by
 unfold cR
 split
 ·next h =>
  obtain ⟨t,q,e⟩:=K6.mp h;have e:t.1=k:=by simpa using e
  clear h
  induction L with
  | nil=>simp at q
  | cons u L ih =>
    simp only [Gr,HV] at j;rw [Gr,aF,aF]
    by_cases eu:u.1=k
    ·have rest:(L.map fun p=>if p.1=k then (p.1,p.2+c) else p)=L:=by
      conv=>rhs;rw [<- List.map_id L]
      apply GK;intro p B;rw [if_neg fun z=>j.1 (by rw [eu, <- z];exact GF B)];rfl
     rw [rest,if_pos eu];dsimp only
     by_cases ea:u.1=a
     ·rw [if_pos ea,if_pos ea,if_pos (by rw [<- eu];exact ea)];lia
     ·rw [if_neg ea,if_neg ea,if_neg (by rw [<- eu];exact ea)];lia
    ·rcases Gj.mp q with z | z
     ·exact absurd (by rw [<- z];exact e) eu
     ·rw [ih j.2 z,if_neg eu];lia
 ·rw [bF,aF,cj];simp
noncomputable def tset (ts:List Tm):List Tm:=ts.foldl (fun L t=>cR L t.1 t.2) []
theorem cL {ts:List Tm} {t:Tm}:tset (ts++[t])=cR (tset ts) t.1 t.2:=by simp [tset]
theorem dG {α:Type} {P:List α -> Prop} (h0:P []) (h1:∀ l x,P l->P (l++[x])) (l:List α):P l:=by
 have:∀ r:List α,P r.reverse:=by
  intro r
  induction r with
  | nil=>exact h0
  | cons x r ih=>rw [List.reverse_cons];exact h1 _ _ ih
 have:=this l.reverse;rw [NA] at this;exact this
theorem fq (ts:List Tm):((tset ts).map (·.1)).Nodup:=dG (P:=fun ts=>((tset ts).map (·.1)).Nodup) (by simp [tset]) (fun l x ih=>by rw [cL];exact sn ih) ts
theorem A5 (ts:List Tm) (k:K3):cf (tset ts) k=cf ts k:=dG (P:=fun ts=>cf (tset ts) k=cf ts k) rfl (fun l x ih=>by
 rw [cL,A4 (fq l),ih,bF,aF,cj];lia) ts
theorem oO (ts:List Tm):(tset ts).length<=ts.length:=dG (P:=fun ts=>(tset ts).length<=ts.length) (by simp [tset]) (fun l x ih=>by
 rw [cL];have:=xD (L:=tset l) (k:=x.1) (c:=x.2);simp;lia) ts
theorem xE (ts:List Tm):∀ a∈(tset ts).map (·.1),a∈ts.map (·.1):=dG (P:=fun ts => ∀ a∈(tset ts).map (·.1),a∈ts.map (·.1)) (by simp [tset]) (fun l x ih a j=>by
 rw [cL] at j;rw [Hz]
 rcases xC j with z | z
 ·exact Hk _ (ih a z)
 ·exact GA _ (by simp [z])) ts
structure IsTask (ts rs:List Tm):Prop where
 srt:rs.Pairwise fun a b=>klt a.1 b.1
 nz:∀ r∈rs,r.2≠0
 cf:∀ k,cf rs k=cf ts k
 mem:∀ r∈rs,r.1∈ts.map (·.1)
 len:rs.length<=ts.length
theorem A6 {a:K3} (h:klt a a):False:=by
 have:=iz _ _ h;unfold klt at h;rw [h] at this;cases this
theorem IsTask.nodup {ts rs:List Tm} (h:IsTask ts rs):(rs.map (·.1)).Nodup:=by
 rw [Iu,GQ];refine h.srt.imp ?_;intro a b j e;rw [e] at j;exact A6 j
theorem IsTask.val {ts rs:List Tm} (h:IsTask ts rs) {r:Tm} (j:r∈rs):r.2=Mi.cf ts r.1:=by rw [<- h.cf,oM h.nodup j]
theorem Dh {ts:List Tm} {k:K3}:Mi.cf (ts.filter fun t => !(t.2==0)) k=Mi.cf ts k:=by
 induction ts with
 | nil=>rfl
 | cons t ts ih =>
   rw [aF]
   by_cases h:t.2=0
   ·rw [Hi (by simp [h]),ih,h];split <;> lia
   ·rw [Ho (by simp [h]),aF,ih]
theorem Ge.upd {M j:Mem} {d:Addr} {o:O} (g:Ge M j) (hd:M d=none):Ge M (af j d o):=fun a o' e=>by
 rw [aE (fun z=>by rw [z,hd] at e;cases e)];exact g _ _ e
noncomputable def eK (s:Stmt):FD:=⟨"task_of",s,["left", "right", "many", "terms", "sums", "k", "i", "j", "c"],4,
 (.cons (.asg (.name 4) (.dnew true))
 (.cons (.for (.tup (.cons (.name 5) (.cons (.name 6) (.cons (.name 7) (.cons (.name 8) .nil))))) (.seq (.var 3)) (.cons (.put (.var 4) (.tup (.cons (.var 5) (.cons (.var 6) (.cons (.var 7) .nil)))) (.bin .add (.dget (.var 4) (.tup (.cons (.var 5) (.cons (.var 6) (.cons (.var 7) .nil)))) (.int 0)) (.var 8)))
 .nil))
 (.cons (.ret (.tup (.cons (.var 0) (.cons (.var 1) (.cons (.var 2) (.cons (.comp [none,none,none,none] ["k", "i", "j", "c"] (.last (.seq (.sortI (.var 4))) (.tup (.cons (.tup (.cons (.name 0) (.cons (.name 1) (.cons (.name 2) .nil)))) (.cons (.name 3) .nil))) (.cons (.cmp .ne (.var 3) (.int 0)) .nil) (.tup (.cons (.var 0) (.cons (.var 1) (.cons (.var 2) (.cons (.var 3) .nil))))))) .nil))))))
 .nil)))⟩
theorem qp {f:Nat} {s:Stmt} (hf:T[f]? = some (eK s)) {n:Nat} (hn : 1<=n) {L R N:D} {x:D} {ts:List Tm} {M:Mem} {Q:QD} (hx:aq M x=some (ts.map tmD)) (hl:ts.length<=100000)
 (q:∀ (rs:List Tm) p M',IsTask ts rs->Ge M M'->M p=none->M' p=some (.lst (rs.map tmD))->Q (.tup [L,R,N, .ref p]) M'):phi T n f [L,R,N,x] M Q:=by
 refine aA (by lia) hf rfl (ρ := [some _,some _,some _,some _,none,none,none,none,none]) rfl ?_
 unfold eK;walk_at "st";intro d hd;walk_at "st";have g0:=Ge.new (o := .dct true []) hd;refine ⟨_,dm hx g0, ?_⟩;refine aP (I:=fun l ρ M' => ∃ Y Z o7 o8, ρ = [some L,some R,some N,some x,some (.ref d),Y,Z,o7,o8]/\Ge M M'/\M' d=some (.dct true ((tset l).map kcD))) rfl ⟨_,_,_,_,rfl,g0,ab⟩ (fun l ρ M' ⟨_,_,_,_,_,g,_⟩=>dm hx g) ?_ ?_
 ·rintro l t r ρ M1 e ⟨Y,Z,o7,o8,rfl,g1,B⟩;refine ⟨_,rfl,fun F hF => ?_⟩;have E3:=am e;have E6:=oO l;rw [bD];walk_at "wp";refine ⟨⟨_,_,B⟩,by rw [Gd];lia,_,_,B,rfl, ?_⟩
  have ek:D.tup [D.int t.1.1,D.int t.1.2.1,D.int t.1.2.2]=k3D t.1:=rfl;rw [ek,A2];have eg:((Option.map (fun p:Tm=>D.int p.2) ((tset l).find? fun p=>decide (p.1=t.1))).getD (.int 0)) = .int (((((tset l).find? fun p=>decide (p.1=t.1)).map (·.2)).getD 0)):=by
   cases (tset l).find? fun p=>decide (p.1=t.1) <;> rfl
  rw [eg];walk_at "wp";refine ⟨by rw [Gd];lia,oH B rfl (by rw [r3,Gd];lia) ?_⟩
  rw [A3 (fq l)];refine hF _ _ ⟨_,_,_,_,rfl,g1.upd hd, ?_⟩;rw [ab,cL]
 ·rintro ρ M1 ⟨Y,Z,o7,o8,rfl,g1,B⟩;dsimp only;walk_at "st";refine ⟨_,_,B, .tup [.tup [.int, .int, .int], .int],rfl,fun kv E4 => ?_,fun p ys hp z j => ?_⟩
  ·obtain ⟨t,_,rfl⟩:=Gk.mp E4;rfl
  rw [Ir] at z;obtain ⟨L',O,p2⟩:=cH (fun t:Tm=>kvD (kcD t)) z rfl;have G:(L'.map (·.1)).Nodup:=(O.map (·.1)).nodup_iff.mpr (fq ts);have E5:L'.Pairwise fun a b=>klt a.1 b.1:=by
   rw [<- p2] at j;unfold cu at j;rw [GQ] at j;rw [Iu,GQ] at G;refine (j.and G).imp ?_;rintro a b ⟨h1,h2⟩;unfold klt
   cases e1:ltK (k3K a.1) (k3K b.1) with
   | true=>rfl
   | false =>
     exfalso
     cases e2:ltK (k3K b.1) (k3K a.1) with
     | false=>exact h2 (A0 (fV _ _ e1 e2))
     | true =>
       have:ltK (kyD (kvD (kcD b))) (kyD (kvD (kcD a)))=true:=by
        show ltK (.tup [k3K b.1, .int b.2]) (.tup [k3K a.1, .int a.2])=true;unfold ltK at e2 ⊢;have e2:ar (k3K b.1) (k3K a.1) = .lt:=by simpa using e2
        simp only [ar,cmpKs];rw [e2];rfl
       rw [this] at h1;cases h1
  have g2:=g1.trans (Ge.new (o := .lst ys) hp);subst p2;refine ⟨_,ag ab, ?_⟩;have E7:L'.length<=ts.length:=by rw [O.length_eq];exact oO ts
  refine aI (f:=fun t:Tm=>kvD (kcD t)) (I:=fun l ρ M' acc=>(∃ o0 o1 o2 o3, ρ = [o0,o1,o2,o3])/\M'=af M1 p (.lst (L'.map fun t=>kvD (kcD t)))/\acc=(l.filter fun t => !(t.2==0)).map tmD) rfl ⟨⟨_,_,_,_,rfl⟩,rfl,rfl⟩ (fun _ _ _ _ hI=>by rw [hI.2.1];exact ag ab) ?_ ?_
  ·rintro l t r ρ M2 acc e ⟨⟨o0,o1,o2,o3,rfl⟩,rfl,rfl⟩;refine ⟨_,rfl,fun N' hN => ?_⟩;have E3:=am e;have E8:(l.filter fun t => !(t.2==0)).length<=l.length:=IA _ _;walk_at "wp";simp only [show (kcD t).2=D.int t.2 from rfl];walk_at "wp"
   by_cases U:t.2=0
   ·rw [if_neg (by simp [U])]
    exact hN _ _ _ ⟨⟨_,_,_,_,rfl⟩,rfl,by simp [IE,U]⟩
   ·rw [if_pos (by simp [U])]
    refine ⟨by rw [Gd];lia,by rw [r3,Gd];lia,hN _ _ _ ⟨⟨_,_,_,_,rfl⟩,rfl, ?_⟩⟩
    simp [IE,U,tmD]
  ·rintro ρ M2 acc ⟨_,rfl,rfl⟩ p2 hp2;refine ⟨by rw [Gd];lia, ?_⟩
   have J:M p2=none:=by
    cases hq:M p2 with
    | none=>rfl
    | some o=>rw [g2 _ _ hq] at hp2;cases hp2
   refine q (L'.filter fun t => !(t.2==0)) p2 _ ⟨E5.sublist List.filter_sublist,fun r hr=>by simpa using (IT.mp hr).2,fun k => ?_,fun r hr => ?_, ?_⟩ (g2.trans (Ge.new hp2)) J ab
   ·rw [Dh,A1 O,A5]
   ·have:=(IT.mp hr).1;exact xE ts _ (GF (O.mem_iff.mp this))
   ·have:=IA (fun t:Tm => !(t.2==0)) L';lia
end
section
open PySem PySem.Spec PyProof.Rows L2.Srt
variable {T:List FD}
noncomputable def gi (l:List Int) (i:Int):Int:=l.getD i.toNat 0
noncomputable def vk (rs:List Tm) (a b:List Int) (k:Int):Int:=((rs.filter fun r=>decide (r.1.1=k)).map fun r=>r.2*gi a r.1.2.1*gi b r.1.2.2).sum
noncomputable def val (rs:List Tm) (a b:List Int) (N:Nat):List Int:=(D0 N).map fun k=>vk rs a b (k:Nat)
theorem A7 {rs:List Tm} {r:Tm} {a b:List Int} {k:Int}:vk (rs++[r]) a b k=vk rs a b k+if r.1.1=k then r.2*gi a r.1.2.1*gi b r.1.2.2 else 0:=by
 unfold vk;rw [IE,Hz,Pk]
 by_cases h:r.1.1=k <;> simp [h]
theorem gR {rs:List Tm} {a b:List Int} {N:Nat}:(val rs a b N).length=N:=by simp [val]
theorem A8 {a b:List Int} {N:Nat}:val [] a b N=D1 N 0:=by
 unfold val;apply Le
 ·simp
 ·intro i h1 h2;simp [vk]
theorem ko {rs:List Tm} {a b:List Int} {N k:Nat} (j:k < N):(val rs a b N)[k]? = some (vk rs a b k):=by
 unfold val;rw [GH,Hy j];rfl
theorem xF {rs:List Tm} {r:Tm} {a b:List Int} {N k:Nat} (q:r.1.1=k) (B:k < N):(val rs a b N).set k (vk rs a b k+r.2*gi a r.1.2.1*gi b r.1.2.2)=val (rs++[r]) a b N:=by
 apply Jn;intro j
 by_cases z:j < N
 ·rw [ko z,A7]
  by_cases hjk:k=j
  ·subst hjk;rw [Ik (by rw [gR];exact B),if_pos q]
  ·rw [Jh hjk,ko z,if_neg (by rw [q];lia)];simp
 ·rw [HM (by rw [N6,gR];lia),HM (by rw [gR];lia)]
theorem uZ {M:Mem} {x d:D} {ds:List D} {i:Int} {Q:QD} (h:aq M x=some ds) (e:atI ds i=some d) (q:Q d M):wIx x (.int i) M Q:=by
 cases x with
 | ref a =>
   simp only [aq] at h
   split at h
   ·next e0=>cases h;exact cK e0 e q
   ·cases h
 | tup es=>cases h;exact ⟨i,d,rfl,e,q⟩
 | con es=>cases h;exact ⟨i,d,rfl,e,q⟩
 | _=>cases h
theorem iJ {l:List Int} {i:Int} (h0 : 0<=i) (h1:i < l.length):atI (l.map D.int) i=some (.int (gi l i)):=by
 obtain ⟨k,rfl⟩:∃ k:Nat,i=k:=⟨i.toNat,by lia⟩
 refine kj ?_;unfold gi;rw [GH,Gq,GG,tv (show k < l.length by lia)];rfl
noncomputable def kr (s:Stmt):FD:=⟨"value_of",s,["task", "one", "other", "left", "right", "many", "terms", "row", "k", "i", "j", "c"],3,
 (.cons (.asg (.tup (.cons (.name 3) (.cons (.name 4) (.cons (.name 5) (.cons (.name 6) .nil))))) (.var 0))
 (.cons (.asg (.name 7) (.bin .mul (.lst (.cons (.int 0) .nil)) (.var 5)))
 (.cons (.for (.tup (.cons (.name 8) (.cons (.name 9) (.cons (.name 10) (.cons (.name 11) .nil))))) (.seq (.var 6)) (.cons (.augI (.var 7) (.var 8) .add (.bin .mul (.bin .mul (.var 11) (.ix (.var 1) (.var 9))) (.ix (.var 2) (.var 10))))
 .nil))
 (.cons (.ret (.var 7))
 .nil))))⟩
structure InB (rs:List Tm) (la lb N:Nat):Prop where
 k:∀ r∈rs,0<=r.1.1/\r.1.1 < N
 i:∀ r∈rs,0<=r.1.2.1/\r.1.2.1 < la
 j:∀ r∈rs,0<=r.1.2.2/\r.1.2.2 < lb
 c:∀ r∈rs, -(2 ^ 64) < r.2/\r.2 < 2 ^ 64
def Med (l:List Int):Prop := ∀ x∈l, -(2 ^ 64) < x/\x < 2 ^ 64
theorem C8 {l:List Int} (h:Med l) {i:Int} : -(2 ^ 64) < gi l i/\gi l i < 2 ^ 64:=by
 unfold gi;rw [GG]
 cases e:l[i.toNat]? with
 | none=>simp
 | some x=>exact h x (Hc e)
theorem xG {f:Nat} {s:Stmt} (hf:T[f]? = some (kr s)) {n:Nat} (hn : 1<=n) {L R:D} {N:Nat} {p:Addr} {x y:D} {rs:List Tm} {a b:List Int} {M:Mem} {Q:QD} (hp:M p=some (.lst (rs.map tmD))) (hx:aq M x=some (a.map .int)) (hy:aq M y=some (b.map .int)) (hN:N<=1000) (U:InB rs a.length b.length N) (hm:Med b)
 (q:∀ p' M',Ge M M'->M p'=none->M' p'=some (.lst ((val rs a b N).map .int))->Q (.ref p') M'):phi T n f [.tup [L,R, .int N, .ref p],x,y] M Q:=by
 refine aA (by lia) hf rfl (ρ := [some _,some _,some _,none,none,none,none,none,none,none,none,none]) rfl ?_
 unfold kr;walk_at "st";walk_at "st";refine ⟨by rw [Gd];lia,fun p1 E3 => ?_⟩
 have g1:=Ge.new (o := .lst [.int 0]) E3;refine ⟨_,ab,by lia,by lia,by rw [Gd];simp;lia,fun p2 B => ?_⟩
 have g2:=g1.trans (Ge.new (o := .lst (D1 (N:Int).toNat [D.int 0]).flatten) B);have z:M p2=none:=by
  cases hq:M p2 with
  | none=>rfl
  | some o=>rw [g1 _ _ hq] at B;cases B
 have e2:af (af M p1 (.lst [.int 0])) p2 (.lst (D1 (N:Int).toNat [D.int 0]).flatten) p2=some (.lst ((val [] a b N).map .int)):=by
  rw [ab,xB,A8];simp
 generalize af (af M p1 (.lst [.int 0])) p2 (.lst (D1 (N:Int).toNat [D.int 0]).flatten)=M2 at g2 e2;walk_at "st";refine ⟨_,ag (g2 _ _ hp), ?_⟩;refine aP (I:=fun l ρ M' => ∃ o8 o9 G J, ρ = [some (.tup [L,R, .int N, .ref p]),some x,some y,some L,some R,some (.int N),some (.ref p),some (.ref p2),o8,o9,G,J]/\Ge M M'/\M' p2=some (.lst ((val l a b N).map .int))) rfl ⟨_,_,_,_,rfl,g2,e2⟩ (fun l ρ M' ⟨_,_,_,_,_,g,_⟩=>ag (g _ _ hp)) ?_ ?_
 ·rintro l r t ρ M3 e ⟨o8,o9,G,J,rfl,g3,Y⟩;have Z:r∈rs:=by rw [e];simp
  refine ⟨_,rfl,fun F hF => ?_⟩;rw [bD];walk_at "wp";obtain ⟨k0,k1⟩:=U.k r Z;obtain ⟨i0,i1⟩:=U.i r Z;obtain ⟨j0,j1⟩:=U.j r Z;obtain ⟨kn,ek⟩:∃ k:Nat,r.1.1=k:=⟨r.1.1.toNat,by lia⟩
  have O:kn < N:=by lia
  refine ⟨p2,_,_, .int (vk l a b kn),rfl,rfl,Y, ?_, ?_⟩
  ·rw [ek];refine kj ?_;rw [GH,ko O];rfl
  refine uZ (dm hx g3) (iJ i0 i1) ?_;walk_at "wp";refine ⟨bE (U.c r Z), ?_⟩;refine uZ (dm hy g3) (iJ j0 j1) ?_;walk_at "wp";refine ⟨kh (C8 hm), ?_⟩;rw [ek];refine bg Y (j:=kn) ?_ ?_
  ·unfold ixN;rw [r3,gR,if_pos (by lia),if_pos (by lia)];simp
  refine hF _ _ ⟨_,_,_,_,rfl,g3.upd z, ?_⟩;rw [ab, <- xF ek O,K7]
 ·rintro ρ M3 ⟨o8,o9,G,J,rfl,g3,Y⟩;dsimp only;walk_at "st";exact q p2 M3 g3 z Y
end
section
open PySem PySem.Spec PyProof.Rows L2.Srt
noncomputable def bh (f:K3->Int) (ts:List Tm):Int:=(ts.map fun t=>t.2*f t.1).sum
theorem fu {f:K3->Int}:bh f []=0:=rfl
theorem bX {f:K3->Int} {t:Tm} {ts:List Tm}:bh f (t::ts)=t.2*f t.1+bh f ts:=by simp [bh]
theorem cD {f:K3->Int} {a b:List Tm}:bh f (a++b)=bh f a+bh f b:=by simp [bh]
noncomputable def oP (ts:List Tm):List Tm:=ts.map fun t=>(t.1, -t.2)
theorem xH {f:K3->Int} {ts:List Tm}:bh f (oP ts) = -bh f ts:=by
 unfold oP
 induction ts with
 | nil=>rfl
 | cons t ts ih=>rw [Gr,bX,bX,ih];dsimp only;rw [Int.neg_mul];lia
theorem C9 {ts:List Tm} {k:K3}:cf (oP ts) k = -cf ts k:=by
 unfold oP
 induction ts with
 | nil=>rfl
 | cons t ts ih=>rw [Gr,aF,aF,ih];dsimp only;split <;> lia
theorem jG {f:K3->Int} {k:K3}:∀ ts:List Tm,bh f ts=cf ts k*f k+bh f (ts.filter fun t=>decide (t.1≠k))
 | [] => by simp [fu,cj]
 | t::ts=>by
   rw [bX,aF,jG (k:=k) ts]
   by_cases h:t.1=k
   ·rw [if_pos h,Hi (by simp [h]),Jo,h];lia
   ·rw [if_neg h,Ho (by simp [h]),bX,Int.zero_add];lia
theorem gh {k j:K3}:∀ ts:List Tm,cf (ts.filter fun t=>decide (t.1≠k)) j=if j=k then 0 else cf ts j
 | [] => by simp [cj]
 | t::ts=>by
   by_cases h:t.1=k
   ·rw [Hi (by simp [h]),gh ts,aF]
    split
    ·rfl
    ·next e=>rw [if_neg (by rw [h];exact fun z=>e z.symm)];lia
   ·rw [Ho (by simp [h]),aF,aF,gh ts]
    by_cases e:j=k
    ·rw [if_pos e,if_pos e,if_neg (by rw [e];exact h)];lia
    ·rw [if_neg e,if_neg e]
theorem lH {f:K3->Int}:∀ (n:Nat) (ts:List Tm),ts.length<=n->(∀ k,cf ts k=0)->bh f ts=0
 | _,[],_,_=>rfl
 | 0,_::_,h,_=>by simp at h
 | n+1,t::ts,h,z=>by
   rw [jG (k:=t.1),z,lH n]
   ·lia
   ·rw [Hi (by simp)]
    have:=IA (fun u:Tm=>decide (u.1≠t.1)) ts;simp at h;lia
   ·intro k;rw [gh,z];split <;> rfl
theorem A9 {f:K3->Int} {a b:List Tm} (h:∀ k,cf a k=cf b k):bh f a=bh f b:=by
 have:=lH (f:=f) _ (a++oP b) (Gi _) fun k=>by rw [bF,C9,h];lia
 rw [cD,xH] at this;lia
noncomputable def fkk (a b:List Int) (k:Int):K3->Int:=fun q=>if q.1=k then gi a q.2.1*gi b q.2.2 else 0
theorem gU {a b:List Int} {k:Int}:∀ rs:List Tm,vk rs a b k=bh (fkk a b k) rs
 | [] => rfl
 | r::rs=>by
   rw [bX, <- gU rs];unfold vk fkk
   by_cases h:r.1.1=k
   ·rw [Ho (by simpa using h),if_pos h,Gr,O9,O8]
   ·rw [Hi (by simpa using h),if_neg h];lia
theorem Di {rs ts:List Tm} (h:∀ k,cf rs k=cf ts k) {a b:List Int} {k:Int}:vk rs a b k=vk ts a b k:=by
 rw [gU,gU,A9 h]
theorem qq {α:Type} {lt : α -> α -> Prop} (as:∀ a b,lt a b->lt b a->False):∀ {l m:List α},l.Pairwise lt->m.Pairwise lt->(∀ x,x∈l↔x∈m)->l=m
 | [],[],_,_,_=>rfl
 | [],y::m,_,_,h=>by have:=(h y).mpr (by simp);simp at this
 | x::l,[],_,_,h=>by have:=(h x).mp (by simp);simp at this
 | x::l,y::m,q,hm,h=>by
   rw [Kq] at q hm;have e:x=y:=by
    rcases Gj.mp ((h x).mp (by simp)) with z | z
    ·exact z
    ·rcases Gj.mp ((h y).mpr (by simp)) with w | w
     ·exact w.symm
     ·exact (as _ _ (hm.1 _ z) (q.1 _ w)).elim
   subst e;rw [qq as q.2 hm.2 fun z => ?_];constructor
   ·intro j
    rcases Gj.mp ((h z).mp (by simp [j])) with w | w
    ·subst w;exact (as _ _ (q.1 _ j) (q.1 _ j)).elim
    ·exact w
   ·intro j
    rcases Gj.mp ((h z).mpr (by simp [j])) with w | w
    ·subst w;exact (as _ _ (hm.1 _ j) (hm.1 _ j)).elim
    ·exact w
theorem IsTask.iff {ts rs:List Tm} (h:IsTask ts rs) {r:Tm}:r∈rs↔r.2≠0/\r.2=Mi.cf ts r.1:=by
 constructor
 ·exact fun j=>⟨h.nz r j,h.val j⟩
 ·rintro ⟨h1,h2⟩;apply Ma;intro z;apply h1;rw [h2, <- h.cf];refine km fun t q e=>z ?_;have:=h.val q;rw [e, <- h2] at this;have e2:t=r:=Pz e this;rw [<- e2];exact q
theorem IsTask.uniq {ts ts' rs rs':List Tm} (h:IsTask ts rs) (h':IsTask ts' rs') (e:∀ k,Mi.cf ts k=Mi.cf ts' k):rs=rs':=by
 refine qq (fun a b h1 h2 => ?_) h.srt h'.srt fun r=>by rw [h.iff,h'.iff,e]
 have j:=iz _ _ h1;unfold klt at h2;rw [h2] at j;cases j
end
section
open PySem PySem.Spec PyProof.Rows L2.Srt
variable {T:List FD}
noncomputable def bq (n:Nat) (F:Nat->Int):Int:=((D0 n).map F).sum
theorem br {n:Nat} {F G:Nat->Int} (h:∀ i,i < n->F i=G i):bq n F=bq n G:=by
 unfold bq;rw [GK fun i hi=>h i (GL.mp hi)]
theorem cM {n:Nat} {F:Nat->Int}:bq (n+1) F=bq n F+F n:=by
 unfold bq;rw [JL];simp
theorem xI {n:Nat} {F G:Nat->Int}:bq n (fun i=>F i+G i)=bq n F+bq n G:=by
 induction n with
 | zero=>rfl
 | succ n ih=>rw [cM,cM,cM,ih];lia
theorem gj {n:Nat} {F:Nat->Int} (h:∀ i,i < n->F i=0):bq n F=0:=by
 induction n with
 | zero=>rfl
 | succ n ih=>rw [cM,ih fun i hi=>h i (by lia),h n (by lia)];rfl
noncomputable def fw (n m:Nat) (g:Nat->Nat->Tm):List Tm:=(D0 n).flatMap fun i=>(D0 m).map (g i)
noncomputable def ck (i j:Nat):Tm:=(((i+j:Nat),(i:Int),(j:Int)),1)
noncomputable def bU (n m:Nat):List Tm:=fw n m ck
end
section
open PySem PySem.Spec PyProof.Rows L2.Srt
variable {T:List FD}
noncomputable def oQ (s:Stmt) (ft:Nat):FD:=⟨"line_task",s,["n", "m", "terms"],2,
 (.cons (.asg (.name 2) (.comp [none,none,(some 1)] ["i", "j", "m"] (.more (.rng1 (.var 0)) (.name 0) .nil (.last (.rng1 (.var 2)) (.name 1) .nil (.tup (.cons (.bin .add (.var 0) (.var 1)) (.cons (.var 0) (.cons (.var 1) (.cons (.int 1) .nil)))))))))
 (.cons (.ret (.call ft (.cons (.var 0) (.cons (.var 1) (.cons (.bin .sub (.bin .add (.var 0) (.var 1)) (.int 1)) (.cons (.var 2) .nil))))))
 .nil))⟩
theorem xJ {n m:Nat} {g:Nat->Nat->Tm}:(fw n m g).length=n*m:=by
 unfold fw;rw [List.length_flatMap]
 induction n with
 | zero=>simp
 | succ n ih=>rw [JL,Hz,Pk,ih,Jj];simp
theorem v9 {l:List Nat} {i:Nat} {G:Nat->List Tm}:(l++[i]).flatMap G=l.flatMap G++G i:=by simp
theorem xK {l:List Nat} {m:Nat} {g:Nat->Nat->Tm}:(l.flatMap fun i=>(D0 m).map (g i)).length=l.length*m:=by
 induction l with
 | nil=>simp
 | cons i l ih=>rw [Hm,D2,ih,HJ,Jj];simp;lia
theorem qr {f ft:Nat} {s s':Stmt} (hf:T[f]? = some (oQ s ft)) (L:T[ft]? = some (eK s')) {k:Nat} (Y : 2<=k) {n m:Nat} {M:Mem} {Q:QD} (O:n<=100) (hm:m<=100)
 (q:∀ (rs:List Tm) p M',IsTask (bU n m) rs->Ge M M'->M p=none->M' p=some (.lst (rs.map tmD))->Q (.tup [.int n, .int m, .int (n+m - 1), .ref p]) M'):phi T k f [.int n, .int m] M Q:=by
 refine aA (by lia) hf rfl (ρ := [some _,some _,none]) rfl ?_
 unfold oQ;walk_at "st";refine ⟨by lia,by lia, ?_⟩
 refine aI (f:=fun i=>D.int (i:Nat)) (I:=fun l ρ M' acc=>(∃ o0 z, ρ = [o0,z,some (.int m)])/\M'=M/\acc=(l.flatMap fun i=>(D0 m).map (ck i)).map tmD) aM ⟨⟨_,_,rfl⟩,rfl,rfl⟩ (fun _ _ _ _ _=>trivial) ?_ ?_
 ·rintro l i r ρ M1 acc e ⟨⟨o0,z,rfl⟩,rfl,rfl⟩;refine ⟨_,rfl,fun N' U => ?_⟩;have G:=am e;rw [Gz] at G;walk_at "wp";refine ⟨by lia,by lia, ?_⟩
  refine aI (f:=fun i=>D.int (i:Nat)) (I:=fun l' ρ M' acc=>(∃ z, ρ = [some (.int i),z,some (.int m)])/\M'=M1/\acc=((l.flatMap fun i=>(D0 m).map (ck i))++l'.map (ck i)).map tmD) aM ⟨⟨_,rfl⟩,rfl,by simp⟩ (fun _ _ _ _ _=>trivial) ?_ ?_
  ·rintro l' j r' ρ M2 acc e' ⟨⟨z,rfl⟩,rfl,rfl⟩;refine ⟨_,rfl,fun Z J => ?_⟩;have B:=am e';rw [Gz] at B;have hmul:l.length*m<=100*100:=HS (by lia) (by lia)
   walk_at "wp";refine ⟨by rw [Gd];lia,by rw [r3,D2,xK,r3,Gd];lia,J _ _ _ ⟨⟨_,rfl⟩,rfl, ?_⟩⟩
   simp [tmD,ck]
  ·rintro ρ M2 acc ⟨⟨z,rfl⟩,rfl,rfl⟩;refine U _ _ _ ⟨⟨_,_,rfl⟩,rfl, ?_⟩;rw [v9];simp
 ·rintro ρ M1 acc ⟨_,rfl,rfl⟩ p hp;have eL:((D0 (n:Int).toNat).flatMap fun i=>(D0 m).map (ck i))=bU n m:=by rw [Gq];rfl
  rw [eL];have hl:(bU n m).length<=100*100:=by unfold bU;rw [xJ];exact HS O hm
  walk_at "st";refine qp L (by lia) (ag ab) (by lia) fun rs p2 M2 h1 g F e2 => ?_
  have g1:=Ge.new (o := .lst ((bU n m).map tmD)) hp;refine q rs p2 M2 h1 (g1.trans g) ?_ e2
  cases hq:M1 p2 with
  | none=>rfl
  | some o=>rw [g1 _ _ hq] at F;cases F
end
section
open PySem PySem.Spec PyProof.Rows L2.Srt
theorem ku {k:Nat} {M:Mem} {p:Addr} {ns:List Int} (h:M p=some (.lst (ns.map .int))):rb (k+1) M (.ref p)=some (.list (ns.map .int)):=by
 rw [gf h,ki];rfl
theorem oR (a:List Int):GR (.list (a.map .int)) (.list (a.map .int))=true:=by
 simp only [GR]
 induction a with
 | nil=>rfl
 | cons x a ih=>simp [HC,GR,ih]
theorem oS {b p:Addr} {M:Mem} (j:Box b M) (q:M p=none):p≠b:=fun z=>by
 obtain ⟨x,y,w,e⟩:=j;rw [<- z,q] at e;cases e
noncomputable def eA (t:Tm):HE := .tuple [.int t.1.1, .int t.1.2.1, .int t.1.2.2, .int t.2]
theorem Dj {k:Nat} {M:Mem} (t:Tm):rb (k+2) M (tmD t)=some (eA t):=by
 simp [tmD,rb,aH,eA]
theorem va {k:Nat} {M:Mem}:∀ ts:List Tm,aH (rb (k+2) M) (ts.map tmD)=some (ts.map eA)
 | [] => rfl
 | t::r=>by simp [aH,Dj,va r]
theorem qt:∀ ts:List Tm,HC (ts.map eA) (ts.map eA)=true
 | [] => rfl
 | t::r=>by simp [HC,GR,qt r,eA]
theorem qu {M:Mem} {p:Addr} {ts:List Tm} {a b c:Int} (h:M p=some (.lst (ts.map tmD))):rb 16 M (.tup [.int a, .int b, .int c, .ref p])=some (.tuple [.int a, .int b, .int c, .list (ts.map eA)]):=by
 have e:rb 15 M (.ref p)=some (.list (ts.map eA)):=by rw [gf h,va];rfl
 have ei:∀ x:Int,rb 15 M (.int x)=some (.int x):=fun _=>rfl;show (aH (rb 15 M) [.int a, .int b, .int c, .ref p]).map PyData.tuple=_;simp [aH,e,ei]
theorem xL {ts:List Tm} {a b c:Int}:GR (.tuple [.int a, .int b, .int c, .list (ts.map eA)]) (.tuple [.int a, .int b, .int c, .list (ts.map eA)])=true:=by
 simp [GR,HC,qt]
theorem su {n m:Nat} {g:Nat->Nat->Tm} (z:∀ i j,(g i j).1.2=((i:Int),(j:Int))):((fw n m g).map (·.1)).Nodup:=by
 unfold fw;rw [List.map_flatMap,Iu,Nk];refine ⟨fun i _ => ?_, ?_⟩
 ·rw [Ir,GQ];refine (Iu.mp P1).imp ?_;intro a b q e;have h:=congrArg (fun k:K3=>k.2.2) e;simp only [Mq,z] at h;lia
 ·refine (Iu.mp P1).imp ?_;intro a b q x hx y B e;rw [Ir] at hx B;obtain ⟨u,_,rfl⟩:=Gk.mp hx;obtain ⟨v,_,rfl⟩:=Gk.mp B;have h:=congrArg (fun k:K3=>k.2.1) e;simp only [Mq,z] at h;lia
theorem xM {n m:Nat} {g:Nat->Nat->Tm} {t:Tm} (h:t∈fw n m g):∃ i j,i < n/\j < m/\t=g i j:=by
 obtain ⟨i,hi,h⟩:=K8.mp h;obtain ⟨j,q,rfl⟩:=Gk.mp h;exact ⟨i,j,GL.mp hi,GL.mp q,rfl⟩
theorem IsTask.sub {ts rs:List Tm} (h:IsTask ts rs) (z:(ts.map (·.1)).Nodup) {r:Tm} (j:r∈rs):r∈ts:=by
 obtain ⟨u,q,e⟩:=Gk.mp (h.mem r j);have:=h.val j;rw [<- e,oM z q] at this;have e2:u=r:=Pz e this.symm;rw [<- e2];exact q
theorem jH {n m:Nat}:((bU n m).map (·.1)).Nodup:=su fun _ _=>rfl
theorem Aa {n m:Nat} {rs:List Tm} (h:IsTask (bU n m) rs) (z : 1<=n):InB rs n m (n+m - 1):=by
 have key:∀ r∈rs,(0<=r.1.1/\r.1.1 < (n+m - 1:Nat))/\(0<=r.1.2.1/\r.1.2.1 < n)/\(0<=r.1.2.2/\r.1.2.2 < m)/\(-(2 ^ 64) < r.2/\r.2 < 2 ^ 64):=fun r q=>by
  obtain ⟨i,j,hi,B,rfl⟩:=xM (h.sub jH q);unfold ck;dsimp only;exact ⟨by lia,by lia,by lia,by decide⟩
 exact ⟨fun r q=>(key r q).1,fun r q=>(key r q).2.1,fun r q=>(key r q).2.2.1,fun r q=>(key r q).2.2.2⟩
theorem Ab {l:List Int} (h:Big l):Med l:=fun x hx=>by have:=h x hx;lia
end
section
open PySem PySem.Spec PyProof.Rows L2.Srt
variable {T:List FD}
theorem vc {n k:Nat} {F:Nat->Int} (h:k < n):bq n (fun i=>if k=i then F i else 0)=F k:=by
 induction n with
 | zero=>lia
 | succ n ih =>
   rw [cM]
   by_cases e:k=n
   ·subst e;rw [if_pos rfl,gj fun i hi=>if_neg (by lia)];lia
   ·rw [if_neg e,ih (by lia)];lia
end
section
open PySem PySem.Spec PyProof.Rows L2.Srt
variable {T:List FD}
noncomputable def idx (l:List Int):List (Int×Int):=l.mapIdx fun i x=>((i:Nat),x)
noncomputable def nz (l:List Int):List (Int×Int):=(idx l).filter fun q => !(q.2==0)
noncomputable def pD (q:Int×Int):D := .tup [.int q.1, .int q.2]
theorem qv {l:List Int}:(idx l).length=l.length:=by simp [idx]
theorem oT {l:List Int}:(nz l).length<=l.length:=by
 unfold nz;exact J1 (IA _ _) (by rw [qv];exact Gi _)
theorem xN {l:List Int}:eU (l.map .int)=(idx l).map pD:=by
 unfold eU idx;apply Jn;intro j;simp only [Ll,GH]
 cases l[j]? <;> rfl
noncomputable def cz (i a j b:Int) (zs:List (Int×Int)):List Tm:=zs.map fun z=>((z.1,i,j),a*b*z.2)
noncomputable def cA (i a:Int) (ys zs:List (Int×Int)):List Tm:=ys.flatMap fun y=>cz i a y.1 y.2 zs
noncomputable def dH (xs ys zs:List (Int×Int)):List Tm:=xs.flatMap fun x=>cA x.1 x.2 ys zs
noncomputable def oU (p:Pr):List Tm:=dH (nz p.1) (nz p.2.1) (nz p.2.2)
noncomputable def sv (ps:List Pr):List Tm:=ps.flatMap oU
noncomputable abbrev bd (x:Int):Prop := -1000000000000<=x/\x<=1000000000000
theorem vd {l:List Int} (h:Big l):∀ z∈nz l,bd z.2:=fun z j=>by
 unfold nz at j;have j:=(IT.mp j).1;unfold idx at j;obtain ⟨i,hi,e⟩:=Pm.mp j;rw [<- e];exact h _ (K0 hi)
end
section
open PySem PySem.Spec PyProof.Rows L2.Srt
noncomputable def S1 (zs:List (Int×Int)) (k:Int):Int:=(zs.map fun z=>if z.1=k then z.2 else 0).sum
theorem bv {z:Int×Int} {zs:List (Int×Int)} {k:Int}:S1 (z::zs) k=(if z.1=k then z.2 else 0)+S1 zs k:=by simp [S1]
theorem qw {α:Type} {F : α -> List Tm} {k:K3}:∀ l:List α,cf (l.flatMap F) k=(l.map fun x=>cf (F x) k).sum
 | [] => rfl
 | x::l=>by rw [Hm,bF,qw l];simp
theorem kw {i a j b k i' j':Int}:∀ {zs:List (Int×Int)},cf (cz i a j b zs) (k,i',j')=if i=i'/\j=j' then a*b*S1 zs k else 0
 | [] => by simp [cz,cj,S1]
 | z::zs=>by
   rw [show cz i a j b (z::zs)=((z.1,i,j),a*b*z.2)::cz i a j b zs from rfl,aF,kw,bv]
   by_cases h:i=i'/\j=j'
   ·obtain ⟨rfl,rfl⟩:=h
    by_cases q:z.1=k
    ·subst q;simp [Lp]
    ·have : ¬ ((z.1,i,j)=(k,i,j)):=fun e=>q (congrArg (·.1) e);rw [if_neg this,if_pos ⟨rfl,rfl⟩,if_pos ⟨rfl,rfl⟩,if_neg q];simp
   ·have : ¬ ((z.1,i,j)=(k,i',j')):=fun e=>h ⟨congrArg (·.2.1) e,congrArg (·.2.2) e⟩;rw [if_neg this,if_neg h,if_neg h];rfl
theorem qz {i a k i' j':Int} {zs:List (Int×Int)}:∀ {ys:List (Int×Int)},cf (cA i a ys zs) (k,i',j')=if i=i' then a*S1 ys j'*S1 zs k else 0
 | [] => by simp [cA,cj,S1]
 | y::ys=>by
   rw [show cA i a (y::ys) zs=cz i a y.1 y.2 zs++cA i a ys zs from by simp [cA],bF,qz,kw,bv]
   by_cases h:i=i'
   ·subst h
    by_cases j:y.1=j'
    ·subst j;simp [Lp,Jo]
    ·rw [if_neg (fun e=>j e.2),if_pos rfl,if_pos rfl,if_neg j];simp
   ·rw [if_neg (fun e=>h e.1),if_neg h,if_neg h];rfl
theorem qA {k i' j':Int} {ys zs:List (Int×Int)}:∀ {xs:List (Int×Int)},cf (dH xs ys zs) (k,i',j')=S1 xs i'*S1 ys j'*S1 zs k
 | [] => by simp [dH,cj,S1]
 | x::xs=>by
   rw [show dH (x::xs) ys zs=cA x.1 x.2 ys zs++dH xs ys zs from by simp [dH],bF,qA,qz,bv]
   by_cases h:x.1=i'
   ·subst h;simp [Jo]
   ·rw [if_neg h,if_neg h];simp
noncomputable def gz (l:List Int) (i:Int):Int:=if i < 0 then 0 else l.getD i.toNat 0
theorem ve {l:List Int} {i:Int} (h:i < 0):gz l i=0:=if_pos h
theorem vf {i:Int}:gz [] i=0:=by unfold gz;split <;> simp
theorem kx {x:Int} {l:List Int} {i:Int}:gz (x::l) i=if i=0 then x else gz l (i - 1):=by
 unfold gz
 by_cases h:i < 0
 ·rw [if_pos h,if_neg (by lia),if_pos (by lia)]
 ·rw [if_neg h]
  by_cases h0:i=0
  ·subst h0;simp
  ·rw [if_neg h0,if_neg (by lia)]
   obtain ⟨n,rfl⟩:∃ n:Nat,i=((n+1:Nat):Int):=⟨(i - 1).toNat,by lia⟩
   rw [show (((n+1:Nat):Int) - 1).toNat=n by lia,Gq]
   simp
theorem vg {a b:List Int}:∀ {i:Int},gz (a++b) i=if i < a.length then gz a i else gz b (i - a.length):=by
 induction a with
 | nil =>
   intro i
   by_cases h:i < 0
   ·rw [if_pos (by simpa using h),Ls,ve h,ve h]
   ·rw [if_neg (by simpa using h)];simp
 | cons x a ih =>
   intro i;rw [K5,kx,kx,ih,HJ]
   by_cases h0:i=0
   ·subst h0;rw [if_pos rfl,if_pos rfl,if_pos (by lia)]
   ·rw [if_neg h0,if_neg h0]
    by_cases h:i < ((a.length+1:Nat):Int)
    ·rw [if_pos (by lia),if_pos h]
    ·rw [if_neg (by lia),if_neg h]
     congr 1;lia
theorem jI {l:List Int} {i:Int} (h:gz l i≠0) : 0<=i/\i < l.length:=by
 unfold gz at h
 by_cases hi:i < 0
 ·rw [if_pos hi] at h;exact absurd rfl h
 ·rw [if_neg hi] at h;refine ⟨by lia, ?_⟩
  by_cases hl:i.toNat < l.length
  ·lia
  ·rw [GG,HM (by lia)] at h;exact absurd rfl h
theorem dY {a b:List (Int×Int)} {k:Int}:S1 (a++b) k=S1 a k+S1 b k:=by simp [S1]
theorem fA {k:Int}:∀ zs:List (Int×Int),S1 (zs.filter fun q => !(q.2==0)) k=S1 zs k
 | [] => rfl
 | z::zs=>by
   rw [bv]
   by_cases h:z.2=0
   ·rw [Hi (by simp [h]),fA zs,h];simp
   ·rw [Ho (by simp [h]),bv,fA zs]
theorem gk (l:List Int) (k:Int):S1 (idx l) k=gz l k:=dG (P:=fun l=>S1 (idx l) k=gz l k) (by rw [vf];rfl) (fun l x ih=>by
 have e:idx (l++[x])=idx l++[(((l.length:Nat):Int),x)]:=by simp [idx,List.mapIdx_append]
 rw [e,dY,ih,vg,bv];simp only [S1,Ji,List.sum_nil]
 by_cases h:k < l.length
 ·rw [if_pos h,if_neg (by lia)];lia
 ·rw [if_neg h,kx,vf];have z:gz l k=0:=by
   cases Decidable.em (gz l k=0) with
   | inl h=>exact h
   | inr h'=>exact absurd (jI h').2 h
  rw [z]
  by_cases e:(l.length:Int)=k
  ·rw [if_pos e,if_pos (by lia)];lia
  ·rw [if_neg e,if_neg (by lia)];rfl) l
theorem Ac {p:Pr} {k i j:Int}:cf (oU p) (k,i,j)=gz p.1 i*gz p.2.1 j*gz p.2.2 k:=by
 unfold oU;rw [qA];unfold nz;rw [fA,fA,fA,gk,gk,gk]
noncomputable def Tn (ps:List Pr) (k i j:Int):Int:=(ps.map fun p=>gz p.1 i*gz p.2.1 j*gz p.2.2 k).sum
theorem Ad {ps:List Pr} {k i j:Int}:cf (sv ps) (k,i,j)=Tn ps k i j:=by
 unfold sv Tn;rw [qw];congr 1;exact GK fun p _=>Ac
theorem lJ {a b:List Pr} {k i j:Int}:Tn (a++b) k i j=Tn a k i j+Tn b k i j:=by simp [Tn]
theorem eM {p:Pr} {a:List Pr} {k i j:Int}:Tn (p::a) k i j=gz p.1 i*gz p.2.1 j*gz p.2.2 k+Tn a k i j:=by simp [Tn]
theorem vh {L0 L1 L2:Nat} {k i j:Int}:∀ {us:List Pr},(∀ u∈us,u.1.length=L0/\u.2.1.length=L1/\u.2.2.length=L2)->Tn us k i j≠0->(0<=k/\k < L2)/\(0<=i/\i < L0)/\(0<=j/\j < L1)
 | [],_,h=>absurd (by simp [Tn]) h
 | u::us,q,h=>by
   obtain ⟨e0,e1,e2⟩:=q u (by simp)
   rw [eM] at h
   by_cases z:gz u.1 i*gz u.2.1 j*gz u.2.2 k=0
   ·rw [z,Int.zero_add] at h;exact vh (fun v B=>q v (by simp [B])) h
   ·have a1:gz u.1 i≠0:=fun e=>z (by rw [e];simp)
    have a2:gz u.2.1 j≠0:=fun e=>z (by rw [e];simp)
    have F:gz u.2.2 k≠0:=fun e=>z (by rw [e];simp)
    have:=jI a1;have:=jI a2;have:=jI F;lia
end
section
open PySem PySem.Spec PyProof.Rows L2.Srt
variable {T:List FD}
noncomputable def one (L:Nat) (k:Int):List Int:=(D0 L).map fun h=>if ((h:Nat):Int)=k then 1 else 0
theorem ky {L:Nat} {k:Int}:(one L k).length=L:=by simp [one]
theorem oV {L:Nat} {k i:Int} (h0 : 0<=k) (h1:k < L):gz (one L k) i=if i=k then 1 else 0:=by
 unfold gz one
 by_cases hi:i < 0
 ·rw [if_pos hi,if_neg (by lia)]
 ·rw [if_neg hi,GG,GH]
  by_cases hl:i.toNat < L
  ·rw [Hy hl];simp only [IU,P2]
   by_cases e:i=k
   ·rw [if_pos (by lia),if_pos e]
   ·rw [if_neg (by lia),if_neg e]
  ·rw [HM (by simp;lia),if_neg (by lia)];rfl
end
section
open PySem PySem.Spec PyProof.Rows L2.Srt
noncomputable def tm (p:Pr) (k i j:Int):Int:=gz p.1 i*gz p.2.1 j*gz p.2.2 k
theorem Dl {p:Pr} {a:List Pr} {k i j:Int}:Tn (p::a) k i j=tm p k i j+Tn a k i j:=eM
end
section
open PySem PySem.Spec PyProof.Rows L2.Srt
variable {T:List FD}
def Within (B:Int) (l:List Int):Prop := ∀ x∈l, -B<=x/\x<=B
structure Dr (B:Int) (L0 L1 L2:Nat) (p:Pr):Prop where
 l0:p.1.length=L0
 l1:p.2.1.length=L1
 l2:p.2.2.length=L2
 e0:Within B p.1
 e1:Within B p.2.1
 e2:Within B p.2.2
end
section
open PySem PySem.Spec PyProof.Rows L2.Srt
variable {T:List FD}
theorem oW {L:Nat} {k:Int}:Within 1 (one L k):=fun x hx=>by
 unfold one at hx;obtain ⟨h,_,rfl⟩:=Gk.mp hx
 split <;> lia
end
section
open PySem PySem.Spec PyProof.Rows L2.Srt
theorem dI {F:Nat->Int} {n:Nat} {i:Nat} (h:i < n):gz ((D0 n).map F) (i:Nat)=F i:=by
 unfold gz;rw [if_neg (by lia),Gq,GG,GH,Hy h];rfl
end
section
open PySem PySem.Spec PyProof.Rows L2.Srt
variable {T:List FD}
noncomputable def iK (n i:Nat):List Int:=(D0 (2*n - 1)).map fun k=>if k=2*i then 1 else if i<=k/\k < i+n then -1 else 0
noncomputable def bb (n i j:Nat):List Int:=(D0 n).map fun h=>if h=i∨h=j then 1 else 0
noncomputable def ppI (n i:Nat):List Pr:=(one n (i:Nat),one n (i:Nat),iK n i)::(D0 i).map fun j=>(bb n i j,bb n i j,one (2*n - 1) ((i+j:Nat):Int))
noncomputable def pp (n:Nat):List Pr:=(D0 n).flatMap (ppI n)
theorem qB {G:Nat->List Pr} {k i j:Int}:∀ l:List Nat,Tn (l.flatMap G) k i j=(l.map fun x=>Tn (G x) k i j).sum
 | [] => rfl
 | x::l=>by rw [Hm,lJ,qB l];simp
theorem Ae {G:Nat->Pr} {k i j:Int} {n:Nat}:Tn ((D0 n).map G) k i j=bq n fun x=>tm (G x) k i j:=by
 unfold Tn bq;rw [Ir];rfl
theorem dq {n k:Nat} {v:Int}:bq n (fun i=>if k=i then v else 0)=if k < n then v else 0:=by
 by_cases h:k < n
 ·rw [if_pos h,vc (F:=fun _=>v) h]
 ·rw [if_neg h];exact gj fun i hi=>if_neg (by lia)
theorem Ca {n:Nat} {i a b:Nat} {o:List Int} {k:Int} (hi:i < n):tm (one n (i:Nat),one n (i:Nat),o) k (a:Nat) (b:Nat)=if a=i/\b=i then gz o k else 0:=by
 unfold tm;dsimp only;rw [oV (by lia) (by lia),oV (by lia) (by lia)]
 by_cases h1:a=i
 ·by_cases h2:b=i
  ·rw [if_pos (by lia),if_pos (by lia),if_pos ⟨h1,h2⟩];lia
  ·rw [if_pos (show (a:Int)=(i:Int) by lia),if_neg (show ¬ (b:Int)=(i:Int) by lia),if_neg (show ¬ (a=i/\b=i) by lia)];lia
 ·rw [if_neg (show ¬ (a:Int)=(i:Int) by lia),if_neg (show ¬ (a=i/\b=i) by lia)];simp
theorem Af {n i j a b k:Nat} (hi:i < n) (G:j < i) (B:a < n) (F:b < n):tm (bb n i j,bb n i j,one (2*n - 1) ((i+j:Nat):Int)) (k:Nat) (a:Nat) (b:Nat)=if ((a=i∨a=j)/\(b=i∨b=j))/\k=i+j then 1 else 0:=by
 unfold tm bb;dsimp only;rw [dI B,dI F,oV (by lia) (by lia)]
 by_cases h1:a=i∨a=j
 ·by_cases h2:b=i∨b=j
  ·by_cases q:k=i+j
   ·rw [if_pos h1,if_pos h2,if_pos (by lia),if_pos ⟨⟨h1,h2⟩,q⟩];rfl
   ·rw [if_pos h1,if_pos h2,if_neg (by lia),if_neg (fun z=>q z.2)];rfl
  ·rw [if_neg h2,if_neg (show ¬ (((a=i∨a=j)/\(b=i∨b=j))/\k=i+j) from fun z=>h2 z.1.2)];simp
 ·rw [if_neg h1,if_neg (show ¬ (((a=i∨a=j)/\(b=i∨b=j))/\k=i+j) from fun z=>h1 z.1.1)];simp
theorem Dm {n a b k:Nat} (J:a < n) (L:b < n) (O:k < 2*n - 1):Tn (pp n) (k:Nat) (a:Nat) (b:Nat)=if k=a+b then 1 else 0:=by
 unfold pp;rw [qB];show bq n (fun i=>Tn (ppI n i) _ _ _)=_;have U:∀ i,i < n->Tn (ppI n i) (k:Nat) (a:Nat) (b:Nat)=(if a=i/\b=i then (if k=2*i then 1 else if i<=k/\k < i+n then -1 else 0) else 0)+bq i fun j=>if ((a=i∨a=j)/\(b=i∨b=j))/\k=i+j then 1 else 0:=fun i hi=>by
  unfold ppI;rw [Dl,Ca hi,Ae];unfold iK;rw [dI O];congr 1;exact br fun j B=>Af hi B J L
 rw [br U]
 by_cases hab:a=b
 ·subst hab;have h1:∀ i,i < n->((if a=i/\a=i then (if k=2*i then 1 else if i<=k/\k < i+n then -1 else 0) else 0)+bq i fun j=>if ((a=i∨a=j)/\(a=i∨a=j))/\k=i+j then (1:Int) else 0)=(if a=i then ((if k=2*a then 1 else if a<=k/\k < a+n then -1 else 0)+if a<=k/\k < 2*a then 1 else 0) else 0)+if k - a=i then (if a < k - a/\a<=k then 1 else 0) else 0:=fun i hi=>by
   by_cases e:a=i
   ·subst e;rw [if_pos ⟨rfl,rfl⟩,if_pos rfl];have e1:(bq a fun j=>if ((a=a∨a=j)/\(a=a∨a=j))/\k=a+j then (1:Int) else 0)=if a<=k/\k < 2*a then 1 else 0:=by
     by_cases h:a<=k
     ·have:∀ j,j < a->(if ((a=a∨a=j)/\(a=a∨a=j))/\k=a+j then (1:Int) else 0)=if k - a=j then 1 else 0:=fun j B=>by
       by_cases z:k=a+j
       ·rw [if_pos ⟨⟨.inl rfl, .inl rfl⟩,z⟩,if_pos (by lia)]
       ·rw [if_neg (fun w=>z w.2),if_neg (by lia)]
      rw [br this,dq]
      by_cases h2:k < 2*a
      ·rw [if_pos (by lia),if_pos ⟨h,h2⟩]
      ·rw [if_neg (by lia),if_neg (fun w=>h2 w.2)]
     ·rw [if_neg (fun w=>h w.1)];exact gj fun j B=>if_neg (fun w=>h (by lia))
    rw [e1];have e2:(if k - a=a then (if a < k - a/\a<=k then (1:Int) else 0) else 0)=0:=by
     by_cases h:k - a=a
     ·rw [if_pos h,if_neg (by lia)]
     ·rw [if_neg h]
    rw [e2];lia
   ·rw [if_neg (fun w=>e w.1),if_neg e];have e1:∀ j,j < i->(if ((a=i∨a=j)/\(a=i∨a=j))/\k=i+j then (1:Int) else 0)=if a=j then (if k=i+a then 1 else 0) else 0:=fun j B=>by
     by_cases z:a=j
     ·subst z;rw [if_pos rfl]
      by_cases q:k=i+a
      ·rw [if_pos ⟨⟨.inr rfl, .inr rfl⟩,q⟩,if_pos q]
      ·rw [if_neg (fun w=>q w.2),if_neg q]
     ·rw [if_neg z,if_neg (fun w=>by lia)]
    rw [br e1,dq]
    by_cases h:a < i
    ·rw [if_pos h]
     by_cases z:k=i+a
     ·rw [if_pos z,if_pos (by lia),if_pos (by lia)]
     ·rw [if_neg z]
      by_cases q:k - a=i
      ·rw [if_pos q,if_neg (by lia)]
      ·rw [if_neg q]
    ·rw [if_neg h]
     by_cases q:k - a=i
     ·rw [if_pos q,if_neg (by lia)]
     ·rw [if_neg q]
  rw [br h1,xI,dq,dq,if_pos J]
  by_cases c1:k=2*a
  ·rw [if_pos c1,if_neg (show ¬ (a<=k/\k < 2*a) by lia),if_neg (show ¬ (a < k - a/\a<=k) by lia),if_pos (show k=a+a by lia)]
   split <;> rfl
  ·rw [if_neg c1,if_neg (show ¬ k=a+a by lia)]
   by_cases G:a<=k/\k < a+n
   ·rw [if_pos G,if_pos (show k - a < n by lia)]
    by_cases F:k < 2*a
    ·rw [if_pos ⟨G.1,F⟩,if_neg (show ¬ (a < k - a/\a<=k) by lia)];rfl
    ·rw [if_neg (show ¬ (a<=k/\k < 2*a) from fun w=>F w.2),if_pos (show a < k - a/\a<=k by lia)];rfl
   ·rw [if_neg G,if_neg (show ¬ (a<=k/\k < 2*a) by lia)]
    by_cases F:k - a < n
    ·rw [if_pos F,if_neg (show ¬ (a < k - a/\a<=k) by lia)];rfl
    ·rw [if_neg F];rfl
 ·have h1:∀ i,i < n->((if a=i/\b=i then (if k=2*i then 1 else if i<=k/\k < i+n then -1 else 0) else 0)+bq i fun j=>if ((a=i∨a=j)/\(b=i∨b=j))/\k=i+j then (1:Int) else 0)=if max a b=i then (if k=a+b then 1 else 0) else 0:=fun i hi=>by
   rw [if_neg (by lia)]
   have e1:∀ j,j < i->(if ((a=i∨a=j)/\(b=i∨b=j))/\k=i+j then (1:Int) else 0)=if min a b=j then (if max a b=i/\k=a+b then 1 else 0) else 0:=fun j B=>by
    by_cases z:min a b=j
    ·rw [if_pos z]
     by_cases q:max a b=i/\k=a+b
     ·rw [if_pos q,if_pos (by lia)]
     ·rw [if_neg q,if_neg (by lia)]
    ·rw [if_neg z,if_neg (by lia)]
   rw [br e1,dq]
   by_cases z:max a b=i
   ·rw [if_pos z,if_pos (by lia)]
    by_cases q:k=a+b
    ·rw [if_pos q,if_pos ⟨z,q⟩];rfl
    ·rw [if_neg q,if_neg (fun w=>q w.2)];rfl
   ·rw [if_neg z,if_neg (show ¬ (max a b=i/\k=a+b) from fun w=>z w.1)]
    split <;> rfl
  rw [br h1,dq,if_pos (by lia)]
theorem Ag {n m:Nat} {k i j:Int}:cf (bU n m) (k,i,j)=if (0<=i/\i < n)/\(0<=j/\j < m)/\k=i+j then 1 else 0:=by
 by_cases h:(0<=i/\i < n)/\(0<=j/\j < m)/\k=i+j
 ·rw [if_pos h];have hm:ck i.toNat j.toNat∈bU n m:=K8.mpr ⟨i.toNat,GL.mpr (by lia),GF (GL.mpr (by lia))⟩
  have e:(k,i,j)=(ck i.toNat j.toNat).1:=by
   unfold ck;rw [Lh,Lh];exact ⟨by lia,by lia,by lia⟩
  rw [e];exact oM jH hm
 ·rw [if_neg h];refine km fun t q e=>h ?_;unfold bU fw at q;obtain ⟨a,z,q⟩:=K8.mp q;obtain ⟨b,B,rfl⟩:=Gk.mp q;have z:=GL.mp z;have B:=GL.mp B;unfold ck at e;rw [Lh,Lh] at e;lia
theorem gW {n:Nat}:∀ p∈pp n,Dr 1 n n (2*n - 1) p:=by
 intro p q;unfold pp at q;obtain ⟨i,hi,q⟩:=K8.mp q;unfold ppI at q
 rcases Gj.mp q with rfl | q
 ·refine ⟨ky,ky,by simp [iK],oW,oW,fun x hx => ?_⟩
  unfold iK at hx;obtain ⟨k,_,rfl⟩:=Gk.mp hx
  split
  ·lia
  ·split <;> lia
 ·obtain ⟨j,_,rfl⟩:=Gk.mp q;have z:Within 1 (bb n i j):=fun x hx=>by
   unfold bb at hx;obtain ⟨k,_,rfl⟩:=Gk.mp hx
   split <;> lia
  exact ⟨by simp [bb],by simp [bb],ky,z,z,oW⟩
theorem yz {n:Nat} {k i j:Int}:Tn (pp n) k i j=cf (bU n n) (k,i,j):=by
 rw [Ag]
 by_cases h:(0<=k/\k < ((2*n - 1:Nat):Int))/\(0<=i/\i < (n:Int))/\(0<=j/\j < (n:Int))
 ·obtain ⟨K,rfl⟩:∃ K:Nat,k=K:=⟨k.toNat,by lia⟩
  obtain ⟨I,rfl⟩:∃ K:Nat,i=K:=⟨i.toNat,by lia⟩
  obtain ⟨J,rfl⟩:∃ K:Nat,j=K:=⟨j.toNat,by lia⟩
  rw [Dm (by lia) (by lia) (by lia)]
  by_cases z:K=I+J
  ·rw [if_pos z,if_pos (by lia)]
  ·rw [if_neg z,if_neg (by lia)]
 ·rw [if_neg (by lia)]
  cases Decidable.em (Tn (pp n) k i j=0) with
  | inl e=>exact e
  | inr e=>exact absurd (vh (L0:=n) (L1:=n) (L2 := 2*n - 1) (us:=pp n) (fun u q=>⟨(gW u q).l0,(gW u q).l1,(gW u q).l2⟩) e) h
end
section
open PySem PySem.Spec PyProof.Rows L2.Srt
variable {T:List FD}
theorem dJ {F:Nat->Int} {L i:Nat} {v:Int}:((D0 L).map F).set i v=(D0 L).map fun k=>if k=i then v else F k:=by
 apply Jn;intro k;rw [List.getElem?_set]
 by_cases h:i=k
 ·subst h;rw [if_pos rfl]
  by_cases j:i < L
  ·rw [if_pos (by simpa using j),GH,Hy j];simp
  ·rw [if_neg (by simpa using j),HM (by simp;lia)]
 ·rw [if_neg h,GH,GH]
  by_cases j:k < L
  ·rw [Hy j];simp [Ne.symm h]
  ·rw [HM (by simp;lia)];rfl
theorem mq {L:Nat}:(D1 L [D.int 0]).flatten=((D0 L).map fun _=>(0:Int)).map D.int:=by
 rw [Ir];have:(D0 L).map (D.int ∘ fun _=>(0:Int))=D1 L (D.int 0):=by
  rw [show (D.int ∘ fun _:Nat=>(0:Int))=fun _=>D.int 0 from rfl,List.map_const',Gz]
 rw [this,List.flatten_replicate_singleton]
theorem gX {L i:Nat} (h:i < L):ixN L (i:Nat)=some i:=by
 unfold ixN;rw [if_pos (by lia),if_pos (by lia),Gq]
end
section
noncomputable abbrev K2:=Int×Int
noncomputable def k2D (k:K2):D := .tup [.int k.1, .int k.2]
noncomputable def raD (r:K2×Addr):D×D:=(k2D r.1, .ref r.2)
theorem qC {a b:K2} (h:k2D a=k2D b):a=b:=by
 obtain ⟨a1,a2⟩:=a;obtain ⟨b1,b2⟩:=b;simp only [k2D,D.tup.injEq,Nb,D.int.injEq,and_true] at h;rw [h.1,h.2]
theorem dL {α β:Type} {f : α -> β}:∀ {l:List α},(l.map f).Nodup -> ∀ {x y : α},x∈l->y∈l->f x=f y->x=y
 | [],_,x,_,hx,_,_=>by cases hx
 | z::l,h,x,y,hx,B,e=>by
   rw [Gr,HV] at h
   rcases Gj.mp hx with rfl | j <;> rcases Gj.mp B with rfl | q
   ·rfl
   ·exact absurd (Gk.mpr ⟨y,q,e.symm⟩) h.1
   ·exact absurd (Gk.mpr ⟨x,j,e⟩) h.1
   ·exact dL h.2 j q e
structure RI (d:Addr) (N:Nat) (M:Mem) (R:List (K2×Addr)) (g:K2->List Int):Prop where
 dct:M d=some (.dct true (R.map raD))
 keys:(R.map (·.1)).Nodup
 ads:(R.map (·.2)).Nodup
 nd:∀ r∈R,r.2≠d
 row:∀ r∈R,M r.2=some (.lst ((g r.1).map .int))
 ln:∀ k,(g k).length=N
 out:∀ k,k∉R.map (·.1)->g k=D1 N 0
structure Run (d:Addr) (R:List (K2×Addr)) (M:Mem) (R':List (K2×Addr)) (M':Mem):Prop where
 ex:∀ r∈R',r∈R∨M r.2=none
 kp:∀ b o,b≠d->b∉R.map (·.2)->M b=some o->M' b=some o
theorem Run.refl {d:Addr} {R:List (K2×Addr)} {M:Mem}:Run d R M R M:=⟨fun r h => .inl h,fun _ _ _ _ e=>e⟩
theorem kz {k:K2}:∀ R:List (K2×Addr),dget (R.map raD) (k2D k)=(R.find? fun r=>decide (r.1=k)).map fun r => .ref r.2
 | [] => rfl
 | r::R=>by
   have ih:=kz (k:=k) R;unfold dget at ih ⊢;rw [Gr,HW,HW]
   by_cases h:r.1=k
   ·have e:decide ((raD r).1=k2D k)=true:=decide_eq_true (by rw [<- h];rfl)
    rw [e,decide_eq_true h];rfl
   ·have e:decide ((raD r).1=k2D k)=false:=decide_eq_false (fun z=>h (qC z));rw [e,decide_eq_false h];exact ih
theorem Ah {k:K2} {R:List (K2×Addr)} (h:k∉R.map (·.1)):dget (R.map raD) (k2D k)=none:=by
 rw [kz,Ks.mpr fun r j=>by
  intro z;exact h (Gk.mpr ⟨r,j,of_decide_eq_true z⟩)]
 rfl
theorem qD {k:K2} {R:List (K2×Addr)} (h:k∈R.map (·.1)):∃ a,(k,a)∈R/\dget (R.map raD) (k2D k)=some (.ref a):=by
 cases e:R.find? fun r=>decide (r.1=k) with
 | none =>
   obtain ⟨r,j,q⟩:=Gk.mp h;exact absurd (decide_eq_true q) (Ks.mp e r j)
 | some r =>
   have h1:=Nc e;have h2:=Ka e;have z:r.1=k:=of_decide_eq_true h1;obtain ⟨rk,ra⟩:=r
   cases z
   exact ⟨ra,h2,by rw [kz,e];rfl⟩
theorem Ai {k:K2} {R:List (K2×Addr)} {a:Addr} (h:k∉R.map (·.1)):e7 (R.map raD) (k2D k) (.ref a)=(R++[(k,a)]).map raD:=by
 unfold e7;rw [if_neg,Hz]
 ·rfl
 ·intro z;obtain ⟨x,hx,j⟩:=K6.mp z;obtain ⟨r,q,rfl⟩:=Gk.mp hx;exact h (Gk.mpr ⟨r,q,qC (of_decide_eq_true j)⟩)
theorem RI.ge {d:Addr} {N:Nat} {M M':Mem} {R:List (K2×Addr)} {g:K2->List Int} (h:RI d N M R g) (x:Ge M M'):RI d N M' R g:=⟨x _ _ h.dct,h.keys,h.ads,h.nd,fun r j=>x _ _ (h.row r j),h.ln,h.out⟩
theorem Run.trans {d:Addr} {N:Nat} {R R' R'':List (K2×Addr)} {M M' M'':Mem} {g g':K2->List Int} (h:Run d R M R' M') (h2:Run d R' M' R'' M'') (i:RI d N M' R' g') (sub:∀ r∈R,r∈R'):Run d R M R'' M'':=by
 refine ⟨fun r B => ?_,fun b o n m e => ?_⟩
 ·rcases h2.ex r B with j | j
  ·exact h.ex r j
  ·by_cases z:r.2∈R.map (·.2)
   ·obtain ⟨r',q,e⟩:=Gk.mp z;rw [<- e,i.row r' (sub r' q)] at j;cases j
   ·refine .inr ?_
    cases e:M r.2 with
    | none=>rfl
    | some o =>
      by_cases zd:r.2=d
      ·rw [zd,i.dct] at j;cases j
      ·rw [h.kp _ _ zd z e] at j;cases j
 ·refine h2.kp b o n (fun z => ?_) (h.kp b o n m e);obtain ⟨r',q,e'⟩:=Gk.mp z
  rcases h.ex r' q with j | j
  ·exact m (Gk.mpr ⟨r',j,e'⟩)
  ·rw [e',e] at j;cases j
theorem RI.new {d:Addr} {N:Nat} {M:Mem} {R:List (K2×Addr)} {g:K2->List Int} (h:RI d N M R g) {k:K2} (L:k∉R.map (·.1)) {G:Mem} {a:Addr} (ga:Ge M G) (q:M a=none) (h1:G a=some (.lst ((D1 N (0:Int)).map .int))) :
 RI d N (af G d (.dct true ((R++[(k,a)]).map raD))) (R++[(k,a)]) g/\Run d R M (R++[(k,a)]) (af G d (.dct true ((R++[(k,a)]).map raD))):=by
 have B:a≠d:=fun z=>by rw [z,h.dct] at q;cases q
 refine ⟨⟨ab, ?_, ?_, ?_, ?_,h.ln, ?_⟩,⟨?_, ?_⟩⟩
 ·rw [Hz,KW];exact ⟨h.keys,by simp,fun x hx y F=>by simp at F;subst F;exact fun z=>L (z ▸ hx)⟩
 ·rw [Hz,KW];refine ⟨h.ads,by simp,fun x hx y F => ?_⟩
  simp at F;subst F;intro z;obtain ⟨r,j,rfl⟩:=Gk.mp hx;rw [<- z,h.row r j] at q;cases q
 ·intro r j
  rcases Gy.mp j with j | j
  ·exact h.nd r j
  ·simp at j;subst j;exact B
 ·intro r j
  rcases Gy.mp j with j | j
  ·rw [aE (h.nd r j)];exact ga _ _ (h.row r j)
  ·simp at j;subst j;rw [aE B,h1,h.out k L]
 ·intro k' J;exact h.out k' fun z=>J (by rw [Hz];exact Hk _ z)
 ·intro r j
  rcases Gy.mp j with j | j
  ·exact .inl j
  ·simp at j;subst j;exact .inr q
 ·intro b o n m e;rw [aE n];exact ga _ _ e
theorem RI.put {d:Addr} {N:Nat} {M:Mem} {R:List (K2×Addr)} {g:K2->List Int} (h:RI d N M R g) {k:K2} {a:Addr} (q:(k,a)∈R) {row:List Int} (F:row.length=N) :
 RI d N (af M a (.lst (row.map .int))) R (fun k'=>if k'=k then row else g k')/\Run d R M R (af M a (.lst (row.map .int))):=by
 refine ⟨⟨?_,h.keys,h.ads,h.nd, ?_, ?_, ?_⟩,⟨fun r h => .inl h, ?_⟩⟩
 ·rw [aE (fun z=>h.nd _ q z.symm)];exact h.dct
 ·intro r j
  by_cases e:r=(k,a)
  ·subst e;rw [ab,if_pos rfl]
  ·have na:r.2≠a:=fun z=>e (dL h.ads j q z);have nk:r.1≠k:=fun z=>e (dL h.keys j q z);rw [aE na,if_neg nk];exact h.row r j
 ·intro k'
  split
  ·exact F
  ·exact h.ln k'
 ·intro k' B;rw [if_neg (fun z=>B (Gk.mpr ⟨_,q,z.symm⟩))];exact h.out k' B
 ·intro b o n m e;rw [aE (fun z=>m (Gk.mpr ⟨_,q,z.symm⟩))];exact e
end
section
open PySem PySem.Spec PyProof.Rows L2.Srt
variable {T:List FD}
noncomputable def cB (s:Stmt):FD:=⟨"filled",s,["part"],1,
 (.cons (.ret (.comp [none,none] ["at", "x"] (.last (.enum (.var 0)) (.tup (.cons (.name 0) (.cons (.name 1) .nil))) (.cons (.cmp .ne (.var 1) (.int 0)) .nil) (.tup (.cons (.var 0) (.cons (.var 1) .nil))))))
 .nil)⟩
theorem dZ {f:Nat} {s:Stmt} (hf:T[f]? = some (cB s)) {n:Nat} (G : 1<=n) {x:D} {l:List Int} (J:l.length<=1000000) {M:Mem} {Q:QD} (hx:aq M x=some (l.map .int)) (q:∀ p,M p=none->Q (.ref p) (af M p (.lst ((nz l).map pD)))):phi T n f [x] M Q:=by
 refine aA (by lia) hf rfl (ρ := [some _]) rfl ?_
 unfold cB;walk_at "st";refine ⟨_,hx, ?_⟩;rw [xN];refine aI (f:=pD) (ys:=idx l) (I:=fun r ρ M' acc=>(∃ o0 z, ρ = [o0,z])/\M'=M/\acc=(r.filter fun q => !(q.2==0)).map pD) rfl ⟨⟨_,_,rfl⟩,rfl,rfl⟩ (fun _ _ _ _ h=>by rw [h.2.1];exact hx) ?_ ?_
 ·rintro l' y r ρ M1 acc e ⟨⟨o0,z,rfl⟩,rfl,rfl⟩;refine ⟨_,rfl,fun N' j => ?_⟩;have B:=am e;rw [qv] at B;have F:(l'.filter fun q => !(q.2==0)).length<=l'.length:=IA _ _;walk_at "wp"
  by_cases hz:y.2=0
  ·rw [if_neg (by simp [hz])]
   refine j _ _ _ ⟨⟨_,_,rfl⟩,rfl, ?_⟩;rw [IE,Hi (by simp [hz])];simp
  ·rw [if_pos (by simp [hz])]
   refine ⟨by rw [Gd];lia,by rw [r3,Gd];lia,j _ _ _ ⟨⟨_,_,rfl⟩,rfl, ?_⟩⟩
   rw [IE,Ho (by simp [hz])];simp [pD]
 ·rintro ρ M1 acc ⟨⟨o0,z,rfl⟩,rfl,rfl⟩ p hp;exact q p hp
theorem Cb {l:List Int} {v:Int} {k:Nat} (j:k < l.length) {i:Int}:gz (l.set k v) i=if i=k then v else gz l i:=by
 unfold gz
 by_cases h:i < 0
 ·rw [if_pos h,if_pos h,if_neg (by lia)]
 ·rw [if_neg h,if_neg h,GG,GG]
  by_cases e:i=k
  ·subst e;rw [Gq,Ik j,if_pos rfl];rfl
  ·rw [Jh (by lia),if_neg e]
theorem Cc {l:List Int} {k:Nat} (j:k < l.length):l[k]? = some (gz l k):=by
 unfold gz;rw [if_neg (by lia),Gq,GG,tv j];rfl
theorem vj {n:Nat} {i:Int}:gz (D1 n 0) i=0:=by
 unfold gz
 split
 ·rfl
 ·rw [GG]
  cases e:(D1 n (0:Int))[i.toNat]? with
  | none=>rfl
  | some x=>exact List.eq_of_mem_replicate (Hc e)
noncomputable def sx:MSs := .cons (.augI (.var 15) (.var 17) .add (.bin .mul (.var 18) (.var 16))) .nil
theorem Dn {Φ:Phi} {v0 v1 v2 v3 v4 v5 v6 v7 v8 v10 v11 J L O B G:Option D} {a po:Addr} {pr:Int} {N:Nat} {row:List Int} {zs:List (Int×Int)} {M:Mem} {E:b7} (Y:M po=some (.lst (zs.map pD))) (E3:po≠a) (ha:M a=some (.lst (row.map .int))) (hl:row.length=N) (hz:∀ z∈zs,0<=z.1/\z.1 < N/\bd z.2)
 (q:∀ row' B G,row'.length=N->(∀ k,gz row' k=gz row k+pr*S1 zs k)->E.nx [v0,v1,v2,v3,v4,v5,v6,v7,v8,some (.ref po),v10,v11,J,L,O,some (.ref a),some (.int pr),B,G] (af M a (.lst (row'.map .int)))) :
 wSs Φ (.cons (.for (.tup (.cons (.name 17) (.cons (.name 18) .nil))) (.seq (.var 9)) sx) .nil) E [v0,v1,v2,v3,v4,v5,v6,v7,v8,some (.ref po),v10,v11,J,L,O,some (.ref a),some (.int pr),B,G] M:=by
 walk_at "st";refine ⟨_,ag Y, ?_⟩;refine aP (f:=pD) (ys:=zs) (I:=fun l ρ M' => ∃ B G row', ρ = [v0,v1,v2,v3,v4,v5,v6,v7,v8,some (.ref po),v10,v11,J,L,O,some (.ref a),some (.int pr),B,G]/\M'=af M a (.lst (row'.map .int))/\row'.length=N /\ ∀ k,gz row' k=gz row k+pr*S1 l k) rfl ⟨_,_,row,rfl,(uR ha).symm,hl,fun k=>by simp [S1]⟩ (fun l ρ M' ⟨_,_,_,_,e,_⟩=>by rw [e];exact ag (by rw [aE E3];exact Y)) ?_ ?_
 ·rintro l z r ρ M1 e ⟨B,G,row',rfl,rfl,U,hg⟩;refine ⟨_,rfl,fun F hF => ?_⟩;obtain ⟨z0,z1,z2⟩:=hz z (by rw [e];simp)
  obtain ⟨kn,ek⟩:∃ k:Nat,z.1=k:=⟨z.1.toNat,by lia⟩
  have Z:kn < row'.length:=by lia
  unfold sx;rw [bD];walk_at "wp";refine ⟨a,_,_, .int (gz row' kn),rfl,rfl,ab, ?_, ?_⟩
  ·rw [ek];refine kj ?_;rw [GH,Cc Z];rfl
  walk_at "wp";refine ⟨bE (by unfold bd at z2;lia), ?_⟩
  rw [ek];refine bg ab (j:=kn) ?_ ?_
  ·unfold ixN;rw [r3,if_pos (by lia),if_pos (by lia)];simp
  rw [uQ];refine hF _ _ ⟨_,_,row'.set kn (gz row' kn+z.2*pr),rfl,by rw [K7],by rw [N6];exact U,fun k => ?_⟩
  rw [Cb Z,dY,bv,show S1 [] k=0 from rfl,N3,ek,Lp, <- Oa, <- hg]
  by_cases ekk:k=kn
  ·rw [if_pos ekk,if_pos ekk.symm,ekk,OK]
  ·rw [if_neg ekk,if_neg (fun h=>ekk h.symm)];lia
 ·rintro ρ M1 ⟨B,G,row',rfl,rfl,U,hg⟩;dsimp only;walk_at "wp";exact q row' _ _ U hg
theorem Run.keep {d:Addr} {N:Nat} {M M':Mem} {R R':List (K2×Addr)} {g:K2->List Int} (h:Run d R M R' M') (i:RI d N M R g) {a:Addr} {ds:List D} (e:M a=some (.lst ds)) (j:a∉R.map (·.2)):M' a=some (.lst ds) :=
 h.kp a _ (fun z=>by rw [z,i.dct] at e;cases e) j e
noncomputable def sy:MSs:=(.cons (.ite (.cmp .ninD (.tup (.cons (.var 11) (.cons (.var 13) .nil))) (.var 5)) (.cons (.put (.var 5) (.tup (.cons (.var 11) (.cons (.var 13) .nil))) (.bin .mul (.lst (.cons (.int 0) .nil)) (.var 3)))
 .nil) .nil)
 (.cons (.par 15 16 (.ix (.var 5) (.tup (.cons (.var 11) (.cons (.var 13) .nil)))) (.bin .mul (.var 12) (.var 14)))
 (.cons (.for (.tup (.cons (.name 17) (.cons (.name 18) .nil))) (.seq (.var 9)) sx)
 .nil)))
theorem gY {d:Addr} {N:Nat} {M M':Mem} {R R':List (K2×Addr)} {g:K2->List Int} (h:Run d R M R' M') (i:RI d N M R g) {a:Addr} {o:O} (e:M a=some o) (j:a∉R.map (·.2)):a∉R'.map (·.2):=fun z=>by
 obtain ⟨r,q,rfl⟩:=Gk.mp z
 rcases h.ex r q with h1 | h1
 ·exact j (Gk.mpr ⟨r,h1,rfl⟩)
 ·rw [h1] at e;cases e
theorem DY {Φ:Phi} {v0 v1 v2 v4 v6 v7 v8 v10 G J B F:Option D} {d po:Addr} {i x j y:Int} {N:Nat} {R:List (K2×Addr)} {g:K2->List Int} {zs:List (Int×Int)} {M:Mem} {E:b7} (hN:N<=1000) (I:RI d N M R g) (U:M po=some (.lst (zs.map pD))) (Y:po∉R.map (·.2)) (hl:R.length<=1000000) (hx:bd x) (hz:∀ z∈zs,0<=z.1/\z.1 < N/\bd z.2)
 (q:∀ M' R' g' G J B F,RI d N M' R' g'->Run d R M R' M'->(∀ r∈R,r∈R')->R'.length<=R.length+1->(∀ k i' j',gz (g' (i',j')) k=gz (g (i',j')) k+if i'=i/\j'=j then x*y*S1 zs k else 0)->E.nx [v0,v1,v2,some (.int N),v4,some (.ref d),v6,v7,v8,some (.ref po),v10,some (.int i),some (.int x),some (.int j),some (.int y),G,J,B,F] M') :
 wSs Φ sy E [v0,v1,v2,some (.int N),v4,some (.ref d),v6,v7,v8,some (.ref po),v10,some (.int i),some (.int x),some (.int j),some (.int y),G,J,B,F] M:=by
 unfold sy;have ek:D.tup [D.int i,D.int j]=k2D (i,j):=rfl;refine xA (I:=fun ρ M' => ρ = [v0,v1,v2,some (.int N),v4,some (.ref d),v6,v7,v8,some (.ref po),v10,some (.int i),some (.int x),some (.int j),some (.int y),G,J,B,F] /\ ∃ R',RI d N M' R' g/\Run d R M R' M'/\(∀ r∈R,r∈R')/\R'.length<=R.length+1/\(i,j)∈R'.map (·.1)) (fun RR hR => ?_) (fun ρ M1 h => ?_)
 ·walk_at "wp";refine ⟨by rw [Gd];lia,d,true,_,rfl, .inl I.dct,rfl, ?_⟩
  walk_at "wp";rw [ek]
  by_cases L:(i,j)∈R.map (·.1)
  ·obtain ⟨a,ha,e⟩:=qD L;rw [e];walk_at "wp";exact hR _ _ ⟨rfl,R,I,Run.refl,fun r h=>h,by lia,L⟩
  ·rw [Ah L];walk_at "wp";rw [bD];walk_at "wp";refine ⟨by rw [Gd];lia,fun p1 E5 => ?_⟩
   have g1:=Ge.new (o := .lst [.int 0]) E5;refine ⟨_,ab,by lia,by lia,by rw [Gd];simp;lia,fun p2 O => ?_⟩
   have g2:=g1.trans (Ge.new (o := .lst (D1 (N:Int).toNat [D.int 0]).flatten) O);have Z:M p2=none:=by
    cases hq:M p2 with
    | none=>rfl
    | some o=>rw [g1 _ _ hq] at O;cases O
   have e2:af (af M p1 (.lst [.int 0])) p2 (.lst (D1 (N:Int).toNat [D.int 0]).flatten) p2=some (.lst ((D1 N (0:Int)).map .int)):=by
    rw [ab,xB];simp
   generalize af (af M p1 (.lst [.int 0])) p2 (.lst (D1 (N:Int).toNat [D.int 0]).flatten)=M2 at g2 e2;refine ⟨by rw [Gd];lia,oH (g2 _ _ I.dct) rfl (by rw [r3,Gd];lia) ?_⟩
   rw [ek,Ai L];obtain ⟨I2,r2⟩:=I.new L g2 Z e2;exact hR _ _ ⟨rfl,_,I2,r2,fun r h=>Hk _ h,by simp,by simp⟩
 ·obtain ⟨rfl,R',I1,r1,sub,E6,L⟩:=h;obtain ⟨a,ha,e⟩:=qD L;walk_at "st";refine ⟨by rw [Gd];lia, ?_⟩
  rw [ek];refine C3 I1.dct rfl e ?_;walk_at "wp";refine ⟨bE (by unfold bd at hx;lia), ?_⟩
  have E3:=r1.keep I U Y;have E4:=gY r1 I U Y;refine Dn (pr:=x*y) E3 (fun z=>E4 (Gk.mpr ⟨_,ha,z.symm⟩)) (I1.row _ ha) (I1.ln _) hz fun row' B F E7 hg => ?_;obtain ⟨I2,r2⟩:=I1.put ha E7;refine q _ _ _ _ _ _ _ I2 (r1.trans (g:=g) r2 I1 sub) sub E6 fun k i' j' => ?_
  by_cases h:i'=i/\j'=j
  ·obtain ⟨rfl,rfl⟩:=h;rw [if_pos rfl,if_pos ⟨rfl,rfl⟩];exact hg k
  ·rw [if_neg (fun z=>h ⟨congrArg (·.1) z,congrArg (·.2) z⟩),if_neg h,N3]
noncomputable def sB:MSs := .cons (.for (.tup (.cons (.name 13) (.cons (.name 14) .nil))) (.seq (.var 10)) sy) .nil
theorem DZ {Φ:Phi} {v0 v1 v2 v4 v6 v7 v8 O U B G J L:Option D} {d po pr:Addr} {i x:Int} {N:Nat} {R:List (K2×Addr)} {g:K2->List Int} {ys zs:List (Int×Int)} {M:Mem} {E:b7} (hN:N<=1000) (I:RI d N M R g) (Z:M po=some (.lst (zs.map pD))) (E3:po∉R.map (·.2)) (E4:M pr=some (.lst (ys.map pD))) (E7:pr∉R.map (·.2)) (hl:R.length+ys.length<=1000000) (hx:bd x) (hz:∀ z∈zs,0<=z.1/\z.1 < N/\bd z.2)
 (q:∀ M' R' g' O U B G J L,RI d N M' R' g'->Run d R M R' M'->(∀ r∈R,r∈R')->R'.length<=R.length+ys.length->(∀ k i' j',gz (g' (i',j')) k=gz (g (i',j')) k+if i=i' then x*S1 ys j'*S1 zs k else 0)->E.nx [v0,v1,v2,some (.int N),v4,some (.ref d),v6,v7,v8,some (.ref po),some (.ref pr),some (.int i),some (.int x),O,U,B,G,J,L] M') :
 wSs Φ sB E [v0,v1,v2,some (.int N),v4,some (.ref d),v6,v7,v8,some (.ref po),some (.ref pr),some (.int i),some (.int x),O,U,B,G,J,L] M:=by
 unfold sB;walk_at "st";refine ⟨_,ag E4, ?_⟩;refine aP (f:=pD) (ys:=ys) (I:=fun l ρ M' => ∃ R' g' O U B G J L, ρ = [v0,v1,v2,some (.int N),v4,some (.ref d),v6,v7,v8,some (.ref po),some (.ref pr),some (.int i),some (.int x),O,U,B,G,J,L]/\RI d N M' R' g'/\Run d R M R' M'/\(∀ r∈R,r∈R')/\R'.length<=R.length+l.length /\ ∀ k i' j',gz (g' (i',j')) k=gz (g (i',j')) k+if i=i' then x*S1 l j'*S1 zs k else 0) rfl ⟨R,g,_,_,_,_,_,_,rfl,I,Run.refl,fun r h=>h,by simp,fun k i' j'=>by simp [S1]⟩ (fun l ρ M' ⟨_,_,_,_,_,_,_,_,_,_,Y,_⟩=>ag (Y.keep I E4 E7)) ?_ ?_
 ·rintro l y r ρ M1 e ⟨R1,g1,O,U,B,G,J,L,rfl,I1,Y,sub,E5,hg⟩;refine ⟨_,rfl,fun F hF => ?_⟩;have E9:=am e;refine DY (j:=y.1) (y:=y.2) hN I1 (Y.keep I Z E3) (gY Y I Z E3) (by lia) hx hz fun M2 R2 g2 B G J L I2 r2 E6 Ea E8=>hF _ _ ⟨R2,g2,_,_,_,_,_,_,rfl,I2,Y.trans (g:=g) r2 I1 sub,fun r h=>E6 r (sub r h),by simp;lia,fun k i' j' => ?_⟩
  rw [E8,hg,dY,bv,show S1 [] j'=0 from rfl,N3,Oa];congr 1
  by_cases hi:i=i'
  ·subst hi
   by_cases hj:y.1=j'
   ·subst hj;simp [Lp,Jo]
   ·rw [if_pos rfl,if_neg (fun z=>hj z.2.symm),if_pos rfl,if_neg hj];simp
  ·rw [if_neg hi,if_neg (fun z=>hi z.1.symm),if_neg hi];rfl
 ·rintro ρ M1 ⟨R1,g1,O,U,B,G,J,L,rfl,I1,Y,sub,E5,hg⟩;dsimp only;walk_at "wp";exact q _ _ _ _ _ _ _ _ _ I1 Y sub E5 hg
theorem E1 {Φ:Phi} {v0 v1 v2 v4 v6 v7 v8 U Y j B G J L O:Option D} {d po pr pl:Addr} {N:Nat} {R:List (K2×Addr)} {g:K2->List Int} {xs ys zs:List (Int×Int)} {M:Mem} {E:b7} (hN:N<=1000) (I:RI d N M R g) (E3:M po=some (.lst (zs.map pD))) (E4:po∉R.map (·.2)) (E5:M pr=some (.lst (ys.map pD))) (E6:pr∉R.map (·.2)) (E9:M pl=some (.lst (xs.map pD))) (Ea:pl∉R.map (·.2)) (hl:R.length+xs.length*ys.length<=1000000) (hx:∀ z∈xs,bd z.2) (hz:∀ z∈zs,0<=z.1/\z.1 < N/\bd z.2)
 (q:∀ M' R' g' U Y j B G J L O,RI d N M' R' g'->Run d R M R' M'->(∀ r∈R,r∈R')->R'.length<=R.length+xs.length*ys.length->(∀ k i' j',gz (g' (i',j')) k=gz (g (i',j')) k+S1 xs i'*S1 ys j'*S1 zs k)->E.nx [v0,v1,v2,some (.int N),v4,some (.ref d),v6,v7,v8,some (.ref po),some (.ref pr),U,Y,j,B,G,J,L,O] M') :
 bw (nA (bJ (bQ 11) (bJ (bQ 12) fK))) (wSs Φ sB) (fun M=>aq M (.ref pl)=some (xs.map pD)) E (xs.map pD) [v0,v1,v2,some (.int N),v4,some (.ref d),v6,v7,v8,some (.ref po),some (.ref pr),U,Y,j,B,G,J,L,O] M:=by
 refine aP (f:=pD) (ys:=xs) (I:=fun l ρ M' => ∃ R' g' U Y j B G J L O, ρ = [v0,v1,v2,some (.int N),v4,some (.ref d),v6,v7,v8,some (.ref po),some (.ref pr),U,Y,j,B,G,J,L,O]/\RI d N M' R' g'/\Run d R M R' M'/\(∀ r∈R,r∈R')/\R'.length<=R.length+l.length*ys.length /\ ∀ k i' j',gz (g' (i',j')) k=gz (g (i',j')) k+S1 l i'*S1 ys j'*S1 zs k) rfl ⟨R,g,_,_,_,_,_,_,_,_,rfl,I,Run.refl,fun r h=>h,by simp,fun k i' j'=>by simp [S1]⟩ (fun l ρ M' ⟨_,_,_,_,_,_,_,_,_,_,_,_,Z,_⟩=>ag (Z.keep I E9 Ea)) ?_ ?_
 ·rintro l x r ρ M1 e ⟨R1,g1,U,Y,j,B,G,J,L,O,rfl,I1,Z,sub,E7,hg⟩;refine ⟨_,rfl,fun F hF => ?_⟩;have Eb:=am e;have hm:(l.length+1)*ys.length<=xs.length*ys.length:=Lq _ Eb;rw [Jj] at hm;refine DZ (i:=x.1) (x:=x.2) hN I1 (Z.keep I E3 E4) (gY Z I E3 E4) (Z.keep I E5 E6) (gY Z I E5 E6) (by lia) (hx x (by rw [e];simp)) hz fun M2 R2 g2 j B G J L O I2 r2 E8 Ed Ec=>hF _ _ ⟨R2,g2,_,_,_,_,_,_,_,_,rfl,I2,Z.trans (g:=g) r2 I1 sub,fun r h=>E8 r (sub r h),by rw [D2,I8,Jj];lia,fun k i' j' => ?_⟩
  rw [Ec,hg,dY,bv,show S1 [] i'=0 from rfl,N3,Oa,Jo,Jo];congr 2
  by_cases hi:x.1=i'
  ·rw [if_pos hi,if_pos hi]
  ·rw [if_neg hi,if_neg hi];simp
 ·rintro ρ M1 ⟨R1,g1,U,Y,j,B,G,J,L,O,rfl,I1,Z,sub,E7,hg⟩;exact q _ _ _ _ _ _ _ _ _ _ _ I1 Z sub E7 hg
noncomputable def gm (s:Stmt) (ff:Nat):FD:=⟨"rows_by_pairs",s,["scheme", "left", "right", "many", "products", "rows", "l", "r", "o", "outs", "rights", "i", "x", "j", "y", "row", "product", "k", "c"],1,
 (.cons (.asg (.tup (.cons (.name 1) (.cons (.name 2) (.cons (.name 3) (.cons (.name 4) .nil))))) (.var 0))
 (.cons (.asg (.name 5) (.dnew true))
 (.cons (.for (.tup (.cons (.name 6) (.cons (.name 7) (.cons (.name 8) .nil)))) (.seq (.var 4)) (.cons (.par 9 10 (.call ff (.cons (.var 8) .nil)) (.call ff (.cons (.var 7) .nil)))
 (.cons (.for (.tup (.cons (.name 11) (.cons (.name 12) .nil))) (.seq (.call ff (.cons (.var 6) .nil))) (.cons (.for (.tup (.cons (.name 13) (.cons (.name 14) .nil))) (.seq (.var 10)) (.cons (.ite (.cmp .ninD (.tup (.cons (.var 11) (.cons (.var 13) .nil))) (.var 5)) (.cons (.put (.var 5) (.tup (.cons (.var 11) (.cons (.var 13) .nil))) (.bin .mul (.lst (.cons (.int 0) .nil)) (.var 3)))
 .nil) .nil)
 (.cons (.par 15 16 (.ix (.var 5) (.tup (.cons (.var 11) (.cons (.var 13) .nil)))) (.bin .mul (.var 12) (.var 14)))
 (.cons (.for (.tup (.cons (.name 17) (.cons (.name 18) .nil))) (.seq (.var 9)) (.cons (.augI (.var 15) (.var 17) .add (.bin .mul (.var 18) (.var 16)))
 .nil))
 .nil))))
 .nil))
 .nil)))
 (.cons (.ret (.var 5))
 .nil))))⟩
theorem Do {l:List Int} {N:Nat} (h:Big l) (B:l.length=N):∀ z∈nz l,0<=z.1/\z.1 < N/\bd z.2:=fun z j=>by
 have q:=vd h z j;unfold nz at j;have j:=(IT.mp j).1;unfold idx at j;obtain ⟨i,hi,e⟩:=Pm.mp j;refine ⟨?_, ?_,q⟩ <;> rw [<- e] <;> dsimp only <;> lia
theorem jJ {l:List Int} {k:Int}:S1 (nz l) k=gz l k:=by unfold nz;rw [fA,gk]
structure Pf (L0 L1 L2:Nat) (p:Pr):Prop where
 b1:Big p.1
 b2:Big p.2.1
 b3:Big p.2.2
 l1:p.1.length=L0
 l2:p.2.1.length=L1
 l3:p.2.2.length=L2
theorem xO {f ff:Nat} {s sf:Stmt} (hf:T[f]? = some (gm s ff)) (E4:T[ff]? = some (cB sf)) {n:Nat} (hn : 2<=n) {x0 x1:D} {L0 L1 N B:Nat} {p:Addr} {ps:List Pr} {M:Mem} {Q:QD} (hp:M p=some (.lst (ps.map prD))) (hN:N<=1000) (h0:L0<=1000) (h1:L1<=1000) (hB:ps.length*B<=1000000) (hF:∀ p∈ps,Pf L0 L1 N p) (hZ:∀ p∈ps,(nz p.1).length*(nz p.2.1).length<=B)
 (q:∀ d M' R g,RI d N M' R g->Ge M M'->M d=none->(∀ r∈R,M r.2=none)->R.length<=ps.length*B->(∀ k i j,gz (g (i,j)) k=Tn ps k i j)->Q (.ref d) M'):phi T n f [.tup [x0,x1, .int N, .ref p]] M Q:=by
 refine aA (by lia) hf rfl (ρ := [some _,none,none,none,none,none,none,none,none,none,none,none,none,none,none,none,none,none,none]) rfl ?_
 unfold gm;walk_at "st";walk_at "st";intro d hd;have g0:=Ge.new (o := .dct true []) hd;have d0:=ab (M:=M) (a:=d) (o := .dct true []);generalize af M d (.dct true [])=M0 at g0 d0 ⊢;walk_at "st";refine ⟨_,ag (g0 _ _ hp), ?_⟩;have Eh:p≠d:=fun z=>by rw [z,hd] at hp;cases hp
 refine aP (f:=prD) (ys:=ps) (I:=fun l ρ M' => ∃ R g o6 o7 o8 o9 E5 G J L O U Y Z E3, ρ = [some (.tup [x0,x1, .int N, .ref p]),some x0,some x1,some (.int N),some (.ref p),some (.ref d),o6,o7,o8,o9,E5,G,J,L,O,U,Y,Z,E3]/\Ge M M'/\RI d N M' R g/\(∀ r∈R,M r.2=none)/\R.length<=l.length*B /\ ∀ k i j,gz (g (i,j)) k=Tn l k i j) rfl ⟨[],fun _=>D1 N 0,_,_,_,_,_,_,_,_,_,_,_,_,_,rfl,g0,⟨d0,by simp,by simp,by simp,by simp,by simp,fun _ _=>rfl⟩,by simp,by simp,fun k i j=>by rw [vj];simp [Tn]⟩ (fun l ρ M' ⟨_,_,_,_,_,_,_,_,_,_,_,_,_,_,_,_,g,_⟩=>ag (g _ _ hp)) ?_ ?_
 ·rintro l x r ρ M1 e ⟨R,g,o6,o7,o8,o9,E5,G,J,L,O,U,Y,Z,E3,rfl,g1,I1,fr,E9,hg⟩;refine ⟨_,rfl,fun F Ea => ?_⟩;have hx:=hF x (by rw [e];simp)
  have Eb:=am e;have hm:(l.length+1)*B<=ps.length*B:=Lq _ Eb;rw [Jj] at hm;have Ei:=hZ x (by rw [e];simp)
  have nr:∀ {M2:Mem} {a:Addr},Ge M1 M2->M2 a=none->a∉R.map (·.2):=fun {M2 a} g2 ha z=>by
   obtain ⟨r,hr,rfl⟩:=Gk.mp z;rw [g2 _ _ (I1.row r hr)] at ha;cases ha
  walk_at "st";refine dZ E4 (by lia) (l:=x.2.2) (by have:=hx.l3;lia) rfl fun po E6 => ?_
  have Ec:=nr Ge.refl E6;have g2:Ge M1 _:=Ge.new (o := .lst ((nz x.2.2).map pD)) E6;have eo:=ab (M:=M1) (a:=po) (o := .lst ((nz x.2.2).map pD));generalize af M1 po (.lst ((nz x.2.2).map pD))=M2 at eo g2 ⊢;walk_at "wp";refine dZ E4 (by lia) (l:=x.2.1) (by have:=hx.l2;lia) rfl fun pr E7 => ?_
  have Ed:=nr g2 E7;have gr:=Ge.new (o := .lst ((nz x.2.1).map pD)) E7;have er:=ab (M:=M2) (a:=pr) (o := .lst ((nz x.2.1).map pD));have eo:=gr _ _ eo;have g3:=g2.trans gr;generalize af M2 pr (.lst ((nz x.2.1).map pD))=M3 at eo er g3 ⊢;clear g2 gr E6 E7;walk_at "wp";walk_at "st";refine dZ E4 (by lia) (l:=x.1) (by have:=hx.l1;lia) rfl fun pl E8 => ?_
  have Ee:=nr g3 E8;have gl:=Ge.new (o := .lst ((nz x.1).map pD)) E8;have el:=ab (M:=M3) (a:=pl) (o := .lst ((nz x.1).map pD));have eo:=gl _ _ eo;have er:=gl _ _ er;have g4:=g3.trans gl;generalize af M3 pl (.lst ((nz x.1).map pD))=M4 at eo er el g4 ⊢;clear g3 gl E8;refine ⟨_,ag el, ?_⟩;refine E1 hN (I1.ge g4) eo Ec er Ed el Ee (by lia) (vd hx.b1) (Do hx.b3 hx.l3) fun M5 R5 g5 G J L O U Y Z E3 I5 r5 sub Ej Ef => ?_
  walk_at "wp";refine Ea _ _ ⟨R5,g5,_,_,_,_,_,_,_,_,_,_,_,_,_,rfl,fun a o ea => ?_,I5,fun r hr => ?_, ?_,fun k i j => ?_⟩
  ·refine r5.kp a o (fun z=>by rw [z,hd] at ea;cases ea) (fun z => ?_) (g4 _ _ (g1 _ _ ea))
   obtain ⟨r',Eg,rfl⟩:=Gk.mp z;rw [fr r' Eg] at ea;cases ea
  ·rcases r5.ex r hr with h | h
   ·exact fr r h
   ·cases ea:M r.2 with
    | none=>rfl
    | some o=>rw [g4 _ _ (g1 _ _ ea)] at h;cases h
  ·rw [D2,I8,Jj];lia
  ·rw [Ef,hg,jJ,jJ,jJ,lJ];simp [Tn]
 ·rintro ρ M1 ⟨R,g,o6,o7,o8,o9,E5,G,J,L,O,U,Y,Z,E3,rfl,g1,I1,fr,E9,hg⟩;dsimp only;walk_at "st";exact q d M1 R g I1 g1 hd fr E9 hg
theorem Cd {L0 L1 N:Nat} {p:Pr} (h:Pf L0 L1 N p):(nz p.1).length*(nz p.2.1).length<=L0*L1:=by
 have a1:=oT (l:=p.1);have a2:=oT (l:=p.2.1);rw [h.l1] at a1;rw [h.l2] at a2;exact HS a1 a2
end
section
open PySem PySem.Spec PyProof.Rows L2.Srt
variable {T:List FD}
noncomputable def ow (n i:Nat):Pr:=(one n (i:Nat),one n (i:Nat),iK n i)
noncomputable def pa (n i j:Nat):Pr:=(bb n i j,bb n i j,one (2*n - 1) ((i+j:Nat):Int))
noncomputable def ows (n:Nat):List Pr:=(D0 n).map (ow n)
noncomputable def tri {α:Type} (F:Nat->Nat -> α) (n:Nat):List α := (D0 n).flatMap fun i=>(D0 i).map (F i)
noncomputable def trj {α:Type} (F:Nat->Nat -> α) (n:Nat):List α := (D0 n).flatMap fun j=>(D0 (n - (j+1))).map fun t=>F j (j+1+t)
noncomputable def bp (n:Nat):List Pr:=ows n++trj (pa n) n
theorem vm {n i j:Nat}:bb n i j=bb n j i:=by
 unfold bb;exact GK fun h _=>by simp only [or_comm]
theorem Aj {n i j:Nat}:pa n i j=pa n j i:=by unfold pa;rw [vm,Nat.add_comm]
theorem lK {α:Type} {f:Nat -> α} {g:Nat->List α}:∀ l:List Nat,(l.flatMap fun i=>f i::g i).Perm (l.map f++l.flatMap g)
 | [] => by simp
 | i::l=>by
   rw [Hm,Gr,Hm,K5,K5];refine List.Perm.cons _ ?_;refine ((lK l).append_left _).trans ?_;rw [<- Gu, <- Gu];exact List.perm_append_comm.append_right _
theorem jK {α:Type} {f:Nat -> α} {g:Nat->List α}:∀ l:List Nat,(l.flatMap fun i=>g i++[f i]).Perm (l.flatMap g++l.map f)
 | [] => by simp
 | i::l=>by
   rw [Hm,Gr,Hm,Gu,Gu];refine H9 _ ?_;rw [List.singleton_append];exact ((jK l).cons _).trans OU.symm
theorem kA {α:Type} {F:Nat->Nat -> α}:∀ n,(trj F n).Perm (tri (fun i j=>F j i) n)
 | 0=>by simp [tri,trj]
 | n+1=>by
   have e1:tri (fun i j=>F j i) (n+1)=tri (fun i j=>F j i) n++(D0 n).map fun j=>F j n:=by unfold tri;rw [JL,Iv];simp
   have e2:trj F (n+1)=(D0 n).flatMap fun j=>((D0 (n - (j+1))).map fun t=>F j (j+1+t))++[F j n]:=by
    unfold trj;rw [JL,Iv];have:(List.flatMap (fun j=>(D0 (n+1 - (j+1))).map fun t=>F j (j+1+t)) [n])=[]:=by simp
    rw [this,HU];unfold List.flatMap;congr 1;refine GK fun j q => ?_;have q:=GL.mp q;rw [show n+1 - (j+1)=(n - (j+1))+1 by lia,JL,Hz]
    simp only [Gr,Ji];rw [show j+1+(n - (j+1))=n by lia]
   rw [e1,e2];exact (jK _).trans ((kA n).append_right _)
theorem pp_perm {n:Nat}:(pp n).Perm (ows n++tri (pa n) n):=by
 unfold pp ppI;exact lK _
theorem oZ {n:Nat}:tri (fun i j=>pa n j i) n=tri (pa n) n:=by
 unfold tri;simp only [Aj]
theorem bp_perm {n:Nat}:(bp n).Perm (ows n++tri (pa n) n):=by
 unfold bp;refine H9 _ ?_;have:=kA (F:=pa n) n;rw [oZ (n:=n)] at this;exact this
theorem bp_pp {n:Nat}:(bp n).Perm (pp n):=bp_perm.trans pp_perm.symm
theorem qE {α:Type} {F:Nat->Nat -> α}:∀ n,2*(tri F n).length+n=n*n
 | 0=>by simp [tri]
 | n+1=>by
   have e1:tri F (n+1)=tri F n++(D0 n).map (F n):=by unfold tri;rw [JL,Iv];simp
   have:=qE (F:=F) n;rw [e1,D2,r3,Gz,Nat.add_mul,Nat.mul_add];lia
theorem qF {α:Type} {F:Nat->Nat -> α} (n:Nat) : 2*(trj F n).length+n=n*n:=by
 rw [(kA n).length_eq];exact qE n
theorem jL {n:Nat} : 2*(bp n).length=n*(n+1):=by
 have:=qF (F:=pa n) n;unfold bp ows;rw [D2,r3,Gz,Nat.mul_add];lia
theorem Dp {n:Nat} (h:n<=50):(bp n).length<=2000:=by
 have:=jL (n:=n);have:n*(n+1)<=50*51:=HS h (by lia)
 lia
noncomputable def gZ (s:Stmt):FD:=⟨"single_one",s,["length", "at", "row"],2,
 (.cons (.asg (.name 2) (.bin .mul (.lst (.cons (.int 0) .nil)) (.var 0)))
 (.cons (.put (.var 2) (.var 1) (.int 1))
 (.cons (.ret (.var 2))
 .nil)))⟩
theorem qG {f:Nat} {s:Stmt} (hf:T[f]? = some (gZ s)) {n:Nat} (U : 1<=n) {L i:Nat} (Y:L<=1000) (hi:i < L) {M:Mem} {Q:QD} (q:∀ p M',Ge M M'->M p=none->M' p=some (.lst ((one L (i:Nat)).map .int))->Q (.ref p) M'):phi T n f [.int L, .int i] M Q:=by
 refine aA (by lia) hf rfl (ρ := [some _,some _,none]) rfl ?_
 unfold gZ;walk_at "st";refine ⟨by rw [Gd];lia,fun G F => ?_⟩
 refine ⟨_,ab,by lia,by lia,by rw [Gd];simp;lia,fun B z => ?_⟩
 rw [Gq,mq];have J:=Ge.new (o := .lst [.int 0]) F;have g1:=J.trans (Ge.new (o := .lst (((D0 L).map fun _=>(0:Int)).map D.int)) z);have e1:=ab (M:=af M G (.lst [.int 0])) (a:=B) (o := .lst (((D0 L).map fun _=>(0:Int)).map D.int));have O:M B=none:=by
  cases hz:M B with
  | none=>rfl
  | some o=>rw [J _ _ hz] at z;cases z
 generalize af (af M G (.lst [.int 0])) B _=M1 at g1 e1 ⊢;walk_at "st";refine bg e1 (j:=i) (by rw [r3,r3,Gz];exact gX hi) ?_
 walk_at "st";refine q B _ (g1.upd O) O ?_;rw [ab, <- K7 (f:=D.int),dJ];unfold one;congr 3;exact GK fun h _=>by simp only [Nf]
noncomputable def mv (s:Stmt) (fo:Nat):FD:=⟨"own_product",s,["n", "i", "o", "j", "part"],2,
 (.cons (.asg (.name 2) (.bin .mul (.lst (.cons (.int 0) .nil)) (.bin .sub (.bin .mul (.int 2) (.var 0)) (.int 1))))
 (.cons (.for (.name 3) (.rng1 (.var 0)) (.cons (.put (.var 2) (.bin .add (.var 1) (.var 3)) (.ite (.cmp .eq (.var 3) (.var 1)) (.int 1) (.neg (.int 1))))
 .nil))
 (.cons (.asg (.name 4) (.blt .tuple (.cons (.call fo (.cons (.var 0) (.cons (.var 1) .nil))) .nil)))
 (.cons (.ret (.tup (.cons (.var 4) (.cons (.var 4) (.cons (.blt .tuple (.cons (.var 2) .nil)) .nil)))))
 .nil))))⟩
theorem Ce {f fo:Nat} {s so:Stmt} (hf:T[f]? = some (mv s fo)) (L:T[fo]? = some (gZ so)) {k:Nat} (hk : 2<=k) {n i:Nat} (hn:n<=50) (hi:i < n) {M:Mem} {Q:QD} (q:∀ M',Ge M M'->Q (prD (ow n i)) M'):phi T k f [.int n, .int i] M Q:=by
 refine aA (by lia) hf rfl (ρ := [some _,some _,none,none,none]) rfl ?_
 unfold mv;walk_at "st";refine ⟨by rw [Gd];lia,fun Z O=>⟨bE (by lia), ?_⟩⟩
 refine ⟨_,ab,by lia,by lia,by rw [Gd];simp;lia,fun po B => ?_⟩
 rw [show (2*(n:Int) - 1).toNat=2*n - 1 by lia,mq]
 have F:=Ge.new (o := .lst [.int 0]) O;have G:M po=none:=by
  cases hz:M po with
  | none=>rfl
  | some o=>rw [F _ _ hz] at B;cases B
 have g2:=F.trans (Ge.new (o := .lst (((D0 (2*n - 1)).map fun _=>(0:Int)).map D.int)) B);have e2:=ab (M:=af M Z (.lst [.int 0])) (a:=po) (o := .lst (((D0 (2*n - 1)).map fun _=>(0:Int)).map D.int));generalize af (af M Z (.lst [.int 0])) po (.lst (((D0 (2*n - 1)).map fun _=>(0:Int)).map D.int))=M2 at g2 e2 ⊢;walk_at "st";refine ⟨by lia,by lia, ?_⟩
 rw [Gq];refine aP (f:=fun i=>D.int (i:Nat)) (ys:=D0 n) (I:=fun l' ρ M' => ∃ U, ρ = [some (.int n),some (.int (i:Nat)),some (.ref po),U,none]/\Ge M M'/\M' po=some (.lst (((D0 (2*n - 1)).map fun k=>if i<=k/\k < i+l'.length then (if k=2*i then (1:Int) else -1) else 0).map D.int))) aM ⟨_,rfl,g2,by rw [e2];congr 3;exact GK fun k _=>by rw [if_neg (by simp)]⟩ (fun _ _ _ _=>trivial) ?_ ?_
 ·rintro l' j r' ρ M3 e' ⟨U,rfl,g3,J⟩;refine ⟨_,rfl,fun F' Y => ?_⟩;have z:=am e';rw [Gz] at z;have hj:j=l'.length:=by
   have:=lB e';rw [Hy z] at this;exact (Ig.inj this).symm
  subst hj;have fin:∀ v:Int,v=(if l'.length=i then 1 else -1)->F' [some (.int n),some (.int (i:Nat)),some (.ref po),some (.int (l'.length:Nat)),none] (af M3 po (.lst ((((D0 (2*n - 1)).map fun k=>if i<=k/\k < i+l'.length then (if k=2*i then (1:Int) else -1) else 0).map D.int).set (i+l'.length) (.int v)))):=fun v hv=>by
   refine Y _ _ ⟨_,rfl,g3.upd G, ?_⟩;rw [ab, <- K7 (f:=D.int),dJ];congr 3;refine GK fun k _ => ?_;rw [D2,I8]
   by_cases h1:k=i+l'.length
   ·rw [if_pos h1,if_pos (show i<=k/\k < i+(l'.length+1) by lia),hv]
    by_cases h2:l'.length=i
    ·rw [if_pos h2,if_pos (by lia)]
    ·rw [if_neg h2,if_neg (by lia)]
   ·rw [if_neg h1]
    by_cases h2:i<=k/\k < i+l'.length
    ·rw [if_pos h2,if_pos (show i<=k/\k < i+(l'.length+1) by lia)]
    ·rw [if_neg h2,if_neg (show ¬ (i<=k/\k < i+(l'.length+1)) by lia)]
  walk_at "st";rw [<- Km]
  by_cases hz:l'.length=i
  ·rw [if_pos (by simp;lia)]
   refine bg J (j:=i+l'.length) (by rw [r3,r3,Gz];exact gX (by lia)) ?_
   exact fin 1 (by rw [if_pos hz])
  ·rw [if_neg (by simp;lia)]
   refine bg J (j:=i+l'.length) (by rw [r3,r3,Gz];exact gX (by lia)) ?_
   exact fin (-1) (by rw [if_neg hz])
 ·rintro ρ M3 ⟨U,rfl,g3,J⟩;rw [Gz] at J;dsimp only;walk_at "st";refine qG L (by lia) (by lia) hi fun p1 M4 g4 _ e4 => ?_
  refine ⟨_,_,rfl,ag e4, ?_⟩;walk_at "st";refine ⟨_,_,rfl,ag (g4 _ _ J),by rw [Gd];lia, ?_⟩
  have:=q M4 (g3.trans g4);unfold ow prD iK at this;rw [show ((D0 (2*n - 1)).map fun k=>if i<=k/\k < i+n then (if k=2*i then (1:Int) else -1) else 0)=((D0 (2*n - 1)).map fun k=>if k=2*i then (1:Int) else if i<=k/\k < i+n then -1 else 0) from GK fun k _=>by
   by_cases h1:k=2*i
   ·rw [if_pos h1,if_pos h1,if_pos (by lia)]
   ·rw [if_neg h1,if_neg h1]]
  exact this
noncomputable def mw (s:Stmt) (fo:Nat):FD:=⟨"pair_product",s,["n", "i", "j", "part"],3,
 (.cons (.asg (.name 3) (.blt .tuple (.cons (.comp [none,(some 1),(some 2)] ["at", "i", "j"] (.last (.rng1 (.var 0)) (.name 0) .nil (.ite (.cmp .inS (.var 0) (.tup (.cons (.var 1) (.cons (.var 2) .nil)))) (.int 1) (.int 0)))) .nil)))
 (.cons (.ret (.tup (.cons (.var 3) (.cons (.var 3) (.cons (.blt .tuple (.cons (.call fo (.cons (.bin .sub (.bin .mul (.int 2) (.var 0)) (.int 1)) (.cons (.bin .add (.var 1) (.var 2)) .nil))) .nil)) .nil)))))
 .nil))⟩
theorem Cf {f fo:Nat} {s so:Stmt} (hf:T[f]? = some (mw s fo)) (L:T[fo]? = some (gZ so)) {k:Nat} (Z : 2<=k) {n i j:Nat} (hn:n<=50) (hi:i < n) (hj:j < n) {M:Mem} {Q:QD} (q:∀ M',Ge M M'->Q (prD (pa n i j)) M'):phi T k f [.int n, .int i, .int j] M Q:=by
 refine aA (by lia) hf rfl (ρ := [some _,some _,some _,none]) rfl ?_
 unfold mw;walk_at "st";refine ⟨by lia,by lia, ?_⟩
 rw [Gq];refine aI (f:=fun i=>D.int (i:Nat)) (ys:=D0 n) (I:=fun r ρ M' acc=>(∃ o0, ρ = [o0,some (.int (i:Nat)),some (.int (j:Nat))])/\M'=M/\acc=(r.map fun h=>if h=i∨h=j then (1:Int) else 0).map .int) aM ⟨⟨_,rfl⟩,rfl,rfl⟩ (fun _ _ _ _ _=>trivial) ?_ ?_
 ·rintro r h r2 ρ B acc e10 ⟨⟨o0,rfl⟩,rfl,rfl⟩;refine ⟨_,rfl,fun N' F => ?_⟩;have G:=am e10;rw [Gz] at G;walk_at "wp";refine ⟨by rw [Gd];lia,[(i:Int),(j:Int)],rfl, ?_⟩
  walk_at "wp"
  by_cases z:h=i∨h=j
  ·rw [if_pos (by simp;lia)]
   exact ⟨by rw [r3,r3,Gd];lia,F _ _ _ ⟨⟨_,rfl⟩,rfl,by rw [Hz,Hz,Gr,Gr,if_pos z];rfl⟩⟩
  ·rw [if_neg (by simp;lia)]
   exact ⟨by rw [r3,r3,Gd];lia,F _ _ _ ⟨⟨_,rfl⟩,rfl,by rw [Hz,Hz,Gr,Gr,if_neg z];rfl⟩⟩
 ·rintro ρ B acc ⟨⟨o0,rfl⟩,rfl,rfl⟩ p2 hp2;refine ⟨_,_,rfl,ag ab, ?_⟩;have J:=Ge.new (o := .lst (((D0 n).map fun h=>if h=i∨h=j then (1:Int) else 0).map .int)) hp2
  generalize af B p2 (.lst (((D0 n).map fun h=>if h=i∨h=j then (1:Int) else 0).map .int))=M11 at J ⊢
  walk_at "st";refine ⟨bE (by lia), ?_⟩
  rw [show (2*(n:Int) - 1)=((2*n - 1:Nat):Int) by lia, <- Km]
  refine qG L (by lia) (by lia) (by lia) fun p1 O U _ Y => ?_
  exact ⟨_,_,rfl,ag Y,by rw [Gd];lia,q O (J.trans U)⟩
noncomputable def xP (s:Stmt) (fo fp:Nat):FD:=⟨"by_pairs",s,["n", "products"],1,
 (.cons (.asg (.name 1) (.comp [none,(some 0)] ["i", "n"] (.last (.rng1 (.var 0)) (.name 0) .nil (.call fo (.cons (.var 1) (.cons (.var 0) .nil))))))
 (.cons (.aug 1 .ext (.comp [none,none,(some 0)] ["i", "j", "n"] (.more (.rng1 (.var 0)) (.name 0) .nil (.last (.rng2 (.bin .add (.var 0) (.int 1)) (.var 2)) (.name 1) .nil (.call fp (.cons (.var 2) (.cons (.var 0) (.cons (.var 1) .nil))))))))
 (.cons (.ret (.tup (.cons (.var 0) (.cons (.var 0) (.cons (.bin .sub (.bin .mul (.int 2) (.var 0)) (.int 1)) (.cons (.var 1) .nil))))))
 .nil)))⟩
theorem Dq {f fo fp f1:Nat} {s so sp s1:Stmt} (hf:T[f]? = some (xP s fo fp)) (Y:T[fo]? = some (mv so f1)) (Z:T[fp]? = some (mw sp f1)) (L:T[f1]? = some (gZ s1)) {k:Nat} (hk : 3<=k) {n:Nat} (U:n<=50) (h1 : 1<=n) {M:Mem} {Q:QD}
 (q:∀ p M',Ge M M'->M p=none->M' p=some (.lst ((bp n).map prD))->Q (.tup [.int n, .int n, .int ((2*n - 1:Nat):Int), .ref p]) M'):phi T k f [.int n] M Q:=by
 refine aA (by lia) hf rfl (ρ := [some _,none]) rfl ?_
 unfold xP;walk_at "st";refine ⟨by lia,by lia, ?_⟩
 rw [Gq];refine aI (f:=fun i=>D.int (i:Nat)) (ys:=D0 n) (I:=fun l ρ M' acc=>(∃ o0, ρ = [o0,some (.int n)])/\Ge M M'/\acc=(l.map (ow n)).map prD) aM ⟨⟨_,rfl⟩,Ge.refl,rfl⟩ (fun _ _ _ _ _=>trivial) ?_ ?_
 ·rintro l i r ρ M1 acc e ⟨⟨o0,rfl⟩,g1,rfl⟩;refine ⟨_,rfl,fun N' z => ?_⟩;have B:=am e;rw [Gz] at B;have hi:i < n:=GL.mp (by rw [e];simp)
  walk_at "wp";refine Ce Y L (by lia) U hi fun M2 g2 => ?_
  exact ⟨by rw [r3,r3,Gd];lia,z _ _ _ ⟨⟨_,rfl⟩,g1.trans g2,by simp⟩⟩
 ·rintro ρ M1 acc ⟨⟨o0,rfl⟩,g1,rfl⟩ G hp1;have hp:M G=none:=by
   cases hz:M G with
   | none=>rfl
   | some o=>rw [g1 _ _ hz] at hp1;cases hp1
  have g2:=g1.trans (Ge.new (o := .lst (((D0 n).map (ow n)).map prD)) hp1);have e2:=ab (M:=M1) (a:=G) (o := .lst (((D0 n).map (ow n)).map prD));generalize af M1 G _=M2 at g2 e2 ⊢;walk_at "st";refine ⟨by lia,by lia, ?_⟩
  rw [Gq];have hT:∀ l i r,D0 n=l++i::r->(l.flatMap fun j=>(D0 (n - (j+1))).map fun t=>pa n j (j+1+t)).length+n<=3000:=fun l i r e=>by
   have h1:(l.flatMap fun j=>(D0 (n - (j+1))).map fun t=>pa n j (j+1+t)).length<=l.length*n:=by
    clear e
    induction l with
    | nil=>simp
    | cons j l ih=>rw [Hm,D2,r3,Gz,HJ,Jj];lia
   have B:=am e;rw [Gz] at B;have:l.length*n<=50*50:=HS (by lia) U
   lia
  refine aI (f:=fun i=>D.int (i:Nat)) (ys:=D0 n) (I:=fun l ρ M' acc=>(∃ o0 F, ρ = [o0,F,some (.int n)])/\Ge M2 M'/\acc=(l.flatMap fun j=>(D0 (n - (j+1))).map fun t=>pa n j (j+1+t)).map prD) aM ⟨⟨_,_,rfl⟩,Ge.refl,rfl⟩ (fun _ _ _ _ _=>trivial) ?_ ?_
  ·rintro l i r ρ M3 acc e ⟨⟨o0,F,rfl⟩,g3,rfl⟩;refine ⟨_,rfl,fun N' z => ?_⟩;have hi:i < n:=GL.mp (by rw [e];simp)
   have hT:=hT l i r e;walk_at "wp";refine ⟨(i:Int)+1,n,⟨rfl,rfl⟩,⟨by lia,by lia,by lia,by lia⟩, ?_⟩
   rw [show ((n:Int) - ((i:Int)+1)).toNat=n - (i+1) by lia]
   refine aI (f:=fun t=>D.int ((i:Int)+1+(t:Nat))) (ys:=D0 (n - (i+1))) (I:=fun l' ρ M' acc=>(∃ F, ρ = [some (.int i),F,some (.int n)])/\Ge M2 M'/\acc=((l.flatMap fun j=>(D0 (n - (j+1))).map fun t=>pa n j (j+1+t))++l'.map fun t=>pa n i (i+1+t)).map prD) (by rfl) ⟨⟨_,rfl⟩,g3,by simp⟩ (fun _ _ _ _ _=>trivial) ?_ ?_
   ·rintro l' t r' ρ M4 acc e' ⟨⟨F,rfl⟩,J,rfl⟩;refine ⟨_,rfl,fun N2 E3 => ?_⟩;have O:=am e';rw [Gz] at O;have ht:t < n - (i+1):=GL.mp (by rw [e'];simp)
    walk_at "wp";rw [show (i:Int)+1+(t:Int)=((i+1+t:Nat):Int) by lia]
    refine Cf Z L (by lia) U hi (by lia) fun M5 g5 => ?_
    refine ⟨by rw [r3,D2,r3,Gd];lia,E3 _ _ _ ⟨⟨_,rfl⟩,J.trans g5,by simp⟩⟩
   ·rintro ρ M4 acc ⟨⟨F,rfl⟩,J,rfl⟩;refine z _ _ _ ⟨⟨_,_,rfl⟩,J, ?_⟩;rw [Iv];simp
  ·rintro ρ M3 acc ⟨⟨o0,F,rfl⟩,g3,rfl⟩ p3 hp3;have hl:=Dp (n:=n) U;unfold bp ows trj at hl;rw [D2] at hl;have J:=g3.trans (Ge.new (o := .lst (((D0 n).flatMap fun j=>(D0 (n - (j+1))).map fun t=>pa n j (j+1+t)).map prD)) hp3);refine ⟨G,p3,_,_,rfl,rfl,J _ _ e2,ab,by simp only [r3] at hl ⊢;rw [Gd];lia, ?_⟩
   walk_at "st";refine ⟨bE (by lia),by rw [Gd];lia, ?_⟩
   rw [show 2*(n:Int) - 1=((2*n - 1:Nat):Int) by lia]
   refine q G _ ((g2.trans J).upd hp) hp ?_;rw [ab, <- Hz];rfl
end
section
open PySem PySem.Spec PyProof.Rows L2.Srt
mutual
theorem vp:∀ (s:Sh) {a b:D},hs s a=true->hs s b=true->kyD a=kyD b->a=b
 | .int, .int i, .int j,_,_,e=>by
  have:Ky.int i=Ky.int j:=e
  cases this;rfl
 | .tup l, .tup ds, .tup es,h,g,e=>by
  have h:hss l ds=true:=by simpa [hs] using h
  have g:hss l es=true:=by simpa [hs] using g
  have e:Ky.tup (toKs (pds ds))=Ky.tup (toKs (pds es)):=by simpa [kyD,pd,toK] using e
  rw [ky_injs l h g (Ky.tup.inj e)]
 | .int, .tup _,_,h,_,_=>by simp [hs] at h
 | .int, .non,_,h,_,_=>by simp [hs] at h
 | .int, .bl _,_,h,_,_=>by simp [hs] at h
 | .int, .str _,_,h,_,_=>by simp [hs] at h
 | .int, .con _,_,h,_,_=>by simp [hs] at h
 | .int, .ref _,_,h,_,_=>by simp [hs] at h
 | .int, .fn _,_,h,_,_=>by simp [hs] at h
 | .int, .int _, .tup _,_,h,_=>by simp [hs] at h
 | .int, .int _, .non,_,h,_=>by simp [hs] at h
 | .int, .int _, .bl _,_,h,_=>by simp [hs] at h
 | .int, .int _, .str _,_,h,_=>by simp [hs] at h
 | .int, .int _, .con _,_,h,_=>by simp [hs] at h
 | .int, .int _, .ref _,_,h,_=>by simp [hs] at h
 | .int, .int _, .fn _,_,h,_=>by simp [hs] at h
 | .tup _, .int _,_,h,_,_=>by simp [hs] at h
 | .tup _, .non,_,h,_,_=>by simp [hs] at h
 | .tup _, .bl _,_,h,_,_=>by simp [hs] at h
 | .tup _, .str _,_,h,_,_=>by simp [hs] at h
 | .tup _, .con _,_,h,_,_=>by simp [hs] at h
 | .tup _, .ref _,_,h,_,_=>by simp [hs] at h
 | .tup _, .fn _,_,h,_,_=>by simp [hs] at h
 | .tup _, .tup _, .int _,_,h,_=>by simp [hs] at h
 | .tup _, .tup _, .non,_,h,_=>by simp [hs] at h
 | .tup _, .tup _, .bl _,_,h,_=>by simp [hs] at h
 | .tup _, .tup _, .str _,_,h,_=>by simp [hs] at h
 | .tup _, .tup _, .con _,_,h,_=>by simp [hs] at h
 | .tup _, .tup _, .ref _,_,h,_=>by simp [hs] at h
 | .tup _, .tup _, .fn _,_,h,_=>by simp [hs] at h
theorem ky_injs:∀ (l:List Sh) {ds es:List D},hss l ds=true->hss l es=true->toKs (pds ds)=toKs (pds es)->ds=es
 | [],[],[],_,_,_=>rfl
 | s::l,d::ds,e::es,h,g,k=>by
   have h:hs s d=true/\hss l ds=true:=by simpa [hss] using h
   have g:hs s e=true/\hss l es=true:=by simpa [hss] using g
   have k:toK (pd d)=toK (pd e)/\toKs (pds ds)=toKs (pds es):=by simpa [pds,toKs] using k
   rw [vp s h.1 g.1 k.1,ky_injs l h.2 g.2 k.2]
 | [],_::_,_,h,_,_=>by simp [hss] at h
 | [],[],_::_,_,h,_=>by simp [hss] at h
 | _::_,[],_,h,_,_=>by simp [hss] at h
 | _::_,_::_,[],_,h,_=>by simp [hss] at h
end
theorem ii {sh:Sh} {xs xs' ys ys':List D} (h:∀ d∈xs,hs sh d=true) (p:ys.Perm xs) (p':ys'.Perm xs') (px:xs.Perm xs') (s:cu ys) (s':cu ys'):ys=ys':=by
 refine Kj (le:=fun a b=>ltK (kyD b) (kyD a)=false) (fun a b j q h1 h2 => ?_) s s' (p.trans (px.trans p'.symm));have j:=h a (p.mem_iff.mp j);have q:=h b (px.mem_iff.mpr (p'.mem_iff.mp q));exact vp sh j q (fV _ _ h2 h1)
theorem pH {sh:Sh} {xs ys:List D} (h:∀ d∈xs,hs sh d=true) (p:ys.Perm xs) (s:cu ys) (s':cu xs):ys=xs:=ii h p (KR _) (KR _) s s'
theorem vq {l:List Int} (h:l.Pairwise (· < ·)):cu (l.map .int):=by
 unfold cu;rw [GQ];refine h.imp fun {a b} hab => ?_;show ltK (.int b) (.int a)=false;unfold ltK ar;rw [if_neg (by lia),if_neg (by lia)];rfl
theorem shP {n m k:Nat} {p:Pr} (h:p.1.length=n/\p.2.1.length=m/\p.2.2.length=k):hs (.tup [.tup (D1 n .int), .tup (D1 m .int), .tup (D1 k .int)]) (prD p)=true:=by
 have g:∀ l:List Int,hss (D1 l.length .int) (l.map D.int)=true:=fun l=>by
  induction l with
  | nil=>rfl
  | cons x l ih=>rw [HJ,Hq,Gr,hss,ih];rfl
 obtain ⟨rfl,rfl,rfl⟩:=h;unfold prD;simp only [hs,hss,g,Bool.and_true]
end
section
variable {T:List FD}
noncomputable def mz (s:Stmt):FD:=⟨"part_of_row",s,["part", "row"],2,
 (.cons (.ret (.blt .sum (.cons (.comp [none,none] ["x", "y"] (.last (.zip (.var 0) (.var 1)) (.tup (.cons (.name 0) (.cons (.name 1) .nil))) .nil (.bin .mul (.var 0) (.var 1)))) .nil)))
 .nil)⟩
theorem p7 {f:Nat} {s:Stmt} (hf:T[f]? = some (mz s)) {n:Nat} (G : 1<=n) {x y:D} {a b:List Int} {M:Mem} {Q:QD} (hx:aq M x=some (a.map .int)) (z:aq M y=some (b.map .int)) (sa:fh a) (L:a.length<=1000)
 (q:∀ M',Ge M M'->Q (.int (dot a b)) M'):phi T n f [x,y] M Q:=by
 refine aA G hf rfl (ρ := [some _,some _]) rfl ?_;unfold mz;walk_at "st";refine ⟨_,hx,_,z, ?_⟩;refine aI (I:=fun l ρ M' acc=>(∃ B F, ρ = [B,F])/\M'=M/\acc=(l.map fun xy=>xy.1*xy.2).map .int) (ys:=a.zip b) (f:=fun xy => .tup [.int xy.1, .int xy.2]) (oJ a b) ⟨⟨_,_,rfl⟩,rfl,rfl⟩ (fun _ _ _ _ h=>by rw [h.2.1];exact ⟨hx,z⟩) ?_ ?_
 ·rintro l xy r ρ M1 acc e ⟨⟨B,F,rfl⟩,rfl,rfl⟩;refine ⟨_,rfl,fun N J => ?_⟩;walk_at "wp";have j:=am e;rw [Pn] at j;have hm:xy.1∈a:=by
   have:xy∈a.zip b:=by rw [e];simp
   exact (Kk this).1
  have hs:=sa _ hm;exact ⟨bE (by lia),by simp [Gd];lia,J _ _ _ ⟨⟨_,_,rfl⟩,rfl,by simp⟩⟩
 ·rintro ρ M1 acc ⟨_,rfl,rfl⟩ p hp;refine zZ (ag ab) ?_;have:((a.zip b).map fun xy=>xy.1*xy.2).sum=dot a b:=by unfold dot;rw [ig]
  rw [this];exact q _ (Ge.new hp)
noncomputable def kB (one other:List Int) (p:Pr):Int:=dot p.1 one*dot p.2.1 other
noncomputable def cS (one other:List Int) (L:Nat) (ps:List Pr):List Int:=(D0 L).map fun k=>(ps.map fun p=>p.2.2.getD k 0*kB one other p).sum
theorem xQ {one other:List Int} {L:Nat}:cS one other L []=D1 L 0:=by
 unfold cS;apply Le
 ·simp
 ·intro i h1 h2;simp
theorem vt {one other:List Int} {L:Nat} {ps:List Pr} {p:Pr} (h:p.2.2.length=L):cS one other L (ps++[p])=IH (fun x c=>x+c*kB one other p) (cS one other L ps) p.2.2:=by
 unfold cS;apply Le
 ·simp [h]
 ·intro i h1 h2;have:i < L:=by simpa using h1
  simp [GG,tv (show i < p.2.2.length by lia)]
noncomputable def gn (s:Stmt) (fp:Nat):FD:=⟨"applied",s,["scheme", "one", "other", "left", "right", "many", "products", "told", "l", "r", "o", "product"],3,
 (.cons (.asg (.tup (.cons (.name 3) (.cons (.name 4) (.cons (.name 5) (.cons (.name 6) .nil))))) (.var 0))
 (.cons (.asg (.name 7) (.bin .mul (.lst (.cons (.int 0) .nil)) (.var 5)))
 (.cons (.for (.tup (.cons (.name 8) (.cons (.name 9) (.cons (.name 10) .nil)))) (.seq (.var 6)) (.cons (.asg (.name 11) (.bin .mul (.call fp (.cons (.var 8) (.cons (.var 1) .nil))) (.call fp (.cons (.var 9) (.cons (.var 2) .nil)))))
 (.cons (.asg (.name 7) (.comp [none,none,(some 11)] ["x", "c", "product"] (.last (.zip (.var 7) (.var 10)) (.tup (.cons (.name 0) (.cons (.name 1) .nil))) .nil (.bin .add (.var 0) (.bin .mul (.var 1) (.var 2))))))
 .nil)))
 (.cons (.ret (.var 7))
 .nil))))⟩
theorem Ak {f fp:Nat} {s s2:Stmt} (hf:T[f]? = some (gn s fp)) (O:T[fp]? = some (mz s2)) {n:Nat} (hn : 2<=n) {L0 L1 L2:Nat} (h0:L0<=1000) (h1:L1<=1000) (h2:L2<=1000) {pr:Addr} {ps:List Pr} {x y:D} {one other:List Int} {M:Mem} {Q:QD} (hp:∀ p∈ps,C5 L0 L1 L2 p) (h:M pr=some (.lst (ps.map prD)))
 (hx:aq M x=some (one.map .int)) (hy:aq M y=some (other.map .int)) (Y:Big one) (E4:Big other)
 (q:∀ M' p,Ge M M'->M p=none->M' p=some (.lst ((cS one other L2 ps).map .int))->Q (.ref p) M'):phi T n f [.tup [.int L0, .int L1, .int L2, .ref pr],x,y] M Q:=by
 refine aA (by lia) hf rfl (ρ := [some _,some _,some _,none,none,none,none,none,none,none,none,none]) rfl ?_
 unfold gn;walk_at "st";walk_at "st";refine ⟨by rw [Gd];lia,fun p0 U => ?_⟩
 have Z:=Ge.new (o := .lst [.int 0]) U;refine ⟨_,ab,by lia,by lia,by rw [Gd];simp;lia,fun L z => ?_⟩
 have g1:=Z.trans (Ge.new (o := .lst (D1 (L2:Int).toNat [D.int 0]).flatten) z);have e1:af (af M p0 (.lst [.int 0])) L (.lst (D1 (L2:Int).toNat [D.int 0]).flatten) L=some (.lst ((cS one other L2 []).map .int)):=by
  rw [ab,xB,xQ,Gq]
 have n1:M L=none:=by
  cases e:M L with
  | none=>rfl
  | some o=>rw [Z _ _ e] at z;cases z
 generalize af (af M p0 (.lst [.int 0])) L (.lst (D1 (L2:Int).toNat [D.int 0]).flatten)=M1 at g1 e1;clear Z z U;walk_at "st";refine ⟨_,ag (g1 _ _ h), ?_⟩;refine aP (I:=fun l ρ M' => ∃ pt o8 o9 B G, ρ = [some (.tup [.int L0, .int L1, .int L2, .ref pr]),some x,some y,some (.int L0),some (.int L1),some (.int L2),some (.ref pr),some (.ref pt),o8,o9,B,G]/\Ge M M'/\M pt=none/\M' pt=some (.lst ((cS one other L2 l).map .int)))
  rfl ⟨L,none,none,none,none,rfl,g1,n1,e1⟩ (fun _ _ _ ⟨_,_,_,_,_,_,g,_⟩=>ag (g _ _ h)) ?_ ?_
 ·rintro l p r ρ M2 e ⟨pt,o8,o9,B,G,rfl,g2,n2,e2⟩;have j:=hp p (by rw [e];simp)
  refine ⟨_,rfl,fun F hF => ?_⟩;walk_at "st";refine p7 O (by lia) jD (dm hx g2) j.s0 (by rw [j.l0];exact h0) fun M3 g3 => ?_
  refine p7 O (by lia) jD (dm hy (g2.trans g3)) j.s1 (by rw [j.l1];exact h1) fun M4 g4 => ?_
  walk_at "wp";have db:=uW j.s0 Y (by rw [j.l0];exact h0)
  refine ⟨bE db, ?_⟩;have e4:=g4 _ _ (g3 _ _ e2);have gg:=(g2.trans g3).trans g4;walk_at "st";refine ⟨_,ag e4, ?_⟩;refine aI (I:=fun l' ρ M' acc=>(∃ o1 o2, ρ = [o1,o2,some (.int (kB one other p))])/\M'=M4/\acc=(l'.map fun xy=>xy.1+xy.2*kB one other p).map .int) (ys:=(cS one other L2 l).zip p.2.2) (f:=fun xy => .tup [.int xy.1, .int xy.2]) (oJ _ _) ⟨⟨_,_,rfl⟩,rfl,rfl⟩ (fun _ _ _ _ h=>by rw [h.2.1];exact ag e4) ?_ ?_
  ·rintro l' xy r' ρ M5 acc e' ⟨⟨o1,o2,rfl⟩,rfl,rfl⟩;refine ⟨_,rfl,fun N hN => ?_⟩;walk_at "wp";have E3:=am e';rw [Pn] at E3;have E5:=j.l2;have hm:xy.2∈p.2.2:=by
    have:xy∈(cS one other L2 l).zip p.2.2:=by rw [e'];simp
    exact (Kk this).2
   have hs:=j.s2 _ hm;exact ⟨bE (by lia),by simp [Gd];lia,hN _ _ _ ⟨⟨_,_,rfl⟩,rfl,by simp⟩⟩
  ·rintro ρ M5 acc ⟨_,rfl,rfl⟩ p2 J;refine hF _ _ ⟨p2,_,_,_,_,rfl,gg.trans (Ge.new J), ?_, ?_⟩
   ·cases e0:M p2 with
    | none=>rfl
    | some o=>rw [gg _ _ e0] at J;cases J
   ·rw [ab,vt j.l2,ig]
 ·rintro ρ M2 ⟨pt,o8,o9,B,G,rfl,g2,n2,e2⟩;walk_at "st";exact q M2 pt g2 n2 e2
end
section
open PySem PySem.Spec PyProof.Rows L2.Srt
variable {T:List FD}
noncomputable def tr1 (k:K2) (zs:List (Int×Int)):List Tm:=zs.map fun z=>((z.1,k.1,k.2),z.2)
noncomputable def trk (g:K2->List Int) (r:K2×Addr):List Tm:=tr1 r.1 (nz (g r.1))
theorem Al {k:K2} {zs:List (Int×Int)}:tr1 k zs=cz k.1 1 k.2 1 zs:=by
 unfold tr1 cz;exact GK fun z _=>by rw [Int.one_mul,Int.one_mul]
theorem vw {g:K2->List Int} {k i j:Int}:∀ {R:List (K2×Addr)},(R.map (·.1)).Nodup->cf (R.flatMap (trk g)) (k,i,j)=if (i,j)∈R.map (·.1) then gz (g (i,j)) k else 0
 | [],_=>by simp [cj]
 | r::R,h=>by
   rw [Gr,HV] at h;rw [Hm,bF,vw h.2];unfold trk;rw [Al,kw,jJ,Gr]
   by_cases e:r.1=(i,j)
   ·have e1:r.1.1=i:=by rw [e]
    have e2:r.1.2=j:=by rw [e]
    rw [if_pos ⟨e1,e2⟩,if_neg (by rw [<- e];exact h.1),if_pos (by rw [e];simp),e];simp
   ·rw [if_neg (fun z=>e (Pz z.1 z.2))]
    by_cases m:(i,j)∈R.map (·.1)
    ·rw [if_pos m,if_pos (GP _ m)];simp
    ·rw [if_neg m,if_neg (fun z=>by
      rcases Gj.mp z with z | z
      ·exact e z.symm
      ·exact m z)];rfl
theorem kC {g:K2->List Int} {N:Nat} (h:∀ k,(g k).length=N):∀ {R:List (K2×Addr)},(R.flatMap (trk g)).length<=R.length*N
 | [] => by simp
 | r::R=>by
   rw [Hm,D2,HJ,Jj];have h1:=kC h (R:=R);have h2:=oT (l:=g r.1);rw [h] at h2;have j:(trk g r).length=(nz (g r.1)).length:=by simp [trk,tr1]
   lia
noncomputable def fB (s:Stmt) (ft ff fr:Nat):FD:=⟨"task_by",s,["scheme", "left", "right", "many", "products", "rows"],1,
 (.cons (.asg (.tup (.cons (.name 1) (.cons (.name 2) (.cons (.name 3) (.cons (.name 4) .nil))))) (.var 0))
 (.cons (.asg (.name 5) (.call fr (.cons (.var 0) .nil)))
 (.cons (.frz 5 (.ret (.call ft (.cons (.var 1) (.cons (.var 2) (.cons (.var 3) (.cons (.comp [none,none,none,none,none] ["i", "j", "row", "k", "c"] (.more (.items (.var 5)) (.tup (.cons (.tup (.cons (.name 0) (.cons (.name 1) .nil))) (.cons (.name 2) .nil))) .nil (.last (.seq (.call ff (.cons (.var 2) .nil))) (.tup (.cons (.name 3) (.cons (.name 4) .nil))) .nil (.tup (.cons (.var 3) (.cons (.var 0) (.cons (.var 1) (.cons (.var 4) .nil)))))))) .nil)))))))
 .nil)))⟩
theorem pI {f ft ff fr:Nat} {s sk sf sr:Stmt} (hf:T[f]? = some (fB s ft ff fr)) (E3:T[ft]? = some (eK sk)) (L:T[ff]? = some (cB sf)) (E4:T[fr]? = some (gm sr ff)) {n:Nat} (hn : 3<=n) {x0 x1:D} {L0 L1 N B:Nat} {p:Addr} {ps:List Pr} {M:Mem} {Q:QD} (hp:M p=some (.lst (ps.map prD))) (hN:N<=1000) (h0:L0<=1000) (h1:L1<=1000) (hB:ps.length*B*N<=100000) (E8:ps.length*B<=100000) (hF:∀ p∈ps,Pf L0 L1 N p) (hZ:∀ p∈ps,(nz p.1).length*(nz p.2.1).length<=B)
 (q:∀ (ts rs:List Tm) p' M',IsTask ts rs->(∀ k i j,cf ts (k,i,j)=Tn ps k i j)->Ge M M'->M p'=none->M' p'=some (.lst (rs.map tmD))->Q (.tup [x0,x1, .int N, .ref p']) M'):phi T n f [.tup [x0,x1, .int N, .ref p]] M Q:=by
 refine aA (by lia) hf rfl (ρ := [some _,none,none,none,none,none]) rfl ?_
 unfold fB;walk_at "st";walk_at "st";refine xO E4 L (by lia) hp hN h0 h1 (by lia) hF hZ fun d Z R g I g1 hd fr hl hg => ?_
 walk_at "st";refine zW rfl I.dct ?_;have fd:=ab (M:=Z) (a:=d) (o := .fdc (R.map raD));have g2:Ge M (af Z d (.fdc (R.map raD))):=g1.upd hd;have F:∀ r∈R,af Z d (.fdc (R.map raD)) r.2=some (.lst ((g r.1).map .int)):=fun r hr=>by
  rw [aE (I.nd r hr)];exact I.row r hr
 generalize af Z d (.fdc (R.map raD))=M2 at fd g2 F ⊢;have hlen:=kC I.ln (R:=R);have E9:R.length*N<=ps.length*B*N:=Lq _ hl;walk_at "wp";refine ⟨_,fd, ?_⟩;refine aI (f:=fun r:K2×Addr=>kvD (raD r)) (ys:=R) (I:=fun l ρ M' acc=>(∃ o0 o1 o2 G J, ρ = [o0,o1,o2,G,J])/\Ge M2 M'/\acc=(l.flatMap (trk g)).map tmD) (by rw [Ir];rfl) ⟨⟨_,_,_,_,_,rfl⟩,Ge.refl,rfl⟩ (fun _ _ _ _ _=>trivial) ?_ ?_
 ·rintro l r rr ρ O acc e ⟨⟨o0,o1,o2,G,J,rfl⟩,g3,rfl⟩;refine ⟨_,rfl,fun N' E5 => ?_⟩;have hr:r∈R:=by rw [e];simp
  have Ea:=kC I.ln (R:=l);have Eb:(l.flatMap (trk g)).length+(nz (g r.1)).length<=(R.flatMap (trk g)).length:=by
   rw [e,Iv,Hm,D2,D2];have:(trk g r).length=(nz (g r.1)).length:=by simp [trk,tr1]
   lia
  walk_at "wp";refine dZ L (by lia) (l:=g r.1) (by rw [I.ln];lia) (ag (g3 _ _ (F r hr))) fun pz E6 => ?_
  have U:=g3.trans (Ge.new (o := .lst ((nz (g r.1)).map pD)) E6);have ez:=ab (M:=O) (a:=pz) (o := .lst ((nz (g r.1)).map pD));generalize af O pz (.lst ((nz (g r.1)).map pD))=M4 at U ez ⊢;walk_at "wp";refine ⟨_,ag ez, ?_⟩;refine aI (f:=pD) (ys:=nz (g r.1)) (I:=fun zs ρ M' acc=>(∃ G J, ρ = [some (.int r.1.1),some (.int r.1.2),some (.ref r.2),G,J])/\M'=M4/\acc=(l.flatMap (trk g)).map tmD++(tr1 r.1 zs).map tmD) rfl ⟨⟨_,_,rfl⟩,rfl,by simp [tr1]⟩ (fun _ _ _ _ h=>by rw [h.2.1];exact ag ez) ?_ ?_
  ·rintro zs z r' ρ M5 acc e' ⟨⟨G,J,rfl⟩,rfl,rfl⟩;refine ⟨_,rfl,fun N2 E7 => ?_⟩;have Ec:=am e';have Ed:(tr1 r.1 zs).length=zs.length:=by simp [tr1]
   walk_at "wp";refine ⟨by rw [Gd];lia,by rw [D2,r3,r3,Gd];lia,E7 _ _ _ ⟨⟨_,_,rfl⟩,rfl, ?_⟩⟩
   simp [tr1,tmD]
  ·rintro ρ M5 acc ⟨⟨G,J,rfl⟩,rfl,rfl⟩;exact E5 _ _ _ ⟨⟨_,_,_,_,_,rfl⟩,U,by rw [Iv];simp [trk]⟩
 ·rintro ρ O acc ⟨⟨o0,o1,o2,G,J,rfl⟩,g3,rfl⟩ pt hpt;have U:=g3.trans (Ge.new (o := .lst ((R.flatMap (trk g)).map tmD)) hpt);have et:=ab (M:=O) (a:=pt) (o := .lst ((R.flatMap (trk g)).map tmD));generalize af O pt (.lst ((R.flatMap (trk g)).map tmD))=M4 at U et ⊢;walk_at "wp";refine qp E3 (by lia) (ag et) (by lia) fun rs p' M' hT gT Y eT => ?_
  have gM:=g2.trans U;refine q _ rs p' M' hT (fun k i j => ?_) (gM.trans gT) ?_ eT
  ·rw [vw I.keys]
   by_cases m:(i,j)∈R.map (·.1)
   ·rw [if_pos m];exact hg k i j
   ·rw [if_neg m, <- hg,I.out _ m,vj]
  ·cases hq:M p' with
   | none=>rfl
   | some o=>rw [gM _ _ hq] at Y;cases Y
theorem sC {f ft ff fr:Nat} {s sk sf sr:Stmt} (hf:T[f]? = some (fB s ft ff fr)) (z:T[ft]? = some (eK sk)) (B:T[ff]? = some (cB sf)) (F:T[fr]? = some (gm sr ff)) {n:Nat} (L : 3<=n) {x0 x1:D} {L0 L1 N:Nat} {p:Addr} {ps:List Pr} {M:Mem} {Q:QD} (O:M p=some (.lst (ps.map prD))) (U:N<=1000) (h0:L0<=1000) (h1:L1<=1000) (Y:ps.length*(L0*L1)*N<=100000) (G:ps.length*(L0*L1)<=100000) (J:∀ p∈ps,Pf L0 L1 N p)
 (q:∀ (ts rs:List Tm) p' M',IsTask ts rs->(∀ k i j,cf ts (k,i,j)=Tn ps k i j)->Ge M M'->M p'=none->M' p'=some (.lst (rs.map tmD))->Q (.tup [x0,x1, .int N, .ref p']) M'):phi T n f [.tup [x0,x1, .int N, .ref p]] M Q:=pI hf z B F L O U h0 h1 Y G J (fun p h=>Cd (J p h)) q
end
section
open PySem PySem.Spec PyProof.Rows L2.Srt
variable {T:List FD}
noncomputable def ixs (l:List Int) (ks:List Nat):List (Int×Int):=ks.map fun k:Nat=>((k:Int),gi l (k:Int))
theorem Am {l:List Int} {N:Nat} (h:l.length=N):ixs l (D0 N)=idx l:=by
 unfold ixs idx;apply Jn;intro j;rw [GH,Ll]
 by_cases hj:j < N
 ·rw [Hy hj,tv (by lia)]
  simp only [IU,gi,Gq];rw [GG,tv (by lia)];rfl
 ·rw [HM (by simp;lia),HM (by lia)];rfl
end
section
open PySem PySem.Spec PyProof.Rows L2.Srt
noncomputable def dz (zs:List (Int×Int)) (a:List Int):Int:=(zs.map fun z=>z.2*gi a z.1).sum
theorem hJ {z:Int×Int} {zs:List (Int×Int)} {a:List Int}:dz (z::zs) a=z.2*gi a z.1+dz zs a:=by simp [dz]
theorem lL {a b:List Int} {k i x j y:Int}:∀ {zs:List (Int×Int)},bh (fkk a b k) (cz i x j y zs)=(x*gi a i)*(y*gi b j)*S1 zs k
 | [] => by simp [cz,fu,S1]
 | z::zs=>by
   rw [show cz i x j y (z::zs)=((z.1,i,j),x*y*z.2)::cz i x j y zs from rfl,bX,lL,bv];unfold fkk;dsimp only
   by_cases h:z.1=k
   ·rw [if_pos h,if_pos h,Lp];congr 1;simp only [O8,OK,Int.mul_left_comm]
   ·rw [if_neg h,if_neg h];simp
theorem lM {a b:List Int} {k i x:Int} {zs:List (Int×Int)}:∀ {ys:List (Int×Int)},bh (fkk a b k) (cA i x ys zs)=(x*gi a i)*dz ys b*S1 zs k
 | [] => by simp [cA,fu,dz]
 | y::ys=>by
   rw [show cA i x (y::ys) zs=cz i x y.1 y.2 zs++cA i x ys zs from by simp [cA],cD,lM,lL,hJ,Lp,Jo]
theorem lN {a b:List Int} {k:Int} {ys zs:List (Int×Int)}:∀ {xs:List (Int×Int)},bh (fkk a b k) (dH xs ys zs)=dz xs a*dz ys b*S1 zs k
 | [] => by simp [dH,fu,dz]
 | x::xs=>by
   rw [show dH (x::xs) ys zs=cA x.1 x.2 ys zs++dH xs ys zs from by simp [dH],cD,lN,lM,hJ,Jo,Jo]
theorem sD {a:List Int}:∀ zs:List (Int×Int),dz (zs.filter fun q => !(q.2==0)) a=dz zs a
 | [] => rfl
 | z::zs=>by
   rw [hJ]
   by_cases h:z.2=0
   ·rw [Hi (by simp [h]),sD zs,h];simp
   ·rw [Ho (by simp [h]),hJ,sD zs]
theorem vx {l a:List Int} {N:Nat} (j:l.length=N) (q:a.length=N):dz (nz l) a=dot l a:=by
 unfold nz;rw [sD, <- Am j, <- uX j q];unfold dz ixs;rw [Ir];congr 1
theorem An {l:List Int} {k:Nat}:gz l (k:Int)=l.getD k 0:=by
 unfold gz;rw [if_neg (by lia),Gq]
theorem xR {L0 L1 L2:Nat} {ps:List Pr} {rs:List Tm} {one other:List Int} (h:∀ k,cf rs k=cf (sv ps) k) (z:∀ p∈ps,p.1.length=L0/\p.2.1.length=L1) (h1:one.length=L0) (h2:other.length=L1):val rs one other L2=cS one other L2 ps:=by
 unfold val cS;refine GK fun k _ => ?_;rw [Di h,gU];unfold sv;have:∀ qs:List Pr,(∀ p∈qs,p.1.length=L0/\p.2.1.length=L1)->bh (fkk one other (k:Nat)) (qs.flatMap oU)=(qs.map fun p=>p.2.2.getD k 0*kB one other p).sum:=by
  intro qs
  induction qs with
  | nil=>intro _;rfl
  | cons p qs ih =>
    intro j;obtain ⟨e0,e1⟩:=j p (by simp)
    rw [Hm,cD,ih fun q hm=>j q (by simp [hm]),Gr,O9]
    unfold oU;rw [lN,vx e0 h1,vx e1 h2];unfold nz;rw [fA,gk,An];unfold kB;rw [OK]
 exact this ps z
theorem qH {a b:List Pr} (h:a.Perm b) {k i j:Int}:Tn a k i j=Tn b k i j:=by
 induction h with
 | nil=>rfl
 | cons x _ ih=>rw [eM,eM,ih]
 | swap x y l=>simp only [eM];lia
 | trans _ _ q z=>rw [q,z]
theorem gp {l:List Int} (h:fh l):Big l:=fun x hx=>by have:=h x hx;lia
end
section
open PySem PySem.Spec PyProof.Rows L2.Srt
theorem Cg:∀ ns:List Int,HC (ns.map .int) (ns.map .int)=true
 | [] => rfl
 | n::ns=>by simp [HC,GR,Cg ns]
theorem Ch:∀ ps:List Pr,HC (ps.map fj) (ps.map fj)=true
 | [] => rfl
 | p::ps=>by simp [HC,GR,Ch ps,fj,Cg]
theorem yA {M:Mem} {a:Addr} {ps:List Pr} (h:M a=some (.lst (ps.map prD))):rb 16 M (.ref a)=some (.list (ps.map fj)):=by rw [gf h,uU];rfl
theorem yB {M:Mem} {a b:Addr} {ps:List Pr} {Q:QD} (j:M a=some (.lst (ps.map prD))) (z:M b=some (.lst (ps.map prD))) (q:Q (.bl false) M):wNe (.ref a) (.ref b) M Q:=by
 refine ⟨_,_,yA j,yA z, ?_⟩;rw [show GR (.list (ps.map fj)) (.list (ps.map fj))=true by simp [GR,Ch]]
 exact q
end
section
namespace K13
noncomputable def ai (i:Nat):Stmt:=PySem.Challenge.pw_fewtimes_k13_lines_by_pairs.main.body.getD i (.Pass ⟨0,0,0,0⟩)
noncomputable def d0:FD:=eK (ai 1)
noncomputable def d1:FD:=kr (ai 2)
noncomputable def d2:FD:=oQ (ai 3) 0
noncomputable def d3:FD:=mz (ai 5)
noncomputable def d4:FD:=gn (ai 6) 3
noncomputable def b5:MSs :=
 (.cons (.ret (.blt .len (.cons (.ix (.var 0) (.int 3)) .nil)))
 .nil)
noncomputable def d5:FD:=⟨"times_in",ai 7,["scheme"],1,b5⟩
noncomputable def d6:FD:=cB (ai 8)
noncomputable def d7:FD:=gm (ai 9) 6
noncomputable def d8:FD:=fB (ai 10) 0 6 7
noncomputable def b9:MSs :=
 (.cons (.ret (.cmp .eq (.call 8 (.cons (.var 0) .nil)) (.var 1)))
 .nil)
noncomputable def d9:FD:=⟨"does",ai 11,["scheme", "task"],2,b9⟩
noncomputable def d10:FD:=gZ (ai 12)
noncomputable def d11:FD:=mv (ai 14) 10
noncomputable def d12:FD:=mw (ai 15) 10
noncomputable def d13:FD:=xP (ai 16) 11 12
noncomputable def d14:FD:=jE (ai 18)
noncomputable def b15:MSs :=
 (.cons (.asg (.name 2) (.bin .mod (.bin .mul (.bin .add (.bin .add (.bin .mod (.var 0) (.int 1000000007)) (.bin .mul (.int 7) (.var 1))) (.int 1)) (.int 48271)) (.int 2147483647)))
 (.cons (.asg (.name 3) (.bin .mod (.bin .mul (.var 2) (.bin .add (.bin .add (.bin .mod (.var 2) (.int 1009)) (.var 1)) (.int 3))) (.int 998244353)))
 (.cons (.ret (.bin .fdiv (.bin .mod (.bin .add (.bin .mul (.var 3) (.int 39373)) (.var 2)) (.int 2147483629)) (.int 64)))
 .nil)))
noncomputable def d15:FD:=⟨"_law_mixed",ai 19,["_law_number", "_law_k", "_law_once", "_law_twice"],2,b15⟩
noncomputable def d16:FD:=sg (ai 20) 14 15
noncomputable def d17:FD:=oI (ai 21) 15
noncomputable def d18:FD:=sj (ai 22) 17
noncomputable def b19:MSs :=
 (.cons (.asg (.name 2) (.bin .mul (.lst (.cons (.int 0) .nil)) (.var 0)))
 (.cons (.for (.name 3) (.seq (.var 1)) (.cons (.put (.var 2) (.var 3) (.int 1))
 .nil))
 (.cons (.ret (.blt .tuple (.cons (.var 2) .nil)))
 .nil)))
noncomputable def d19:FD:=⟨"_law_at",ai 23,["_law_length", "_law_places", "_law_row_here", "_law_place"],2,b19⟩
noncomputable def b20:MSs :=
 (.cons (.asg (.name 1) (.lst .nil))
 (.cons (.for (.name 2) (.rng1 (.var 0)) (.cons (.asg (.name 3) (.bin .mul (.lst (.cons (.int 0) .nil)) (.bin .sub (.bin .mul (.int 2) (.var 0)) (.int 1))))
 (.cons (.for (.name 4) (.rng1 (.var 0)) (.cons (.put (.var 3) (.bin .add (.var 2) (.var 4)) (.neg (.int 1)))
 .nil))
 (.cons (.put (.var 3) (.bin .mul (.int 2) (.var 2)) (.int 1))
 (.cons (.drop (.meth .append (.var 1) (.tup (.cons (.call 19 (.cons (.var 0) (.cons (.lst (.cons (.var 2) .nil)) .nil))) (.cons (.call 19 (.cons (.var 0) (.cons (.lst (.cons (.var 2) .nil)) .nil))) (.cons (.blt .tuple (.cons (.var 3) .nil)) .nil))))))
 .nil)))))
 (.cons (.for (.name 4) (.rng1 (.var 0)) (.cons (.for (.name 2) (.rng1 (.var 4)) (.cons (.drop (.meth .append (.var 1) (.tup (.cons (.call 19 (.cons (.var 0) (.cons (.lst (.cons (.var 2) (.cons (.var 4) .nil))) .nil))) (.cons (.call 19 (.cons (.var 0) (.cons (.lst (.cons (.var 2) (.cons (.var 4) .nil))) .nil))) (.cons (.call 19 (.cons (.bin .sub (.bin .mul (.int 2) (.var 0)) (.int 1)) (.cons (.lst (.cons (.bin .add (.var 2) (.var 4)) .nil)) .nil))) .nil))))))
 .nil))
 .nil))
 (.cons (.ret (.var 1))
 .nil))))
noncomputable def d20:FD:=⟨"_law_due",ai 24,["_law_n", "_law_products", "_law_i", "_law_out", "_law_j"],1,b20⟩
noncomputable def b21:MSs :=
 (.cons (.for (.name 1) (.rng1 (.bin .add (.int 1) (.blt .min2 (.cons (.int 4) (.cons (.blt .len (.cons (.var 0) .nil)) .nil))))) (.cons (.asg (.name 2) (.call 16 (.cons (.var 0) (.cons (.var 1) .nil))))
 (.cons (.asg (.name 3) (.bin .add (.int 1) (.call 17 (.cons (.var 2) (.cons (.int 9) .nil)))))
 (.cons (.ite (.cmp .eq (.call 17 (.cons (.var 2) (.cons (.int 8) .nil))) (.int 0)) (.cons (.asg (.name 3) (.bin .add (.int 10) (.call 17 (.cons (.var 2) (.cons (.int 16) .nil)))))
 .nil) .nil)
 (.cons (.asg (.name 4) (.call 13 (.cons (.var 3) .nil)))
 (.cons (.asg (.name 5) (.call 20 (.cons (.var 3) .nil)))
 (.cons (.ite (.or (.cons (.cmp .ne (.sl (.var 4) .none (.some (.int 3))) (.tup (.cons (.var 3) (.cons (.var 3) (.cons (.bin .sub (.bin .mul (.int 2) (.var 3)) (.int 1)) .nil))))) (.cons (.cmp .ne (.sl (.ix (.var 4) (.int 3)) .none (.some (.var 3))) (.sl (.var 5) .none (.some (.var 3)))) (.cons (.cmp .ne (.blt .sorted (.cons (.ix (.var 4) (.int 3)) .nil)) (.blt .sorted (.cons (.var 5) .nil))) .nil)))) (.cons (.ret (.bl false))
 .nil) .nil)
 (.cons (.asg (.name 6) (.comp [none,none,none,(some 3)] ["_law_l", "_law_r", "_law_o", "_law_n"] (.last (.seq (.sl (.ix (.var 4) (.int 3)) (.some (.var 3)) .none)) (.tup (.cons (.name 0) (.cons (.name 1) (.cons (.name 2) .nil)))) .nil (.blt .sorted (.cons (.comp [none,(some 0)] ["_law_place", "_law_l"] (.last (.rng1 (.var 3)) (.name 0) (.cons (.cmp .eq (.ix (.var 1) (.var 0)) (.int 1)) .nil) (.var 0))) .nil)))))
 (.cons (.ite (.or (.cons (.cmp .ne (.call 5 (.cons (.var 4) .nil)) (.bin .fdiv (.bin .mul (.var 3) (.bin .add (.var 3) (.int 1))) (.int 2))) (.cons (.cmp .ne (.var 6) (.blt .sortl (.cons (.var 6) .nil))) .nil))) (.cons (.ret (.bl false))
 .nil) .nil)
 (.cons (.par 7 8 (.call 18 (.cons (.var 2) (.cons (.var 3) .nil))) (.call 18 (.cons (.var 2) (.cons (.var 3) .nil))))
 (.cons (.ite (.cmp .ne (.call 4 (.cons (.var 4) (.cons (.var 7) (.cons (.var 8) .nil)))) (.call 1 (.cons (.call 2 (.cons (.var 3) (.cons (.var 3) .nil))) (.cons (.var 7) (.cons (.var 8) .nil))))) (.cons (.ret (.bl false))
 .nil) .nil)
 (.cons (.ite (.and (.cons (.cmp .lt (.var 3) (.int 10)) (.cons (.cmp .isn (.call 9 (.cons (.var 4) (.cons (.call 2 (.cons (.var 3) (.cons (.var 3) .nil))) .nil))) (.bl true)) .nil))) (.cons (.ret (.bl false))
 .nil) .nil)
 (.cons (.drop (.meth0 .pop0 (.ix (.var 4) (.int 3))))
 (.cons (.ite (.cmp .ne (.blt .len (.cons (.ix (.call 13 (.cons (.var 3) .nil)) (.int 3)) .nil)) (.blt .len (.cons (.var 5) .nil))) (.cons (.ret (.bl false))
 .nil) .nil)
 .nil))))))))))))))
 (.cons (.ret (.bl true))
 .nil))
noncomputable def d21:FD:=⟨"law",ai 25,["_law_script", "_law_k", "_law_box_here", "_law_n", "_law_found", "_law_due_here", "_law_pairs", "_law_one", "_law_other"],1,b21⟩
noncomputable def tab:List FD := [d0,d1,d2,d3,d4,d5,d6,d7,d8,d9,d10,d11,d12,d13,d14,d15,d16,d17,d18,d19,d20,d21]
noncomputable def p9:List (Str×D) := []
end K13
end
section
namespace K13
theorem Ci:∀ d∈tab,sd (tab.map (·.name)) p9 d=true:=by decide +kernel
noncomputable abbrev PA (K:Frag) (x:Str) (f:Addr):Prop:=KP K HK x=some (some (.ref f))
noncomputable abbrev PL (K:Frag) (f:Addr) (x:Str) (s:Stmt) (oc:gV) (od:Option Addr) (kV dc pm:gV) (an:Option Addr) (cd ct:gV) (sl:Array (Option gV)):Prop:=K.lookup f=some ⟨oc,od, .func (JE x x (df s) (bH s) (aw s) .none kV dc pm an cd ct),sl⟩
noncomputable abbrev PC (K:Frag) (c:gV) (x:Str):Prop:=LN K c x=true
noncomputable abbrev PK (K:Frag) (f:Addr):Prop:=JV K (.ref f)=true
theorem all_mk {l:N8} {w:Hf} {K:Frag} {h:Heap} {mg:Str->Option gV} {fa:Addr} (X:K.In h) (G:h.Ns HK mg) (hfa:mg "law" = some (.ref fa)) (z:∀ x∈bltNames,KP K HK x=some none)
 (a0:PA K "task_of" f0) (l0:PL K f0 "task_of" (ai 1) oc0 od0 kV0 dc0 pm0 an0 cd0 ct0 sl0) (c0:PC K cd0 "task_of") (k0:PK K f0)
 (a1:PA K "value_of" f1) (l1:PL K f1 "value_of" (ai 2) oc1 od1 kV1 dc1 pm1 an1 cd1 ct1 sl1) (c1:PC K cd1 "value_of") (k1:PK K f1)
 (a2:PA K "line_task" f2) (l2:PL K f2 "line_task" (ai 3) oc2 od2 kV2 dc2 pm2 an2 cd2 ct2 sl2) (c2:PC K cd2 "line_task") (k2:PK K f2)
 (a3:PA K "part_of_row" f3) (l3:PL K f3 "part_of_row" (ai 5) oc3 od3 kV3 dc3 pm3 an3 cd3 ct3 sl3) (c3:PC K cd3 "part_of_row") (k3:PK K f3)
 (a4:PA K "applied" f4) (l4:PL K f4 "applied" (ai 6) oc4 od4 kV4 dc4 pm4 an4 cd4 ct4 sl4) (c4:PC K cd4 "applied") (k4:PK K f4)
 (a5:PA K "times_in" f5) (l5:PL K f5 "times_in" (ai 7) oc5 od5 kV5 dc5 pm5 an5 cd5 ct5 sl5) (c5:PC K cd5 "times_in") (k5:PK K f5)
 (a6:PA K "filled" f6) (l6:PL K f6 "filled" (ai 8) oc6 od6 kV6 dc6 pm6 an6 cd6 ct6 sl6) (c6:PC K cd6 "filled") (k6:PK K f6)
 (a7:PA K "rows_by_pairs" f7) (l7:PL K f7 "rows_by_pairs" (ai 9) oc7 od7 kV7 dc7 pm7 an7 cd7 ct7 sl7) (c7:PC K cd7 "rows_by_pairs") (k7:PK K f7)
 (a8:PA K "task_by" f8) (l8:PL K f8 "task_by" (ai 10) oc8 od8 kV8 dc8 pm8 an8 cd8 ct8 sl8) (c8:PC K cd8 "task_by") (k8:PK K f8)
 (a9:PA K "does" f9) (l9:PL K f9 "does" (ai 11) oc9 od9 kV9 dc9 pm9 an9 cd9 ct9 sl9) (c9:PC K cd9 "does") (k9:PK K f9)
 (a10:PA K "single_one" f10) (l10:PL K f10 "single_one" (ai 12) oc10 od10 kV10 dc10 pm10 an10 cd10 ct10 sl10) (c10:PC K cd10 "single_one") (k10:PK K f10)
 (a11:PA K "own_product" f11) (l11:PL K f11 "own_product" (ai 14) oc11 od11 kV11 dc11 pm11 an11 cd11 ct11 sl11) (c11:PC K cd11 "own_product") (k11:PK K f11)
 (a12:PA K "pair_product" f12) (l12:PL K f12 "pair_product" (ai 15) oc12 od12 kV12 dc12 pm12 an12 cd12 ct12 sl12) (c12:PC K cd12 "pair_product") (k12:PK K f12)
 (a13:PA K "by_pairs" f13) (l13:PL K f13 "by_pairs" (ai 16) oc13 od13 kV13 dc13 pm13 an13 cd13 ct13 sl13) (c13:PC K cd13 "by_pairs") (k13:PK K f13)
 (a14:PA K "_law_cell_at" f14) (l14:PL K f14 "_law_cell_at" (ai 18) oc14 od14 kV14 dc14 pm14 an14 cd14 ct14 sl14) (c14:PC K cd14 "_law_cell_at") (k14:PK K f14)
 (a15:PA K "_law_mixed" f15) (l15:PL K f15 "_law_mixed" (ai 19) oc15 od15 kV15 dc15 pm15 an15 cd15 ct15 sl15) (c15:PC K cd15 "_law_mixed") (k15:PK K f15)
 (a16:PA K "_law_box" f16) (l16:PL K f16 "_law_box" (ai 20) oc16 od16 kV16 dc16 pm16 an16 cd16 ct16 sl16) (c16:PC K cd16 "_law_box") (k16:PK K f16)
 (a17:PA K "_law_take" f17) (l17:PL K f17 "_law_take" (ai 21) oc17 od17 kV17 dc17 pm17 an17 cd17 ct17 sl17) (c17:PC K cd17 "_law_take") (k17:PK K f17)
 (a18:PA K "_law_row" f18) (l18:PL K f18 "_law_row" (ai 22) oc18 od18 kV18 dc18 pm18 an18 cd18 ct18 sl18) (c18:PC K cd18 "_law_row") (k18:PK K f18)
 (a19:PA K "_law_at" f19) (l19:PL K f19 "_law_at" (ai 23) oc19 od19 kV19 dc19 pm19 an19 cd19 ct19 sl19) (c19:PC K cd19 "_law_at") (k19:PK K f19)
 (a20:PA K "_law_due" f20) (l20:PL K f20 "_law_due" (ai 24) oc20 od20 kV20 dc20 pm20 an20 cd20 ct20 sl20) (c20:PC K cd20 "_law_due") (k20:PK K f20)
 (a21:PA K "law" f21) (l21:PL K f21 "law" (ai 25) oc21 od21 kV21 dc21 pm21 an21 cd21 ct21 sl21) (c21:PC K cd21 "law") (k21:PK K f21)
 : ∃ fd:JU,(∀ (s:h7) (v:gV),Oq s fd ⟨[v],[]⟩ [("_law_script",v)]) /\ ∀ base:Heap,K.In base->base.Ns HK mg->dv l.prog w K mg base CX0 40 fa fd ["_law_script"] (lSp K (phi tab 40 21)):=by
 have e:=hfa.symm.trans (GY X G a21)
 cases e
 have O:yp K mg tab p9:=by
  refine ⟨fun x hx=>PySem.W.mg_none_of X G (z x hx), ?_,Ci, ?_⟩
  ·intro i d hd
   match i,hd with
   | 0,hd=>cases hd;exact ⟨_,_,ah l0 c0 k0,GY X G a0,a0,(ah l0 c0 k0).binds fun _ _ _ _ _ _ us hl=>by obtain ⟨u0,u1,u2,u3,rfl⟩:=Dd us hl;rfl⟩
   | 1,hd=>cases hd;exact ⟨_,_,ah l1 c1 k1,GY X G a1,a1,(ah l1 c1 k1).binds fun _ _ _ _ _ _ us hl=>by obtain ⟨u0,u1,u2,rfl⟩:=mn us hl;rfl⟩
   | 2,hd=>cases hd;exact ⟨_,_,ah l2 c2 k2,GY X G a2,a2,(ah l2 c2 k2).binds fun _ _ _ _ _ _ us hl=>by obtain ⟨u0,u1,rfl⟩:=bT us hl;rfl⟩
   | 3,hd=>cases hd;exact ⟨_,_,ah l3 c3 k3,GY X G a3,a3,(ah l3 c3 k3).binds fun _ _ _ _ _ _ us hl=>by obtain ⟨u0,u1,rfl⟩:=bT us hl;rfl⟩
   | 4,hd=>cases hd;exact ⟨_,_,ah l4 c4 k4,GY X G a4,a4,(ah l4 c4 k4).binds fun _ _ _ _ _ _ us hl=>by obtain ⟨u0,u1,u2,rfl⟩:=mn us hl;rfl⟩
   | 5,hd=>cases hd;exact ⟨_,_,ah l5 c5 k5,GY X G a5,a5,(ah l5 c5 k5).binds fun _ _ _ _ _ _ us hl=>by obtain ⟨u0,rfl⟩:=dX us hl;rfl⟩
   | 6,hd=>cases hd;exact ⟨_,_,ah l6 c6 k6,GY X G a6,a6,(ah l6 c6 k6).binds fun _ _ _ _ _ _ us hl=>by obtain ⟨u0,rfl⟩:=dX us hl;rfl⟩
   | 7,hd=>cases hd;exact ⟨_,_,ah l7 c7 k7,GY X G a7,a7,(ah l7 c7 k7).binds fun _ _ _ _ _ _ us hl=>by obtain ⟨u0,rfl⟩:=dX us hl;rfl⟩
   | 8,hd=>cases hd;exact ⟨_,_,ah l8 c8 k8,GY X G a8,a8,(ah l8 c8 k8).binds fun _ _ _ _ _ _ us hl=>by obtain ⟨u0,rfl⟩:=dX us hl;rfl⟩
   | 9,hd=>cases hd;exact ⟨_,_,ah l9 c9 k9,GY X G a9,a9,(ah l9 c9 k9).binds fun _ _ _ _ _ _ us hl=>by obtain ⟨u0,u1,rfl⟩:=bT us hl;rfl⟩
   | 10,hd=>cases hd;exact ⟨_,_,ah l10 c10 k10,GY X G a10,a10,(ah l10 c10 k10).binds fun _ _ _ _ _ _ us hl=>by obtain ⟨u0,u1,rfl⟩:=bT us hl;rfl⟩
   | 11,hd=>cases hd;exact ⟨_,_,ah l11 c11 k11,GY X G a11,a11,(ah l11 c11 k11).binds fun _ _ _ _ _ _ us hl=>by obtain ⟨u0,u1,rfl⟩:=bT us hl;rfl⟩
   | 12,hd=>cases hd;exact ⟨_,_,ah l12 c12 k12,GY X G a12,a12,(ah l12 c12 k12).binds fun _ _ _ _ _ _ us hl=>by obtain ⟨u0,u1,u2,rfl⟩:=mn us hl;rfl⟩
   | 13,hd=>cases hd;exact ⟨_,_,ah l13 c13 k13,GY X G a13,a13,(ah l13 c13 k13).binds fun _ _ _ _ _ _ us hl=>by obtain ⟨u0,rfl⟩:=dX us hl;rfl⟩
   | 14,hd=>cases hd;exact ⟨_,_,ah l14 c14 k14,GY X G a14,a14,(ah l14 c14 k14).binds fun _ _ _ _ _ _ us hl=>by obtain ⟨u0,u1,rfl⟩:=bT us hl;rfl⟩
   | 15,hd=>cases hd;exact ⟨_,_,ah l15 c15 k15,GY X G a15,a15,(ah l15 c15 k15).binds fun _ _ _ _ _ _ us hl=>by obtain ⟨u0,u1,rfl⟩:=bT us hl;rfl⟩
   | 16,hd=>cases hd;exact ⟨_,_,ah l16 c16 k16,GY X G a16,a16,(ah l16 c16 k16).binds fun _ _ _ _ _ _ us hl=>by obtain ⟨u0,u1,rfl⟩:=bT us hl;rfl⟩
   | 17,hd=>cases hd;exact ⟨_,_,ah l17 c17 k17,GY X G a17,a17,(ah l17 c17 k17).binds fun _ _ _ _ _ _ us hl=>by obtain ⟨u0,u1,rfl⟩:=bT us hl;rfl⟩
   | 18,hd=>cases hd;exact ⟨_,_,ah l18 c18 k18,GY X G a18,a18,(ah l18 c18 k18).binds fun _ _ _ _ _ _ us hl=>by obtain ⟨u0,u1,rfl⟩:=bT us hl;rfl⟩
   | 19,hd=>cases hd;exact ⟨_,_,ah l19 c19 k19,GY X G a19,a19,(ah l19 c19 k19).binds fun _ _ _ _ _ _ us hl=>by obtain ⟨u0,u1,rfl⟩:=bT us hl;rfl⟩
   | 20,hd=>cases hd;exact ⟨_,_,ah l20 c20 k20,GY X G a20,a20,(ah l20 c20 k20).binds fun _ _ _ _ _ _ us hl=>by obtain ⟨u0,rfl⟩:=dX us hl;rfl⟩
   | 21,hd=>cases hd;exact ⟨_,_,ah l21 c21 k21,GY X G a21,a21,(ah l21 c21 k21).binds fun _ _ _ _ _ _ us hl=>by obtain ⟨u0,rfl⟩:=dX us hl;rfl⟩
   | i+22,hd=>simp [tab] at hd
  ·intro x i hx;simp only [p9,Gj,Hu,or_false,Lh] at hx
 refine ⟨JE "law" "law" (df (ai 25)) (bH (ai 25)) (aw (ai 25)) .none kV21 dc21 pm21 an21 cd21 ct21,fun s v => .of_eq rfl,fun base _ _ => ?_⟩;exact uF O 40 21 d21 _ _ rfl (ah l21 c21 k21)
theorem walk {l:N8} {q:GI} {loose:List Str} {XP:(Str->Option gV)->Heap->Prop} {YP:Hf->Heap->Prop} {d:DefRec} {K:Params->Frag} (hn:l.most=some 63) (hdf:d.params.defaults=[])
 (hlaw:∀ ns:List Int,ns.length<=63->phi tab 40 21 [.con (ns.map D.int)] (fun _=>none) fun d _=>d = .bl true)
 (hY:∀ (w:Hf) (h:Heap),YP w h->(K w.params).In h)
 (F:∀ (w:Hf) (mg:Str->Option gV) (fa:Addr) (h:Heap),(K w.params).In h->h.Ns HK mg->mg d.name=some (.ref fa) ->
   ∃ fd:JU,(∀ (s:h7) (u:gV),Oq s fd ⟨[u],[]⟩ [("_law_script",u)]) /\ ∀ base:Heap,(K w.params).In base->base.Ns HK mg->dv l.prog w (K w.params) mg base CX0 40 fa fd ["_law_script"] (lSp (K w.params) (phi tab 40 21))) :
 PySem.W.WalkO q loose XP YP l.row.toRowW d [] (fun f vs=>PF f vs) :=
 L2.walk_of (n := 63) (k := 40) (x := "_law_script") (CX:=fun _=>CX0) (sp:=fun w=>lSp (K w.params) (phi tab 40 21)) hn (by decide) hdf ⟨rfl,by decide,by decide⟩ hY F (fun w H a ns hl hO hS=>BW hO hS (hlaw ns hl)) fun _ _ _ _ _ z=>z
end K13
end
section
namespace K13
open PySem PySem.Spec PyProof.Rows L2.Srt
theorem qI {n:Nat} (j : 1<=n):si tab n 15:=uY (x := "_law_number") (s:=ai 19) rfl j
theorem fC {n:Nat} (j : 2<=n):uT tab n 17:=fun z h1 h2 q=>zY (s:=ai 21) (fm := 15) rfl (qI (by lia)) j z h1 h2 q
theorem qJ {n:Nat} (j : 3<=n):yw tab n 18:=C6 (s:=ai 22) (ft := 17) rfl (fC (by lia)) (by lia)
theorem qK {M M':Mem} {p:Addr} (g:Ge M M') (h:M' p=none):M p=none:=by
 cases hz:M p with
 | none=>rfl
 | some o=>rw [g _ _ hz] at h;cases h
theorem bps {n:Nat} (j:n<=50) (h1 : 1<=n) {k:Nat} (z : 3<=k) {M:Mem} {Q:QD}
 (q:∀ p M',Ge M M'->M p=none->M' p=some (.lst ((bp n).map prD))->Q (.tup [.int n, .int n, .int ((2*n - 1:Nat):Int), .ref p]) M'):phi tab k 13 [.int n] M Q :=
 Dq (s:=ai 16) (so:=ai 14) (sp:=ai 15) (s1:=ai 12) (fo := 11) (fp := 12) (f1 := 10) rfl rfl rfl rfl z j h1 q
theorem jM {k:Nat} (hk : 1<=k) {L:Nat} (hL:L<=1000) {ps:List Nat} (G:∀ i∈ps,i < L) {a:Addr} {M:Mem} {Q:QD} (U:M a=some (.lst (ps.map fun i => .int (i:Nat)))) (q:∀ M',Ge M M'->Q (.tup (((D0 L).map fun h=>if h∈ps then (1:Int) else 0).map .int)) M'):phi tab k 19 [.int L, .ref a] M Q:=by
 refine aA (by lia) rfl rfl (ρ := [some _,some _,none,none]) rfl ?_
 unfold d19 L2.Mi.K13.b19;walk_at "st";refine ⟨by rw [Gd];lia,fun Y J => ?_⟩
 refine ⟨_,ab,by lia,by lia,by rw [Gd];simp;lia,fun B z => ?_⟩
 rw [Gq,mq];have Z:=Ge.new (o := .lst [.int 0]) J;have g1:=Z.trans (Ge.new (o := .lst (((D0 L).map fun _=>(0:Int)).map D.int)) z);have e1:=ab (M:=af M Y (.lst [.int 0])) (a:=B) (o := .lst (((D0 L).map fun _=>(0:Int)).map D.int));have n1:=qK Z z;generalize af (af M Y (.lst [.int 0])) B _=M1 at g1 e1 ⊢;walk_at "st";refine ⟨_,ag (g1 _ _ U), ?_⟩;refine aP (f:=fun i=>D.int (i:Nat)) (ys:=ps) (I:=fun l ρ M' => ∃ O, ρ = [some (.int L),some (.ref a),some (.ref B),O]/\Ge M M'/\M' B=some (.lst (((D0 L).map fun h=>if h∈l then (1:Int) else 0).map .int))) rfl ⟨_,rfl,g1,by rw [e1];simp⟩ (fun _ _ _ ⟨_,_,g,_⟩=>ag (g _ _ U)) ?_ ?_
 ·rintro l i r ρ M2 e ⟨O,rfl,g2,e2⟩;refine ⟨_,rfl,fun F hF => ?_⟩;have hi:i < L:=G i (by rw [e];simp)
  walk_at "st";refine bg e2 (j:=i) (by rw [r3,r3,Gz];exact gX hi) ?_
  refine hF _ _ ⟨_,rfl,g2.upd n1, ?_⟩;rw [ab, <- K7 (f:=D.int),dJ];congr 3;refine GK fun h _ => ?_
  by_cases h1:h=i
  ·rw [if_pos h1,if_pos (by simp [h1])]
  ·rw [if_neg h1]
   by_cases h2:h∈l
   ·rw [if_pos h2,if_pos (by simp [h2])]
   ·rw [if_neg h2,if_neg (by simp [h2,h1])]
 ·rintro ρ M2 ⟨O,rfl,g2,e2⟩;dsimp only;walk_at "st";exact ⟨_,_,rfl,ag e2,q M2 g2⟩
theorem at1 {L i:Nat}:((D0 L).map fun h=>if h∈[i] then (1:Int) else 0)=one L (i:Nat):=by
 unfold one;exact GK fun h _=>by simp [Nf]
theorem at2 {n i j:Nat}:((D0 n).map fun h=>if h∈[i,j] then (1:Int) else 0)=bb n i j:=by
 unfold bb;exact GK fun h _=>by simp [Nf]
noncomputable def du (n:Nat):List Pr:=ows n++tri (fun j i=>pa n i j) n
theorem vy {α:Type} {F:Nat->Nat -> α} {n:Nat} (q:n<=50):∀ l:List Nat,(∀ i∈l,i < n)->(l.flatMap fun i=>(D0 i).map (F i)).length<=l.length*50
 | [],_=>by simp
 | i::l,h=>by
   rw [Hm,D2,HJ,r3,Gz];have:=vy (F:=F) q l (fun j z=>h j (by simp [z]))
   have:=h i (by simp)
   lia
theorem Cj {k:Nat} (hk : 2<=k) {n:Nat} (hn:n<=50) (h1 : 1<=n) {M:Mem} {Q:QD} (q:∀ p M',Ge M M'->M p=none->M' p=some (.lst ((du n).map prD))->Q (.ref p) M'):phi tab k 20 [.int n] M Q:=by
 refine aA (by lia) rfl rfl (ρ := [some _,none,none,none,none]) rfl ?_
 unfold d20 L2.Mi.K13.b20;walk_at "st";refine ⟨by rw [Gd];lia,fun pf Y => ?_⟩
 have g0:=Ge.new (o := .lst []) Y;have e0:=ab (M:=M) (a:=pf) (o := .lst []);generalize af M pf (.lst [])=M0 at g0 e0 ⊢;walk_at "st";refine ⟨by lia,by lia, ?_⟩
 rw [Gq];refine aP (f:=fun i=>D.int (i:Nat)) (ys:=D0 n) (I:=fun l ρ M' => ∃ B G J, ρ = [some (.int n),some (.ref pf),B,G,J]/\Ge M M'/\M' pf=some (.lst ((l.map (ow n)).map prD))) aM ⟨_,_,_,rfl,g0,e0⟩ (fun _ _ _ _=>trivial) ?_ ?_
 ·rintro l i r ρ M1 e ⟨B,G,J,rfl,g1,e1⟩;refine ⟨_,rfl,fun F hF => ?_⟩;have E3:=am e;rw [Gz] at E3;have hi:i < n:=GL.mp (by rw [e];simp)
  walk_at "st";refine ⟨by rw [Gd];lia,fun p0 Ea=>⟨bE (by lia), ?_⟩⟩
  refine ⟨_,ab,by lia,by lia,by rw [Gd];simp;lia,fun po E7 => ?_⟩
  rw [show (2*(n:Int) - 1).toNat=2*n - 1 by lia,mq]
  have E8:=Ge.new (o := .lst [.int 0]) Ea;have Z:=qK E8 E7;have g2:=E8.trans (Ge.new (o := .lst (((D0 (2*n - 1)).map fun _=>(0:Int)).map D.int)) E7);have e2:=ab (M:=af M1 p0 (.lst [.int 0])) (a:=po) (o := .lst (((D0 (2*n - 1)).map fun _=>(0:Int)).map D.int));generalize af (af M1 p0 (.lst [.int 0])) po (.lst (((D0 (2*n - 1)).map fun _=>(0:Int)).map D.int))=M2 at g2 e2 ⊢;walk_at "st";refine ⟨by lia,by lia, ?_⟩
  rw [Gq];refine aP (f:=fun i=>D.int (i:Nat)) (ys:=D0 n) (I:=fun l' ρ M' => ∃ J, ρ = [some (.int n),some (.ref pf),some (.int (i:Nat)),some (.ref po),J]/\Ge M1 M'/\M' po=some (.lst (((D0 (2*n - 1)).map fun k=>if i<=k/\k < i+l'.length then (-1:Int) else 0).map D.int))) aM ⟨_,rfl,g2,by rw [e2];congr 3;exact GK fun k _=>by rw [if_neg (by simp)]⟩ (fun _ _ _ _=>trivial) ?_ ?_
  ·rintro l' j r' ρ M3 e' ⟨J,rfl,g3,U⟩;refine ⟨_,rfl,fun F' E4 => ?_⟩;have z:=am e';rw [Gz] at z;have hj:j=l'.length:=by
    have:=lB e';rw [Hy z] at this;exact (Ig.inj this).symm
   subst hj;walk_at "st";rw [<- Km];refine bg U (j:=i+l'.length) (by rw [r3,r3,Gz];exact gX (by lia)) ?_
   refine E4 _ _ ⟨_,rfl,g3.upd Z, ?_⟩;rw [ab, <- K7 (f:=D.int),dJ];congr 3;refine GK fun k _ => ?_;rw [D2,I8]
   by_cases h1:k=i+l'.length
   ·rw [if_pos h1,if_pos (by lia)]
   ·rw [if_neg h1]
    by_cases h2:i<=k/\k < i+l'.length
    ·rw [if_pos h2,if_pos (by lia)]
    ·rw [if_neg h2,if_neg (by lia)]
  ·rintro ρ M3 ⟨J,rfl,g3,U⟩;rw [Gz] at U;dsimp only;walk_at "st";refine ⟨bE (by lia), ?_⟩
   rw [show (2*(i:Int))=((2*i:Nat):Int) by lia]
   refine bg U (j := 2*i) (by rw [r3,r3,Gz];exact gX (by lia)) ?_
   have g4:=g3.upd Z (o := .lst ((((D0 (2*n - 1)).map fun k=>if i<=k/\k < i+n then (-1:Int) else 0).map D.int).set (2*i) (.int 1)))
   have e4:af M3 po (.lst ((((D0 (2*n - 1)).map fun k=>if i<=k/\k < i+n then (-1:Int) else 0).map D.int).set (2*i) (.int 1))) po=some (.lst ((iK n i).map D.int)):=by
    rw [ab, <- K7 (f:=D.int),dJ];rfl
   generalize af M3 po (.lst ((((D0 (2*n - 1)).map fun k=>if i<=k/\k < i+n then (-1:Int) else 0).map D.int).set (2*i) (.int 1)))=M4 at g4 e4 ⊢
   clear g3 U g2 e2;walk_at "st";refine ⟨⟨_,g4 _ _ e1⟩,by rw [Gd];lia,fun Eb L => ?_⟩
   have E5:=Ge.new (o := .lst [.int (i:Nat)]) L;refine jM (ps := [i]) (by lia) (by lia) (by simp;lia) ab fun M5 g5 => ?_
   refine ⟨by rw [Gd];lia,fun Ec O => ?_⟩
   have E6:=Ge.new (o := .lst [.int (i:Nat)]) O;refine jM (ps := [i]) (by lia) (by lia) (by simp;lia) ab fun M6 g6 => ?_
   have g6:=E5.trans (g5.trans (E6.trans g6));refine ⟨_,_,rfl,ag (g6 _ _ e4), ?_⟩;have g7:=g4.trans g6;refine ⟨by rw [Gd];lia,pf,_,_,rfl,rfl,g7 _ _ e1,by rw [r3,r3,Gd];lia, ?_⟩
   refine hF _ _ ⟨_,_,_,rfl,(g1.trans g7).upd Y, ?_⟩;rw [ab,at1];simp [prD,ow]
 ·rintro ρ M1 ⟨B,G,J,rfl,g1,e1⟩;dsimp only;walk_at "st";refine ⟨by lia,by lia, ?_⟩
  rw [Gq];refine aP (f:=fun i=>D.int (i:Nat)) (ys:=D0 n) (I:=fun l ρ M' => ∃ B G J, ρ = [some (.int n),some (.ref pf),B,G,J]/\Ge M M'/\M' pf=some (.lst ((ows n++l.flatMap fun j=>(D0 j).map fun i=>pa n i j).map prD))) aM ⟨_,_,_,rfl,g1,by rw [e1];simp [ows]⟩ (fun _ _ _ _=>trivial) ?_ ?_
  ·rintro l j r ρ M2 e ⟨B,G,J,rfl,g2,e2⟩;refine ⟨_,rfl,fun F hF => ?_⟩;have E3:=am e;rw [Gz] at E3;have hj:j < n:=GL.mp (by rw [e];simp)
   have hle:=vy (F:=fun j i=>pa n i j) hn l (fun i hi=>GL.mp (by rw [e];simp [hi]))
   have Ee:(ows n).length=n:=by simp [ows]
   walk_at "st";refine ⟨by lia,by lia, ?_⟩
   rw [Gq];refine aP (f:=fun i=>D.int (i:Nat)) (ys:=D0 j) (I:=fun l' ρ M' => ∃ B G, ρ = [some (.int n),some (.ref pf),B,G,some (.int (j:Nat))]/\Ge M M'/\M' pf=some (.lst ((ows n++(l.flatMap fun j=>(D0 j).map fun i=>pa n i j)++l'.map fun i=>pa n i j).map prD))) aM ⟨_,_,rfl,g2,by rw [e2];simp⟩ (fun _ _ _ _=>trivial) ?_ ?_
   ·rintro l' i r' ρ M3 e' ⟨B,G,rfl,g3,U⟩;refine ⟨_,rfl,fun F' E4 => ?_⟩;have z:=am e';rw [Gz] at z;have hi:i < j:=GL.mp (by rw [e'];simp)
    walk_at "st";refine ⟨⟨_,U⟩,by rw [Gd];lia,fun Eb L => ?_⟩
    have E5:=Ge.new (o := .lst [.int (i:Nat), .int (j:Nat)]) L;refine jM (ps := [i,j]) (by lia) (by lia) (by simp;lia) ab fun M5 g5 => ?_
    refine ⟨by rw [Gd];lia,fun Ec O => ?_⟩
    have E6:=Ge.new (o := .lst [.int (i:Nat), .int (j:Nat)]) O;refine jM (ps := [i,j]) (by lia) (by lia) (by simp;lia) ab fun M6 g6 => ?_
    refine ⟨bE (by lia),by rw [Gd];lia,fun Ef E9 => ?_⟩
    rw [show (2*(n:Int) - 1)=((2*n - 1:Nat):Int) by lia]
    have Ed:=Ge.new (o := .lst [.int ((i:Int)+(j:Int))]) E9;refine jM (ps := [i+j]) (by lia) (by lia) (by simp;lia) (by rw [ab];simp) fun M7 g7 => ?_
    have g7:=E5.trans (g5.trans (E6.trans (g6.trans (Ed.trans g7))));refine ⟨by rw [Gd];lia,pf,_,_,rfl,rfl,g7 _ _ U,by rw [r3,D2,D2,r3,Gd];lia, ?_⟩
    refine E4 _ _ ⟨_,_,rfl,(g3.trans g7).upd Y, ?_⟩;rw [ab,at1,at2];simp [prD,pa]
   ·rintro ρ M3 ⟨B,G,rfl,g3,U⟩;dsimp only;walk_at "wp";refine hF _ _ ⟨_,_,_,rfl,g3, ?_⟩;rw [U,Iv];simp
  ·rintro ρ M2 ⟨B,G,J,rfl,g2,e2⟩;dsimp only;walk_at "st";exact q pf M2 g2 Y e2
noncomputable def tl:MSs->MSs | .cons _ r=>r | .nil => .nil
noncomputable def fb:MSs->MSs | .cons (.for _ _ b) _=>b | _ => .nil
theorem kD {l:List Int} (h:Within 1 l):fh l:=fun x hx=>by have:=h x hx;lia
theorem bV {n:Nat}:∀ p∈bp n,C5 n n (2*n - 1) p:=fun p j=>by
 have:=gW p (bp_pp.mem_iff.mp j);exact ⟨this.l0,this.l1,this.l2,kD this.e0,kD this.e1,kD this.e2⟩
theorem du_perm {n:Nat}:(bp n).Perm (du n):=by
 refine bp_perm.trans ?_;unfold du;refine H9 _ ?_;rw [show tri (pa n) n=tri (fun j i=>pa n i j) n from (oZ (n:=n)).symm]
theorem iL {xs:List D} {n:Nat} (h:n<=xs.length):cP xs none (some (n:Int))=xs.take n:=by
 unfold cP;rw [HT.sIx_none,HT.sIx_nat,Jg h];simp
theorem xS {xs:List D} {n:Nat} (h:n<=xs.length):cP xs (some (n:Int)) none=xs.drop n:=by
 unfold cP;rw [HT.sIx_none,HT.sIx_nat,Jg h];exact Ip (by simp)
theorem bY {n:Nat}:(ows n).length=n:=by simp [ows]
theorem qL {n:Nat}:(bp n).take n=ows n:=by
 unfold bp;rw [JC (by rw [bY];exact Gi n),Ip (by rw [bY];exact Gi n)]
theorem Ao {n:Nat}:(du n).take n=ows n:=by
 unfold du;rw [JC (by rw [bY];exact Gi n),Ip (by rw [bY];exact Gi n)]
theorem Ap {n:Nat}:(bp n).drop n=trj (pa n) n:=by
 unfold bp;rw [List.drop_append_of_le_length (by rw [bY];exact Gi n),List.drop_of_length_le (by rw [bY];exact Gi n)];simp
theorem lP:∀ n,deps (D1 n .int)=0
 | 0=>rfl
 | n+1=>by rw [Hq,deps,lP n];rfl
theorem yC {n m k:Nat}:e9 (.tup [.tup (D1 n .int), .tup (D1 m .int), .tup (D1 k .int)])=true:=by
 unfold e9;simp [deps,dep,lP]
noncomputable def pl1 (n:Nat) (p:Pr):List Nat:=(D0 n).filter fun h=>p.1.getD h 0==1
theorem Ck {n:Nat} {p:Pr}:((pl1 n p).map fun h:Nat=>(h:Int)).Pairwise (· < ·):=by
 rw [GQ];exact (List.pairwise_lt_range.filter _).imp fun {a b} h=>by lia
theorem gu {n i j:Nat} (hi:i < j) (B:j < n):pl1 n (pa n i j)=[i,j]:=by
 refine Kj (le:=(· < ·)) (fun a b _ _ h1 h2=>by lia) (List.pairwise_lt_range.filter _) (by simp [hi]) ?_
 refine (List.perm_ext_iff_of_nodup (List.nodup_range.filter _) (by simp;lia)).mpr fun h => ?_
 simp only [IT,GL,pa,bb,Gj,Hu,or_false]
 by_cases q:h < n
 ·rw [GG,GH,Hy q];simp only [IU,P2]
  by_cases z:h=i∨h=j
  ·simp [z,q]
  ·simp [z]
 ·constructor
  ·rintro ⟨a,_⟩;lia
  ·rintro (rfl | rfl) <;> lia
theorem pc {i j i' j':Int}:HT.lexLt [i,j] [i',j']=decide (i < i'∨(i=i'/\j < j')):=by
 simp only [HT.lexLt]
 by_cases e:i=i'
 ·subst e;rw [if_pos rfl]
  by_cases e2:j=j'
  ·subst e2;rw [if_pos rfl];simp
  ·rw [if_neg e2];simp
 ·rw [if_neg e];simp [e]
theorem qM {n:Nat} {p:Pr} (h:p∈trj (pa n) n):∃ i j,i < j/\j < n/\p=pa n i j:=by
 unfold trj at h;obtain ⟨i,_,h⟩:=K8.mp h;obtain ⟨t,q,rfl⟩:=Gk.mp h;have:=GL.mp q;exact ⟨i,i+1+t,by lia,by lia,rfl⟩
noncomputable def c1 (n:Nat) (p:Pr):List Int:=(pl1 n p).map fun h:Nat=>(h:Int)
theorem Cl {n:Nat}:(trj (pa n) n).Pairwise fun a b=>HT.lexLt (c1 n b) (c1 n a)=false:=by
 unfold trj;rw [Nk];constructor
 ·intro i hi;rw [GQ];have:=GL.mp hi;refine Mn (R:=(· < ·)) (fun {a b} j q hab => ?_) N4;have j:=GL.mp j;have q:=GL.mp q;unfold c1;rw [gu (by lia) (by lia),gu (by lia) (by lia)]
  simp only [Gr,Ji];rw [pc,decide_eq_false_iff_not];lia
 ·refine List.Pairwise.imp (R:=(· < ·)) (fun {a b} hab x hx y hy => ?_) N4;obtain ⟨t,z,rfl⟩:=Gk.mp hx;obtain ⟨u,B,rfl⟩:=Gk.mp hy;have z:=GL.mp z;have B:=GL.mp B;unfold c1;rw [gu (by lia) (by lia),gu (by lia) (by lia)]
  simp only [Gr,Ji];rw [pc,decide_eq_false_iff_not];lia
theorem sF {M:Mem}:∀ {rs:List (Addr×List Int)},(∀ r∈rs,M r.1=some (.lst (r.2.map .int)))->aH (rb 15 M) (rs.map fun r=>D.ref r.1)=some (rs.map fun r=>IJ (r.2.map .int))
 | [],_=>rfl
 | r::rs,h=>by
   rw [Gr,aH,ku (k := 14) (h r (by simp)),sF fun r j=>h r (by simp [j])];rfl
theorem qN:∀ a:List (List Int),HC (a.map fun l=>IJ (l.map .int)) (a.map fun l=>IJ (l.map .int))=true
 | [] => by simp [HC]
 | l::a=>by rw [Gr,HC,oR,qN a];rfl
theorem ne3 {x y z:Int} {M:Mem} {Q:QD} (q:Q (.bl false) M):wNe (.tup [.int x, .int y, .int z]) (.tup [.int x, .int y, .int z]) M Q:=by
 refine ⟨.tuple [.int x, .int y, .int z], .tuple [.int x, .int y, .int z],rfl,rfl, ?_⟩;rw [show GR (.tuple [.int x, .int y, .int z]) (.tuple [.int x, .int y, .int z])=true by simp [GR,HC]]
 exact q
theorem Ds {A:List Int} {a b:Addr} {M:Mem} {Q:QD} (j:M a=some (.lst (A.map .int))) (z:M b=some (.lst (A.map .int))) (q:Q (.bl false) M):wNe (.ref a) (.ref b) M Q:=by
 refine ⟨_,_,ku (k := 15) j,ku (k := 15) z, ?_⟩;rw [oR];exact q
theorem vz {k:Nat} {n:Nat} (hn:n<=25) {ρ:al} {x1 x2 x3 x4 x5 x6:Str} {pf:Addr} {a0 a1 a2:D} (e3 : ρ[3]? = some (some (.int (n:Nat)))) (e4 : ρ[4]? = some (some (.tup [a0,a1,a2, .ref pf]))) {M:Mem} {Q:QD} (ef:M pf=some (.lst ((bp n).map prD)))
 (q:∀ (rs:List (Addr×List Int)) p M',Ge M M'->(∀ r∈rs,M' r.1=some (.lst (r.2.map .int)))->rs.map (·.2)=(trj (pa n) n).map (c1 n)->M' p=some (.lst (rs.map fun r => .ref r.1))->Q (.ref p) M') :
 wE (phi tab k) (.comp [none,none,none,(some 3)] [x1,x2,x3,x4] (.last (.seq (.sl (.ix (.var 4) (.int 3)) (.some (.var 3)) .none)) (.tup (.cons (.name 0) (.cons (.name 1) (.cons (.name 2) .nil)))) .nil (.blt .sorted (.cons (.comp [none,(some 0)] [x5,x6] (.last (.rng1 (.var 3)) (.name 0) (.cons (.cmp .eq (.ix (.var 1) (.var 0)) (.int 1)) .nil) (.var 0))) .nil)))) ρ M Q:=by
 have E5:=jL (n:=n);have hle:n<=(bp n).length:=by unfold bp;rw [D2,bY];lia
 have E6:=qF (F:=pa n) n;have E7:n*n<=25*25:=HS hn hn;walk_at "wp";rw [e3];refine ⟨_,e4,_,_,rfl,rfl,_,rfl,_,rfl,_,ef,fun p1 L => ?_⟩;rw [xS (by rw [r3];exact hle), <- List.map_drop,Ap]
 have g1:=Ge.new (o := .lst ((trj (pa n) n).map prD)) L;have e1:=ab (M:=M) (a:=p1) (o := .lst ((trj (pa n) n).map prD));generalize af M p1 _=M1 at g1 e1 ⊢;refine ⟨_,ag e1, ?_⟩;refine aI (f:=prD) (ys:=trj (pa n) n) (I:=fun l ρ M' acc=>(∃ o0 O U, ρ = [o0,O,U,some (.int n)])/\Ge M1 M' /\ ∃ rs:List (Addr×List Int),(∀ r∈rs,M' r.1=some (.lst (r.2.map .int)))/\rs.map (·.2)=l.map (c1 n)/\acc=rs.map fun r => .ref r.1) rfl ⟨⟨_,_,_,rfl⟩,Ge.refl,[],by simp,rfl,rfl⟩ (fun _ _ _ _ h=>ag (h.2.1 _ _ e1)) ?_ ?_
 ·rintro l p r ρ M2 acc e ⟨⟨o0,O,U,rfl⟩,g2,rs,B,z,rfl⟩;refine ⟨_,rfl,fun N' Y => ?_⟩;have E8:=am e;have E9:p.1.length=n:=by
   obtain ⟨i,j,_,_,rfl⟩:=qM (n:=n) (p:=p) (by rw [e];simp)
   simp [pa,bb]
  have Ea:rs.length=l.length:=by
   have:=congrArg Kz z;simpa using this
  walk_at "wp";refine ⟨by lia,by lia, ?_⟩
  rw [Gq];refine aI (f:=fun i=>D.int (i:Nat)) (ys:=D0 n) (I:=fun l' ρ M' acc=>(∃ o0, ρ = [o0,some (.tup (p.1.map .int))])/\M'=M2/\acc=(((l'.filter fun h=>p.1.getD h 0==1)).map fun h:Nat=>(h:Int)).map .int) aM ⟨⟨_,rfl⟩,rfl,rfl⟩ (fun _ _ _ _ _=>trivial) ?_ ?_
  ·rintro l' h r' ρ M3 acc e' ⟨⟨o0,rfl⟩,rfl,rfl⟩;refine ⟨_,rfl,fun N2 G => ?_⟩;have J:=am e';rw [Gz] at J;have hh:h < n:=GL.mp (by rw [e'];simp)
   have Eb:=IA (fun h=>p.1.getD h 0==1) l';walk_at "wp";refine ⟨_,iJ (l:=p.1) (by lia) (by lia), ?_⟩
   walk_at "wp";have eg:gi p.1 (h:Nat)=p.1.getD h 0:=by unfold gi;rw [Gq]
   rw [eg]
   by_cases hz:(p.1.getD h 0==1)=true
   ·rw [if_pos hz];refine ⟨by rw [r3,r3,Gd];lia,G _ _ _ ⟨⟨_,rfl⟩,rfl, ?_⟩⟩
    rw [IE,Ho (p:=fun h=>p.1.getD h 0==1) hz];simp
   ·rw [if_neg hz];refine G _ _ _ ⟨⟨_,rfl⟩,rfl, ?_⟩;rw [IE,Hi (p:=fun h=>p.1.getD h 0==1) hz];simp
  ·rintro ρ M3 acc ⟨⟨o0,rfl⟩,rfl,rfl⟩ p3 hp3;have g3:=Ge.new (o := .lst ((((D0 n).filter fun h=>p.1.getD h 0==1).map fun h:Nat=>(h:Int)).map .int)) hp3;refine ⟨_,_, .int,rfl,ag ab,rfl,fun d hd => ?_,fun p4 ys Z E3 E4 => ?_⟩
   ·obtain ⟨x,_,rfl⟩:=Gk.mp hd;rfl
   have ey:=pH (sh := .int) (fun d hd=>by obtain ⟨x,_,rfl⟩:=Gk.mp hd;rfl) E3 E4 (vq (Ck (n:=n) (p:=p)))
   subst ey;have g4:=g3.trans (Ge.new (o := .lst ((((D0 n).filter fun h=>p.1.getD h 0==1).map fun h:Nat=>(h:Int)).map .int)) Z);refine ⟨by rw [r3,Gd];lia,Y _ _ _ ⟨⟨_,_,_,rfl⟩,g2.trans g4,rs++[(p4,c1 n p)],fun r hr => ?_,by simp [z],by simp⟩⟩
   rcases Gy.mp hr with h | h
   ·exact g4 _ _ (B r h)
   ·simp at h;subst h;exact ab
 ·rintro ρ M2 acc ⟨⟨o0,O,U,rfl⟩,g2,rs,B,z,rfl⟩ p2 hp2;exact q rs p2 _ (g1.trans (g2.trans (Ge.new hp2))) (fun r hr=>Ge.new hp2 _ _ (B r hr)) z ab
theorem Dt {Φ:Phi} {g:MG} {e:ME} {r:MSs} {E:b7} {ρ:al} {M:Mem} (h:wE Φ e ρ M fun x j => ∃ ρ',bG g x ρ = some ρ'/\wSs Φ r E ρ' j):wSs Φ (.cons (.asg g e) r) E ρ M:=by
 rw [bD];exact h
theorem Aq {k:Nat} (Y : 4<=k) {n:Nat} (h1 : 1<=n) (B:n<=9) {pf pt:Addr} {rs:List Tm} (J:IsTask (bU n n) rs) {M:Mem} {Q:QD} (ef:M pf=some (.lst ((bp n).map prD))) (et:M pt=some (.lst (rs.map tmD))) (q:∀ M',Ge M M'->Q (.bl true) M'):phi tab k 9 [.tup [.int n, .int n, .int ((2*n - 1:Nat):Int), .ref pf], .tup [.int n, .int n, .int ((2*n - 1:Nat):Int), .ref pt]] M Q:=by
 refine aA (by lia) rfl rfl (ρ := [some _,some _]) rfl ?_
 unfold d9 L2.Mi.K13.b9;walk_at "st";have L:=jL (n:=n);have O:n*n<=9*9:=HS B B;have m0:n*(n+1)<=9*10:=HS B (by lia)
 have U:(bp n).length*(n*n)<=45*81:=HS (by lia) O
 have Z:(bp n).length*(n*n)*(2*n - 1)<=45*81*17:=HS U (by lia)
 refine sC (L0:=n) (L1:=n) (N := 2*n - 1) (s:=ai 10) (sk:=ai 1) (sf:=ai 8) (sr:=ai 9) rfl rfl rfl rfl (by lia) ef (by lia) (by lia) (by lia) (by lia) (by lia) (fun p z=>⟨gp (bV p z).s0,gp (bV p z).s1,gp (bV p z).s2,(bV p z).l0,(bV p z).l1,(bV p z).l2⟩) fun ts' rs' p' M' F G g' _ e' => ?_
 have er:rs'=rs:=F.uniq J fun k=>by
  obtain ⟨k,i,j⟩:=k;rw [G,qH bp_pp,yz]
 subst er;refine ⟨_,_,qu e',qu (g' _ _ et), ?_⟩;rw [xL];exact q _ g'
theorem xT {k:Nat} (z : 1<=k) {j a1 a2:D} {p:Addr} {ds:List Pr} {M:Mem} {Q:QD} (h:M p=some (.lst (ds.map prD))) (q:Q (.int ds.length) M):phi tab k 5 [.tup [j,a1,a2, .ref p]] M Q:=by
 refine aA (by lia) rfl rfl (ρ := [some _]) rfl ?_
 unfold d5 L2.Mi.K13.b5;walk_at "st";refine ⟨_,rfl,kg h ?_⟩;rw [r3];exact q
theorem pe {k:Nat} (hk : 30<=k) {s:List Int} {b:Addr} {n:Nat} (h1 : 1<=n) (hn:n<=25) {kk:D} {o4 o5 o6 o7 o8:Option D} {E:b7} {M:Mem} (hb:Box b M)
 (q:∀ o4 o5 o6 o7 o8 M',E.nx [some (.con (s.map D.int)),some kk,some (.ref b),some (.int (n:Nat)),o4,o5,o6,o7,o8] M') :
 wSs (phi tab k) (tl (tl (tl (fb b21)))) E [some (.con (s.map D.int)),some kk,some (.ref b),some (.int (n:Nat)),o4,o5,o6,o7,o8] M:=by
 have EN:=jL (n:=n);have hle:n<=(bp n).length:=by unfold bp;rw [D2,bY];lia
 have F5:n*(n+1)<=25*26:=HS hn (by lia)
 have EO:=du_perm (n:=n).length_eq;unfold b21;dsimp only [fb,tl];walk_at "st";refine bps (by lia) (by lia) (by lia) fun pf M1 g1 npf ef => ?_
 walk_at "st";refine Cj (by lia) (by lia) (by lia) fun pd M2 g2 npd ed => ?_
 have Em:=g2 _ _ ef;have EQ:pd≠pf:=fun z=>by rw [z,ef] at npd;cases npd
 have ER:=(Bx.of hb (g1.trans g2)).box;have Eo:=oS hb npf;have Ep:=oS (Bx.of hb g1).box npd;walk_at "st";refine (show eE (.tup [.int n, .int n, .int ((2*n - 1:Nat):Int), .ref pf]) none (some 3) M2 _ from ?_);show _/\_;refine ⟨bE (by lia),by rw [Gd];lia, ?_⟩
 rw [show 2*(n:Int) - 1=((2*n - 1:Nat):Int) by lia]
 refine ne3 ⟨_,rfl, ?_⟩;rw [if_neg (by decide)]
 walk_at "wp";refine ⟨_,rfl, ?_⟩;refine ⟨_,Em,fun p3 Er => ?_⟩;have g3:=Ge.new (o := .lst (cP ((bp n).map prD) none (some (n:Int)))) Er;refine ⟨_,g3 _ _ ed,fun p4 Ed => ?_⟩;rw [iL (by rw [r3];lia),iL (by rw [r3];lia), <- Ob, <- Ob,qL,Ao]
 rw [iL (by rw [r3];lia), <- Ob,qL] at Ed g3
 have g4:=Ge.new (o := .lst ((ows n).map prD)) Ed;refine yB (g4 _ _ ab) ab ⟨_,rfl, ?_⟩;have O:=g3.trans g4;generalize af (af M2 p3 _) p4 _=M4 at O ⊢;rw [if_neg (by decide)]
 have Es:=O _ _ Em;have Et:=O _ _ ed;have ES:=(Bx.of ER O).box;clear g3 g4 Er Ed O;walk_at "wp";refine ⟨_,rfl, ?_⟩;have shb:∀ d∈(bp n).map prD,hs (.tup [.tup (D1 n .int), .tup (D1 n .int), .tup (D1 (2*n - 1) .int)]) d=true:=fun d hd=>by
  obtain ⟨p,hp,rfl⟩:=Gk.mp hd;exact shP ⟨(bV p hp).l0,(bV p hp).l1,(bV p hp).l2⟩
 refine ⟨_,_,_,rfl,ag Es,yC,shb,fun p5 ys Eu Ee Ev => ?_⟩;have g5:=Ge.new (o := .lst ys) Eu;refine ⟨_,_,_,rfl,ag (g5 _ _ Et),yC (n:=n) (m:=n) (k := 2*n - 1),fun d hd=>shb d ((du_perm.map prD).mem_iff.mpr hd),fun p6 zs Ew Ex Ey => ?_⟩;have g6:=Ge.new (o := .lst zs) Ew;have eyz:=ii shb Ee Ex (du_perm.map prD) Ev Ey;subst eyz;obtain ⟨L,_,eL⟩:=cH prD Ee rfl;subst eL;refine yB (g6 _ _ ab) ab ⟨_,rfl, ?_⟩;have U:=g5.trans g6;generalize af (af M4 p5 _) p6 _=M6 at U ⊢;rw [if_neg (by decide)]
 have Ez:=U _ _ Es;have ET:=U _ _ Et;have EU:=(Bx.of ES U).box;clear g5 g6 Eu Ew U Ee Ev Ex Ey;refine Dt (vz (x1 := "") (x2 := "") (x3 := "") (x4 := "") (x5 := "") (x6 := "") hn rfl rfl Ez fun rs pp M7 g7 Ef Eg epp=>⟨_,rfl, ?_⟩);have EA:=g7 _ _ Ez;have EV:=g7 _ _ ET;have EW:=(Bx.of EU g7).box;walk_at "st";refine xT (by lia) EA ⟨bE (by lia),by decide,by decide, ?_⟩
 have Eh:(n:Int)*((n:Int)+1)=2*((bp n).length:Int):=by
  have:=congrArg (fun x:Nat=>(x:Int)) EN;simp only [Pg,Km] at this;rw [<- show ((1:Nat):Int)=1 from rfl, <- this];rfl
 rw [Eh,Int.mul_ediv_cancel_left _ (by decide)]
 walk_at "wp";rw [if_neg (by simp)]
 walk_at "wp";refine ⟨_,rs,rfl,ag epp,Ef,fun p8 ys EX E5 EB => ?_⟩;have g8:=Ge.new (o := .lst (ys.map fun r => .ref r.1)) EX;have B:∀ r∈rs, ∃ i j:Int,r.2=[i,j]:=fun r hr=>by
  have:r.2∈(trj (pa n) n).map (c1 n):=by rw [<- Eg];exact GF (f:=fun r:Addr×List Int=>r.2) hr
  obtain ⟨p,hp,e⟩:=Gk.mp this;obtain ⟨i,j,h1,h2,rfl⟩:=qM hp;rw [<- e];unfold c1;rw [gu h1 h2];exact ⟨_,_,rfl⟩
 have Y:ys.map (·.2)=rs.map (·.2):=by
  refine Kj (le:=fun a b=>HT.lexLt b a=false) (fun a b ha hb h1 h2 => ?_) (GQ.mpr EB) (by rw [Eg];exact GQ.mpr Cl) (E5.map _)
  obtain ⟨r,hr,rfl⟩:=Gk.mp ha;obtain ⟨u,hu,rfl⟩:=Gk.mp hb;obtain ⟨i,j,e1⟩:=B r (E5.mem_iff.mp hr);obtain ⟨i',j',e2⟩:=B u hu;rw [e1,e2] at h1 h2 ⊢;rw [pc,decide_eq_false_iff_not] at h1 h2;have:i=i'/\j=j':=by lia
  rw [this.1,this.2]
 have Z:∀ r∈rs,af M7 p8 (.lst (ys.map fun r => .ref r.1)) r.1=some (.lst (r.2.map .int)):=fun r hr=>g8 _ _ (Ef r hr);refine ⟨.list (rs.map fun r => .list (r.2.map .int)), .list (ys.map fun r => .list (r.2.map .int)),by rw [gf (g8 _ _ epp),sF Z];rfl,by rw [gf ab,sF fun r hr=>Z r (E5.mem_iff.mp hr)];rfl, ?_⟩
 have e1:(rs.map fun r=>IJ (r.2.map .int))=(rs.map (·.2)).map fun l=>IJ (l.map .int):=by rw [Ir];rfl
 have e2:(ys.map fun r=>IJ (r.2.map .int))=(rs.map (·.2)).map fun l=>IJ (l.map .int):=by rw [<- Y,Ir];rfl
 rw [e1,e2,show GR (.list ((rs.map (·.2)).map fun l=>IJ (l.map .int))) (.list ((rs.map (·.2)).map fun l=>IJ (l.map .int)))=true by rw [GR];exact qN _]
 refine ⟨_,rfl, ?_⟩;rw [if_neg (by decide)]
 have EC:=g8 _ _ EA;have ED:=g8 _ _ EV;have Ei:=(Bx.of EW g8).box;generalize af M7 p8 _=M8 at EC ED Ei ⊢;clear Z g8 E5 EB Y e1 e2 B Ef Eg epp;walk_at "st";refine qJ (by lia) (by lia) Ei fun one p1 M9 EE EF x9 EY E6 => ?_
 have EZ:=oS Ei EY;refine qJ (by lia) (by lia) x9.box fun other p2 F6 E8 E3 Ej F7 EG => ?_
 have E9:=Ej.keep _ _ Eo (x9.keep _ _ Eo EC);have EH:=Ej.keep _ _ Ep (x9.keep _ _ Ep ED);have E6:=Ej.keep _ _ EZ E6;walk_at "st";refine Ak (s:=ai 6) (s2:=ai 5) (fp := 3) (L0:=n) (L1:=n) (L2 := 2*n - 1) rfl rfl (by lia) (by lia) (by lia) (by lia) bV E9 (ag E6) (ag EG) EF E3 fun F8 pa EI npa epa => ?_
 refine qr (s:=ai 3) (s':=ai 1) (ft := 0) rfl rfl (by lia) (by lia) (by lia) fun rt pt F9 hT Ek npt ept => ?_
 rw [show ((n:Int)+n - 1)=((2*n - 1:Nat):Int) by lia]
 have J:=EI.trans Ek;refine xG (s:=ai 2) (N := 2*n - 1) (a:=one) (b:=other) rfl (by lia) ept (ag (J _ _ E6)) (ag (J _ _ EG)) (by lia) (by rw [EE,E8];have:=Aa hT h1;rw [show n+n - 1=2*n - 1 by lia] at this;exact this) (Ab E3) fun pv F1 El npv epv => ?_
 rw [xR (L0:=n) (L1:=n) (ps:=bp n) (fun k=>by obtain ⟨k,i,j⟩:=k;rw [hT.cf,Ad,qH bp_pp,yz]) (fun p hp=>⟨(bV p hp).l0,(bV p hp).l1⟩) EE E8] at epv
 refine Ds (El _ _ (Ek _ _ epa)) epv ⟨_,rfl, ?_⟩;rw [if_neg (by decide)]
 have F:=J.trans El;have E4:=F _ _ E9;have Ea:=F _ _ EH;clear F J EI Ek El epv epa hT ept;have fin:∀ G,G pf=some (.lst ((bp n).map prD))->G pd=some (.lst ((du n).map prD))->wSs (phi tab k) (tl (tl (tl (tl (tl (tl (tl (tl (tl (tl (tl (fb b21))))))))))))  E [some (.con (s.map D.int)),some kk,some (.ref b),some (.int (n:Nat)),some (.tup [.int n, .int n, .int ((2*n - 1:Nat):Int), .ref pf]),some (.ref pd),some (.ref pp),some (.ref p1),some (.ref p2)] G:=fun G Eb EJ=>by
  unfold b21;dsimp only [fb,tl];walk_at "st";have F3:∃ z,((bp n).map prD)[((bp n).map prD).length - 1]? = some z:=⟨_,tv (by rw [r3];lia)⟩
  obtain ⟨z,hz⟩:=F3;refine ⟨_,rfl,⟨_,rfl,_,Eb⟩,pf,_,z,rfl,rfl,Eb,hz, ?_⟩;have Ec:af G pf (.lst ((bp n).map prD).dropLast) pd=_:=(aE EQ).trans EJ;generalize af G pf _=EK at Ec ⊢;walk_at "st";refine bps (by lia) (by lia) (by lia) fun Fa Fb F4 _ EL => ?_
  refine ⟨_,_,rfl,rfl, ?_⟩;refine kg EL ?_;refine kg (F4 _ _ Ec) ?_;walk_at "wp";rw [if_neg (by simp [EO])]
  exact q _ _ _ _ _ _
 walk_at "st"
 by_cases hn9:n < 10
 ·rw [if_pos (by simpa using (by lia:(n:Int) < 10))]
  refine qr (s:=ai 3) (s':=ai 1) (ft := 0) rfl rfl (by lia) (by lia) (by lia) fun rt pt G hT EM npt ept => ?_
  rw [show ((n:Int)+n - 1)=((2*n - 1:Nat):Int) by lia]
  refine Aq (by lia) h1 (by lia) hT (EM _ _ E4) ept fun EK E7 => ?_
  have E7:=EM.trans E7;refine ⟨_,rfl,_,rfl, ?_⟩;rw [if_neg (by decide)]
  exact fin EK (E7 _ _ E4) (E7 _ _ Ea)
 ·rw [if_neg (by simpa using (by lia : ¬ (n:Int) < 10))]
  exact fin F1 E4 Ea
theorem law_holds (ns:List Int) (hl:ns.length<=63):phi tab 40 21 [.con (ns.map D.int)] (fun _=>none) fun d _=>d = .bl true:=by
 refine aA (by lia) rfl rfl (ρ := [some _,none,none,none,none,none,none,none,none]) rfl ?_
 unfold d21;unfold L2.Mi.K13.b21;walk_at "st";rw [r3];refine ⟨by split <;> lia,by split <;> lia, ?_⟩
 refine aP (I:=fun l ρ M' => ∃ J L O j q z B G, ρ = [some (.con (ns.map D.int)),J,L,O,j,q,z,B,G]) aM ⟨_,_,_,_,_,_,_,_,rfl⟩ (fun _ _ _ hI=>trivial) ?_ ?_
 ·rintro l k r ρ M8 e ⟨J,L,O,j,q,z,B,G,rfl⟩;refine ⟨_,rfl,fun F Z => ?_⟩;walk_at "st";refine C4 (s:=ai 20) (fc := 14) (fm := 15) (sc:=ai 18) rfl rfl (qI (by lia)) (by lia) (by lia) fun b x y E3 => ?_
  walk_at "st";refine fC (by lia) ⟨_,_,_,ab⟩ (by decide) (by decide) fun U M1 a0 a1 x1 => ?_
  walk_at "wp";walk_at "st";refine fC (by lia) x1.box (by decide) (by decide) fun r2 M2 c0 c1 x2 => ?_
  walk_at "wp"
  by_cases hz:(r2==0)=true
  ·rw [if_pos hz];walk_at "st";refine fC (by lia) x2.box (by decide) (by decide) fun Y M3 d0 d1 x3 => ?_
   walk_at "wp";rw [show (10:Int)+Y=((10+Y).toNat:Nat) by lia]
   exact pe (n:=(10+Y).toNat) (by lia) (by lia) (by lia) x3.box fun j q z B G M'=>Z _ _ ⟨_,_,_,_,_,_,_,_,rfl⟩
  ·rw [if_neg hz];rw [show (1:Int)+U=((1+U).toNat:Nat) by lia]
   exact pe (n:=(1+U).toNat) (by lia) (by lia) (by lia) x2.box fun j q z B G M'=>Z _ _ ⟨_,_,_,_,_,_,_,_,rfl⟩
 ·rintro ρ M8 ⟨J,L,O,j,q,z,B,G,rfl⟩;dsimp only;walk_at "st"
end K13
end
end
end Mi
end L2
namespace PySem.W.Fast
theorem tw14995311731713813650:True:=trivial
theorem tw3154934573237843868:True:=trivial
theorem tw16752938805352311625:True:=trivial
theorem tw13410839658119074632:True:=trivial
theorem tw4765686903124697314:True:=trivial
theorem tw13503145328134781917:True:=trivial
theorem tw2328404775679320842:True:=trivial
theorem tw12055965060441847019:True:=trivial
theorem tw7573958936466670755:True:=trivial
theorem tw7783632187970510857:True:=trivial
theorem tw6709095270975139601:True:=trivial
theorem tw10349506357762123489:True:=trivial
theorem tw12584032293319895753:True:=trivial
theorem tw13751489357243421680:True:=trivial
theorem tw17794884471246438966:True:=trivial
theorem tw11159857135224274132:True:=trivial
theorem tw9896559188637613106:True:=trivial
theorem tw8786232044264694892:True:=trivial
theorem tw12808066263372162028:True:=trivial
theorem tw9353208605442081876:True:=trivial
theorem tw10959214020373403095:True:=trivial
theorem tw1506895930830983583:True:=trivial
theorem tw7888236287779741040:True:=trivial
theorem tw9908832151615727712:True:=trivial
theorem tw17524599802767339032:True:=trivial
theorem tw4701832374042461365:True:=trivial
theorem tw6964454648024947883:True:=trivial
theorem tw5358340810154646732:True:=trivial
theorem tw709581829507299645:True:=trivial
theorem tw15023558618055569286:True:=trivial
theorem tw2851986945529112500:True:=trivial
theorem tw2908612025191584616:True:=trivial
theorem tw6469873255035241879:True:=trivial
theorem tw15142696308703583540:True:=trivial
theorem tw13964813340441012135:True:=trivial
theorem tw4617970993417682539:True:=trivial
theorem tw6977704359665828701:True:=trivial
theorem tw6216462601901523977:True:=trivial
theorem tw5278007205415112844:True:=trivial
theorem tw10455841538987232242:True:=trivial
theorem tw16132099791311976650:True:=trivial
theorem tw5627883822992309971:True:=trivial
theorem tw240647686301195257:True:=trivial
theorem tw15017112949779956598:True:=trivial
theorem tw6256610547337734329:True:=trivial
theorem tw8171025411258635433:True:=trivial
theorem tw16121767815864021575:True:=trivial
theorem tw10962648281446818504:True:=trivial
theorem tw12749652437186157340:True:=trivial
theorem tw3522005743760224446:True:=trivial
theorem tw13143858903807636071:True:=trivial
theorem tw12253238735503913150:True:=trivial
theorem tw6228186092894730762:True:=trivial
theorem tw12963041665132131141:True:=trivial
theorem tw1346301943029709367:True:=trivial
end PySem.W.Fast
open PySem.W in
set_option maxRecDepth 100000 in
set_option maxHeartbeats 0 in
theorem PySem.Challenge.cw_fewtimes_k13_lines_by_pairs_holds : PySem.Challenge.rw_fewtimes_k13_lines_by_pairs.Holds := by
 w_on;o_law;k_head;(case hw=>w_witness2)
 k_fill
 refine L2.Mi.K13.walk (l:=PySem.Challenge.rw_fewtimes_k13_lines_by_pairs) rfl rfl L2.Mi.K13.law_holds (fun w h Y=>PySem.W.kIn_of Y) ?F
 case F =>
  intro w mg fa h KX G hmg;refine' L2.Mi.K13.all_mk KX G hmg ?z ?_ ?_ ?_ ?_ ?_ ?_ ?_ ?_ ?_ ?_ ?_ ?_ ?_ ?_ ?_ ?_ ?_ ?_ ?_ ?_ ?_ ?_ ?_ ?_ ?_ ?_ ?_ ?_ ?_ ?_ ?_ ?_ ?_ ?_ ?_ ?_ ?_ ?_ ?_ ?_ ?_ ?_ ?_ ?_ ?_ ?_ ?_ ?_ ?_ ?_ ?_ ?_ ?_ ?_ ?_ ?_ ?_ ?_ ?_ ?_ ?_ ?_ ?_ ?_ ?_ ?_ ?_ ?_ ?_ ?_ ?_ ?_ ?_ ?_ ?_ ?_ ?_ ?_ ?_ ?_ ?_ ?_ ?_ ?_ ?_ ?_ ?_ ?_
  case z =>
   intro x hx;simp only [L2.Mi.bltNames,List.mem_cons,List.not_mem_nil,or_false] at hx
   rcases hx with rfl | rfl | rfl | rfl | rfl | rfl | rfl | rfl | rfl | rfl | rfl | rfl | rfl | rfl | rfl | rfl | rfl | rfl | rfl | rfl <;> k_is
  all_goals try (show _=_;k_is)
