import PyProof.Rows.All
import Wide.All
import OpenK.AllK
import Wide.FinOn
import Lean
import PyProof.EqAt
import PyProof.EqKinds
import PyProof.TupleCall
import PyProof.ZipIter
import PyProof.EnumMake
import PyProof.EnumFor
import PyProof.CollectIter
import PyProof.TupleKey
import PyProof.DictRoadsH
import PyProof.P3Eq
import PyProof.Rows.SeqMore
import PyProof.ConsumeWalk
import PyProof.Rows.SortShellK
import PyProof.DictItems
import PyProof.DictWalks
import PyProof.AttrMissHeap
import PyProof.DictIter
import PyProof.MaxThree
import PyProof.SeqI3
import PyProof.DictTruth
import PyProof.Rows.TupDisplay
import PyProof.ListCopy
import PyProof.NeKinds
import PyProof.RaisesDict
import KE.KDictOf
import PyProof.Rows.CallKwBuiltin
import PyProof.DelItemList
import KE.IntBitsLaws
import PySem.Challenge.RW_fewtimes_k29_programs_of_schemes
set_option Elab.async false
set_option linter.all false
set_option compiler.extract_closed false
set_option genSizeOf false
set_option bootstrap.genMatcherCode false
set_option maxRecDepth 100000
set_option maxHeartbeats 4000000
open PySem.W (Frag)
open PySem renaming wpAny_bind → e6, Value → e7, Shared → h8, sizeLine_eq → hH, wpAny_pure → hQ, sizeLine → D0, wpAny → FG, Comprehension → FO, starEach → FP, model → FQ, Program → FR, World → G7, wpAny_callSpecial?_slot → Ga, wpAny_setField_rec → Gd, Around → Gg, wpAny_field → Gm, Paired → Gn, wpAny_call_entry → Gq, PyData → Gw, wpAny_holding → Gz, compareOp → GA, mainGlobals → GB, foldedSetIterable → GI, mem_of_lookup → GR, wpAny_newObj_type → GU, wpAny_standAt → GX, binaryOp → GY, sysModules → H4, wpAny_mono → H8, wpAny_rule → H9, wpAny_pyIter_tuple → Ha, assignEach → Hk, cellsFrom → Hs, wpAny_pyIter_list → Hu, bootBuiltins → Hy, wpAny_Call_Name_kw → HE, wpAny_seqItems → HG, inplaceOp → HK, wpAny_passesOwn → HL, wpAny_truthy_bool → HN, swappedStores → HV, IsPair → HX, NameKind → HZ, DictEntry → I0, cLine → Ib, wpAny_of_eq → Ic, codeAny_mono → Ii, wpAny_loadPart' → Ir, standAt → Iw, codeAny → Iy, Builtin → IA, backTo → IC, FuncData → ID, call_meets → IF, swapsWithSole → IV, behindInMarks → IW, wpAny_comprehension_free → IZ, wpAny_attempt → J0, letOwnedTupleGo → J2, pyNext → J8, swapsWith → Jd, sliceBounds → Jg, Operator → Ji, wpAny_typeOf → Jp, Reads → Js, wpAny_isInstance → JH, Model → JP, wpAny_updateSeq_pair → JS, pushCells_keeps → JW, Keyword → K8, tupleKind_room_in1 → Km, newFunctionEnv → Ko, firstArgMember → Kq, wpAny_binaryOp_repeat_ref → Kw, IsZip → KH, pyIter → KJ, intBits_le_64 → KL, attributeBase → KN, wpAny_newList → KO, wpAny_onRaise → KP, tupleKind → KY, noFill_tuple_add → L3, rawInt → Lf, IsPart → Lg, getItem → Lh, typeIs_int → Lk, valueAt → Lm, IsEnum → Ln, wpAny_execs_nil → Ls, wpAny_loadName_local → LG, keywordEach → LJ, compTurn → LL, ZipApart → LM, wpAny_letGo → LO, wpAny_newTuple → LP, isSubtype_stop → LQ, ReadsAll → LW, bindName → LX, wpAny_bindName → LY, isSubtype_type → LZ, wpAny_ite_true → Ma, callerA → Mf, pushCells → Mg, wpAny_loadName_cell → Mh, assignInOrder → Mt, seq_tuple_add → Mu, mroOf_keyiter → Mw, foldedForSure → MA, BindsTo → N4, concat_meets → N5, wpAny_sequenceKey → N6, seqIndex_neg → N8, wpAny_pyIter_enum → Nf, Result → Nx, wpAny_Dict_empty → NA, noteFrame → NB, compStart → ND, wpAny_askSetting → NF, wpAny_pyIter_zip → NI, IsEnumOut → NJ, fillsInplaceSlot → NQ, seqIndex_of → NW, atKey → NX, richCompare → O0, builtinsNs → Oi, wpAny_Name → Oj, bindL → Ol, bindC → Om, typeLookup → Oo, backToKw → Ot, call → Ou
open List renaming length_map → gV, length_append → i5, getElem?_eq_getElem → r4, getElem?_append_right → z4, size_toArray → D1, map_append → D2, mem_cons → Fx, replicate → FA, mem_append → FC, mem_append_right → FE, getElem?_append_left → FH, mem_map → FI, mem_cons_of_mem → FJ, getElem?_map → FK, map_cons → FL, getElem?_eq_some_iff → FN, mem_of_getElem? → FU, length_filter_le → FV, not_mem_nil → FW, filter_append → G1, mem_filter → G3, mem_append_left → G4, map_map → G5, length_singleton → G6, length_take → G9, append_assoc → Gb, range → Gc, mem_singleton → Gf, length_cons → Gj, replicate_succ → Gp, foldl_cons → Gr, filter_cons → Gs, pairwise_append → Gu, mem_cons_self → Gv, length_eq_zero_iff → GK, filter_cons_of_neg → GL, filter_cons_of_pos → GN, find?_cons → GP, mem_map_of_mem → GS, append_nil → H0, map_singleton → Hb, any_cons → Hc, flatten_cons → Hd, length → Hh, nodup_append → Hv, nodup_cons → Hw, lookup_cons → HC, take_append_drop → HH, drop_eq_getElem_cons → HJ, getElem?_mapIdx → HQ, ext_getElem? → HR, foldl_append → HS, length_filterMap_le → HY, getElem?_cons_succ → I7, any_eq_true → I8, map → Ia, getElem?_set_self → Ig, length_nil → Io, forIn_cons → Iq, all_cons → Iu, reverse_cons → Iz, flatMap_cons → IB, getD_eq_getElem?_getD → IG, mem_iff_getElem → IH, mem_reverse → IJ, cons_append → IM, getElem_mem → IP, map_congr_left → IS, getElem_of_mem → IT, getElem?_take_of_lt → IX, nil_append → J3, mem_filterMap → J9, getElem?_drop → Jb, any_eq_false → Jj, map_nil → Jq, any_map → Jt, reverse_perm → Ju, pairwise_map → Jw, eraseIdxIfInBounds_toArray → Jy, eraseIdx_eq_take_drop_succ → JA, getElem?_eq_none → JD, length_drop → JE, all_eq_true → JM, getElem?_set_ne → JQ, getElem?_zipIdx → JU, mem_mapIdx → K1, filterMap_cons → K5, length_pos_iff → K6, filter_sublist → K7, zipWith → Kc, mem_range → Kg, nodup_nil → Kn, length_zipIdx → Kv, filter_congr → KI, getElem?_replicate → KZ, zipIdx_cons → L4, drop_length → L7, eraseIdx_cons_succ → L8, isEmpty_iff → L9, getElem?_cons_zero → La, take_of_length_le → Lp, of_mem_zip → Lu, length_replicate → Ly, getElem?_zipWith → LB, pairwise_reverse → LC, eq_nil_or_concat → LD, filterMap_append → LF, forIn_nil → LN, getElem?_range → Mm, length_zipWith → Mn, length_reverse → Mo, zipIdx_map_fst → Mp, map_eq_nil_iff → Mq, filter_eq_self → Mr, flatMap_append → Ms, set_comm → Mv, foldl → MQ, set_cons_zero → MX, set_cons_succ → MY, length_range → Ng, take_add_one → Nl, map_snd_zip → NO, append_inj' → NU, map_id → O1, zipIdx_nil → Od, filter_map → Og
open PySem.Heap renaming get?_push_of_some → h7, lt_size → Fz, get?_push_size → FF, size_push → Gx, SameBut → GZ, get?_update_ne → Hg, IsTuple → Ka, get?_update_other → Lj, get?_update_self → Lz, IsList → LR, get?_push_cases → LU, ExtBut → NY
open Bool renaming and_eq_true → hG, false_ne_true → i4, not_eq_true' → Hf, false_eq_true → Hl, not_eq_true → JG, false_or → JN, or_eq_true → Lw, and_eq_true_iff → LV
open PySem.Str renaming ofString → q7
open Nat renaming le_refl → Fy, lt_of_lt_of_le → FY, ne_of_lt → G0, le_trans → G8, lt_irrefl → Gy, zero_le → GW, ne_of_gt → Ih, le_of_lt → II, succ_le_succ → JF, min_eq_left → JZ, lt_succ_of_lt → KG, mul_succ → Nh, sub_self → Nm, lt_succ_self → NL, not_lt → Ov
open PyProof.Rows renaming Keyed → FT, wpS_bind → Gi, arrOf → Gk, callWith_type1 → GH, slot_tuple_getitem → Hi, SortSt → Hr, kindOf → Hz, pendingOf → HD, wpS_forRange → IK, failedOf → J1, get?_update_seq → J6, assignInOrder_cons → J7, listUpdate_at → JO, SortKind → JT, mem_zip_self → Kd, AllBare → KD, seqSlot_of → L6, subscriptTail_builtinR → Li, envOfC → LI, entry_tuple_getitem → Mj, args_tuple_getitem → MN, assignInOrder_nil → MZ, IntsAre → N7, wpS_get → Nk, listItems_at → Np, seqObj → NN, keyKind'_eq → O6, seqEpoch_at → O7, wpS_modify → Ow
open PySem.W renaming mg_of → FX, kia_one → GO, fnOf → Ij, keepIn → IE, kitx_list → Jk, kitx_dict → Jl, cellsFrom_some → Jn, nsIn → Jr, codeIn → Ki, methodObj → KA, instObj → Lr, OpenLaw → Lv, lookIn → LH, kitAny → Mb, kitx_float → MK, kitx_tuple → MM, kitx_none → N1, kitx_bool → N3, plainGet → Nu, kitx_int → Nv, kitx_str → Nw
open PySem.NameKind renaming free → FZ, cell → Ho
open PySem.Value renaming ref → G2, type → GF, none → HU, int → KU, str → KW, bool → Ld, float → NV
open PySem.PyData renaming eqv → Gh, canLayAll0 → GJ, eqvAll → Hq, depthAll → Hx, depth → Im, canLay0 → Jv, strOk → Ni, list → NZ
open Array renaming length_toList → GC, getElem?_toList → GG, getElem?_eq_getElem → Hj, getElem?_eq_none → Jx, toList_inj → JK, map → JL, toList → Le, append_assoc → MJ, all_eq_true → Nq, filterMap → Of
open Int renaming toNat_of_nonneg → GD, toNat_natCast → Ht, emod_lt_of_pos → Jc, emod_nonneg → K0
open True renaming intro → GQ
open PySem.SeqAt renaming readOf → He, readOf_eq → HM, notIn_listAt → MP, eqAt_reads → NM, EqAt → Oq
open Option renaming isSome_iff_exists → Hm, map_eq_some_iff → HA, some → HB, isSome_map → HP, map_some → J4, bind_some → JI, map_eq_none_iff → Lq, isSome_some → MR, getD_none → Ny, join_some → NR, bind_none → NS, join_none → NT
open PySem.Builtin.List renaming listTooLong → Hn, listLengthHint → Ke
open PySem.F renaming slot_tuple_iterator_next → HF, plainAttrs_list → I9, slot_enumerate_next → Iv, args_tuple_add_2 → IY, entry_tuple_add → Jf, slot_tuple_add → Jo, slot_int_rmul → JV, args_tuple_iterator_next_1 → JX, slot_zip_next → JY, entry_tuple_iterator_next → K9, slot_dict_delitem → Kx, slot_list_remove → KQ, args_enumerate_next_1 → L5, entry_enumerate_next → Lo, slot_dict_pop → LA, args_int_rmul_2 → N9, args_zip_next_1 → Nb, entry_int_rmul → Nz, entry_zip_next → NG, slot_dict_iter → NP, fills_int_mul → Oc, slot_tuple_lt → Oe
open PySem.Builtin.Slice renaming slicePlaces → HI, sliceAdjust → IQ, sliceApplied → Kj
open PySem.Builtin.Tuple renaming tupleExact → HW, tupleCompareSizes → Jz, tupleItemsOf → Kk, tupleIsExact → Kl, tupleTooMany → Kr, tupleHashOf → Kz
open PySem.Shared renaming heap → Ie
open PySem.Obj renaming mapSeq → Ik, data_mapFields → MU
open List.Perm renaming append_right → Il, append_left → JB, refl → Ks
open ForInStep renaming yield → Ip
open PySem.Paired renaming length → IU
open PySem.Calls renaming spliced_cons → Ja, spliced_nil → Jm, Name_function_global → Kh, callWith_builtin → Ll, evalArgs_plain → LK
open PySem.Builtin.Range renaming rangeSize → Je, rangeFitsLong → Kb
open And renaming intro → Jh
open Classical renaming choose_spec → JC
open PyProof.Rows.SortSt renaming mk' → JJ
open PySem.Data renaming seq → JR
open PyProof.Rows.IsTup renaming new → Kf
open PySem.Builtin.Dict_items renaming isOneOf → Ku
open PySem.Expr renaming DictComp → KR, Subscript → Mc, Attribute → Md, Constant → Mx, ListComp → My, UnaryOp → Nr, Compare → Nt, BoolOp → O8, BinOp → Ox, IfExp → Oy, Tuple → Oz, Slice → OA, Name → OD, List → OE, Call → OF, Dict → OG
open PySem.Env renaming blockKind → KS, kindOf → MW
open Sum renaming inl → Lb, inr → Lc
open List.cons renaming injEq → Lx
open PySem.Stmt renaming AugAssign → Me, Continue → Mz, Assign → O9, Delete → Oa, Return → Ob, While → OB, Break → OC, Expr → OH, Pass → OI
open PySem.Heap.SameBut renaming update → Mk
open PySem.Builtin.Int renaming intBits → Ml
open PySem.SeqAt.EqAt renaming int_str → MB, str_int → MD
open PySem.Around renaming in1_handled → MV
open List.Pairwise renaming nil → Na
open PySem.Heap.IsTuple renaming push → Nc
open Option.some renaming injEq → Nj
open PySem.Heap.IsList renaming push → NH
open Iff renaming rfl → Oh
namespace L2
open PySem PySem.Spec PyProof.Rows
section
noncomputable abbrev Key:=Sum Int Str
noncomputable def gb:Key->e7->Bool
 | .inl k,v=>Value.isInt k v
 | .inr x,v=>Value.isStrOf x v
noncomputable def DH (w:G7):Key->Int
 | .inl k=>hashInt k
 | .inr x=>hashStr w x
theorem aP:∀ {k:Key} {v:e7},gb k v=true->(∃ i t,k=Lb i/\v=KU i t)∨(∃ x t,k=Lc x/\v=KW x t)
 | .inl i,v,h=>by
  obtain ⟨t,e⟩:=Value.isInt_shape (k:=i) (v:=v) h;exact .inl ⟨i,t,rfl,e⟩
 | .inr x,v,h=>by
  obtain ⟨t,e⟩:=Value.isStrOf_shape (x:=x) (v:=v) h;exact .inr ⟨x,t,rfl,e⟩
theorem sX (i:Int) (t:Tok):gb (.inl i) (.int i t)=true:=by simp [gb,Value.isInt]
theorem sY (x:Str) (t:Tok):gb (.inr x) (.str x t)=true:=by simp [gb,Value.isStrOf]
theorem AR (a b:Int):decide ((Lb a:Key)=Lb b)=(a==b):=by
 by_cases e:a=b
 ·subst e;simp
 ·have h : ¬ (Lb a:Key)=Lb b:=fun q=>e (Lb.inj q);rw [decide_eq_false h];exact (beq_eq_false_iff_ne.mpr e).symm
theorem AS (a b:Str):decide ((Lc a:Key)=Lc b)=decide (a=b):=by
 by_cases e:a=b
 ·subst e;simp
 ·have h : ¬ (Lc a:Key)=Lc b:=fun q=>e (Lc.inj q);rw [decide_eq_false h,decide_eq_false e]
theorem AT (a:Int) (b:Str):decide ((Lb a:Key)=Lc b)=false:=decide_eq_false (fun q=>nomatch q)
theorem AU (a:Str) (b:Int):decide ((Lc a:Key)=Lb b)=false:=decide_eq_false (fun q=>nomatch q)
noncomputable def aJ (prog:FR) (w:G7):PySem.KeyKind prog w Key where
 is:=gb
 hash:=DH w
 inj:=fun v a b ha hb=>by
  rcases aP ha with ⟨i,t,rfl,rfl⟩ | ⟨x,t,rfl,rfl⟩
  ·rcases aP hb with ⟨j,u,rfl,e⟩ | ⟨y,u,rfl,e⟩
   ·injection e with e1 _;rw [e1]
   ·exact nomatch e
  ·rcases aP hb with ⟨j,u,rfl,e⟩ | ⟨y,u,rfl,e⟩
   ·exact nomatch e
   ·injection e with e1 _;rw [e1]
 byValue:=fun k v h=>by
  rcases aP h with ⟨i,t,rfl,rfl⟩ | ⟨x,t,rfl,rfl⟩ <;> rfl
 pyHash:=fun hv h=>by
  rcases aP hv with ⟨i,t,rfl,rfl⟩ | ⟨x,t,rfl,rfl⟩
  ·exact wpAny_pyHash_int h
  ·exact wpAny_pyHash_str h
 eqBool:=fun hu hv h=>by
  rcases aP hu with ⟨i,t,rfl,rfl⟩ | ⟨x,t,rfl,rfl⟩
  ·rcases aP hv with ⟨j,u,rfl,rfl⟩ | ⟨y,u,rfl,rfl⟩
   ·rw [AR] at h;exact wpAny_eqBool_int h
   ·rw [AT] at h;exact MB i t y u _ _ _ _ h
  ·rcases aP hv with ⟨j,u,rfl,rfl⟩ | ⟨y,u,rfl,rfl⟩
   ·rw [AU] at h;exact MD x t j u _ _ _ _ h
   ·rw [AS] at h;exact wpAny_eqBool_str h
 «strs» := fun k x t v h=>by
  rcases aP h with ⟨i,u,rfl,e⟩ | ⟨y,u,rfl,e⟩
  ·exact nomatch e
  ·injection e with e1 _
   subst e1
   cases v <;> rfl
theorem oY (prog:FR) (w:G7) (i:Int) (t:Tok):(aJ prog w).is (.inl i) (.int i t)=true:=sX i t
theorem oZ (prog:FR) (w:G7) (x:Str) (t:Tok):(aJ prog w).is (.inr x) (.str x t)=true:=sY x t
end
section
inductive V where
 | non | bl (b:Bool) | int (i:Int) | str (x:Str) | byt (b:Array UInt8) | flt (b:UInt64) | ref (a:Addr) | ty (n:String)
 deriving DecidableEq
noncomputable def RelV:V->e7->Prop
 | .non,u=>u=HU
 | .bl b,u=>u=Ld b
 | .int i,u => ∃ t,u=KU i t
 | .str x,u => ∃ t,u=KW x t
 | .byt b,u => ∃ t,u=Value.bytes b t
 | .flt b,u => ∃ t,u=NV b t
 | .ref a,u=>u=G2 a
 | .ty n,u=>u=GF n
noncomputable abbrev Vals:List V->List e7->Prop:=Gn RelV
theorem Vals.length {xs:List V} {us:List e7} (r:Vals xs us):xs.length=us.length:=IU r
theorem Vals.get:∀ {xs:List V} {us:List e7} {i:Nat} {x:V},Vals xs us->xs[i]? = some x -> ∃ u,us[i]? = some u/\RelV x u
 | _,_,_,_, .nil,e=>by simp at e
 | _,_,0,_, .cons r _,e=>by simp at e;subst e;exact ⟨_,rfl,r⟩
 | _,_,i+1,x, .cons _ t,e=>by
   obtain ⟨u,h1,h2⟩:=Vals.get (i:=i) (x:=x) t (by simpa using e)
   exact ⟨u,by simpa using h1,h2⟩
theorem Vals.set {x:V} {u:e7} (r:RelV x u):∀ {xs:List V} {us:List e7} (i:Nat),Vals xs us->Vals (xs.set i x) (us.set i u)
 | _,_,_, .nil => .nil
 | _,_,0, .cons _ t => .cons r t
 | _,_,i+1, .cons q t => .cons q (Vals.set r i t)
theorem Vals.append:∀ {xs ys:List V} {us ws:List e7},Vals xs us->Vals ys ws->Vals (xs++ys) (us++ws)
 | _,_,_,_, .nil,s=>s
 | _,_,_,_, .cons r t,s => .cons r (Vals.append t s)
theorem Vals.take:∀ {xs:List V} {us:List e7} (n:Nat),Vals xs us->Vals (xs.take n) (us.take n)
 | _,_,0,_ => .nil
 | _,_,_+1, .nil => .nil
 | _,_,n+1, .cons r t => .cons r (Vals.take n t)
theorem Vals.drop:∀ {xs:List V} {us:List e7} (n:Nat),Vals xs us->Vals (xs.drop n) (us.drop n)
 | _,_,0,r=>r
 | _,_,_+1, .nil => .nil
 | _,_,n+1, .cons _ t=>Vals.drop n t
noncomputable def RelO:Option V->Option e7->Prop
 | some v,some u=>RelV v u
 | none,none=>True
 | _,_=>False
noncomputable def KV {κ:Type}:List (κ × V)->List (κ × e7)->Prop:=Gn fun (p : κ × V) (q : κ × e7)=>p.1=q.1/\RelV p.2 q.2
noncomputable def kV:Key->V
 | .inl i => .int i
 | .inr x => .str x
inductive HO where
 | lst (xs:List V)
 | tup (xs:List V)
 | dK (kvs:List (Key×V)) | dT (kvs:List (List Key×V))
 | set (S:Int->Bool) (n:Nat)
 | ins (C dx:Addr) (fs:List (Str×V))
 | own (x:Addr)
 | xd (fs:List (Str×V))
 | met (f x:Addr)
 | rng (lo hi:Int)
 | frz (o:Obj) (u:HO)
 | tbl (ps:Array e7)
 | ext (φ:Heap->Prop)
noncomputable abbrev Hp:=Addr->Option HO
noncomputable def upd (H:Hp) (a:Addr) (o:HO):Hp:=fun b=>if b=a then some o else H b
theorem ax {H:Hp} {a:Addr} {o:HO}:upd H a o a=some o:=by unfold upd;rw [if_pos rfl]
theorem ai {H:Hp} {a b:Addr} {o:HO} (h:b≠a):upd H a o b=H b:=by unfold upd;rw [if_neg h]
theorem CC {H:Hp} {a b:Addr} {o u:HO} (h:H a=some o) (h':H b=some u) (d:o≠u):a≠b:=by
 intro e;subst e;rw [h] at h';exact d (HB.inj h')
theorem aU {H:Hp} {a b:Addr} {o:HO} (h:H a=some o) (h':H b=none):a≠b:=by
 intro e;subst e;rw [h] at h';cases h'
section
variable (P:FR) (w:G7)
noncomputable def ObjOk (H:Hp) (h:Heap) (a:Addr):HO->Prop
 | .lst xs=>xs.length<=D0 /\ ∃ (its:List e7) (n:Nat),Vals xs its/\h.get? a=some { cls := .type "list",data := .seq its.toArray n }
 | .tup xs=>xs.length<=D0 /\ ∃ its:List e7,Vals xs its/\IsTup h a its.toArray
 | .dK kvs=>kvs.length<=D0/\(a==H4)=false /\ ∃ vs,KV kvs vs/\h.DictOf (aJ P w) a vs
 | .dT kvs=>kvs.length<=D0/\(a==H4)=false /\ ∃ xs:List (List Key×Addr×e7),
  Gn (fun (p:List Key×V) (q:List Key×Addr×e7)=>p.1=q.1/\H q.2.1=some (.tup (p.1.map kV))/\RelV p.2 q.2.2) kvs xs /\
  ∃ o es ep,h.get? a=some o/\o.ExactDict/\o.data = .dict es ep/\es.toList=xs.map (entryOfKey (KY (aJ P w)))/\(xs.map (·.1)).Nodup
 | .set S n=>h.SetOf (intKind P w) a S n
 | .ins C dx fs=>H dx=some (.own a)/\fs.length<=1000/\dx≠a/\h.get? a=some (Lr C dx) /\
  ∃ mA,h.Ns1 dx mA/\(∀ f,RelO (fs.lookup f) (mA f))/\PySem.Within mA (fs.map (·.1))
 | .own _ => ∃ o,h.get? a=some o
 | .xd fs => ∃ mA,h.Ns1 a mA /\ ∀ f,RelO (fs.lookup f) (mA f)
 | .rng lo hi => ∃ t u v,h.get? a=some { cls := .type "range",data := .fields #[.int lo t, .int hi u, .int 1 v] }
 | .frz o u=>h.get? a=some o/\ObjOk H h a u
 | .tbl ps=>h.get? a=some { cls := .none,data := .fields ps }
 | .met f x=>h.get? a=some (KA (.ref f) (.ref x))
 | .ext φ => φ h/\(∃ o,h.get? a=some o) /\ ∀ h1 h2:Heap, φ h1->(∀ o,h1.get? a=some o->h2.get? a=some o) -> φ h2
def HOk (H:Hp) (h:Heap):Prop := ∀ a o,H a=some o->ObjOk P w H h a o
end
section
variable {P:FR} {w:G7} {H H':Hp} {h h':Heap} {a:Addr} {o:HO}
theorem ObjOk.lt (x:ObjOk P w H h a o):a < h.objs.size:=by
 cases o with
 | lst xs=>obtain ⟨_,_,_,_,e⟩:=x;exact Fz e
 | tup xs=>obtain ⟨_,_,_,p⟩:=x;exact p.lt
 | dK kvs=>obtain ⟨_,_,_,_,o,_,_,e,_⟩:=x;exact Fz e
 | dT kvs=>obtain ⟨_,_,_,_,o,_,_,e,_⟩:=x;exact Fz e
 | set S n=>obtain ⟨o,_,_,_,e,_⟩:=x;exact Fz e
 | ins C dx fs=>obtain ⟨_,_,_,e,_⟩:=x;exact Fz e
 | own y=>obtain ⟨_,e⟩:=x;exact Fz e
 | xd fs=>obtain ⟨_,⟨_,_,_,e,_⟩,_⟩:=x;exact Fz e
 | rng lo hi=>obtain ⟨_,_,_,e⟩:=x;exact Fz e
 | frz ob u=>obtain ⟨e,_⟩:=x;exact Fz e
 | tbl ps=>exact Fz (show h.get? a=some _ from x)
 | met f y=>exact Fz (show h.get? a=some _ from x)
 | ext φ => obtain ⟨_,⟨_,e⟩,_⟩:=x;exact Fz e
theorem ON {α β:Type} {F G : α -> β -> Prop}:∀ {l₁:List α} {l₂:List β},Gn F l₁ l₂ -> (∀ a b,F a b->G a b)->Gn G l₁ l₂
 | _,_, .nil,_ => .nil
 | _,_, .cons r t,f => .cons (f _ _ r) (ON t f)
theorem ObjOk.stay (x:ObjOk P w H h a o) (k:∀ b u,(b=a∨H b=some (.own a))->h.get? b=some u->h'.get? b=some u)
 (ho:∀ b,H b=some (.own a)->H' b=some (.own a)) (j:∀ b xs,H b=some (.tup xs)->H' b=some (.tup xs)):ObjOk P w H' h' a o:=by
 induction o with
 | lst xs=>obtain ⟨z,its,n,r,e⟩:=x;exact ⟨z,its,n,r,k _ _ (.inl rfl) e⟩
 | tup xs=>obtain ⟨z,its,r,ob,e,c⟩:=x;exact ⟨z,its,r,ob,k _ _ (.inl rfl) e,c⟩
 | dK kvs=>obtain ⟨z,y,vs,r,ob,es,ep,e,c⟩:=x;exact ⟨z,y,vs,r,ob,es,ep,k _ _ (.inl rfl) e,c⟩
 | dT kvs =>
   obtain ⟨z,y,xs,r,ob,es,ep,e,c⟩:=x;exact ⟨z,y,xs,ON r fun p q z=>⟨z.1,j _ _ z.2.1,z.2.2⟩,ob,es,ep,k _ _ (.inl rfl) e,c⟩
 | set S n=>obtain ⟨ob,es,ep,t,e,c⟩:=x;exact ⟨ob,es,ep,t,k _ _ (.inl rfl) e,c⟩
 | ins C dx fs =>
   obtain ⟨d,z,ne,e,mA,⟨od,es,ep,B,c⟩,r⟩:=x;exact ⟨ho _ d,z,ne,k _ _ (.inl rfl) e,mA,⟨od,es,ep,k _ _ (.inr d) B,c⟩,r⟩
 | own y=>obtain ⟨ob,e⟩:=x;exact ⟨ob,k _ _ (.inl rfl) e⟩
 | xd fs=>obtain ⟨mA,⟨od,es,ep,e,c⟩,r⟩:=x;exact ⟨mA,⟨od,es,ep,k _ _ (.inl rfl) e,c⟩,r⟩
 | rng lo hi=>obtain ⟨t,u,v,e⟩:=x;exact ⟨t,u,v,k _ _ (.inl rfl) e⟩
 | frz ob u ih=>obtain ⟨e,q⟩:=x;exact ⟨k _ _ (.inl rfl) e,ih q⟩
 | tbl ps =>
   have e:h.get? a=some { cls := .none,data := .fields ps }:=x;show h'.get? a=some { cls := .none,data := .fields ps };exact k a _ (.inl rfl) e
 | met f y =>
   have e:h.get? a=some (KA (.ref f) (.ref y)):=x;show h'.get? a=some (KA (.ref f) (.ref y));exact k a _ (.inl rfl) e
 | ext φ => obtain ⟨p,⟨o,e⟩,st⟩:=x;exact ⟨st _ _ p fun o q=>k _ _ (.inl rfl) q,⟨o,k _ _ (.inl rfl) e⟩,st⟩
theorem HOk.lt (x:HOk P w H h) (e:H a=some o):a < h.objs.size:=(x a o e).lt
theorem HOk.fresh (x:HOk P w H h) (e:h.objs.size<=a):H a=none:=by
 cases q:H a with
 | none=>rfl
 | some u=>exact absurd (FY (x.lt q) e) (Gy _)
theorem HOk.kept (x:HOk P w H h) (k:∀ b u,h.get? b=some u->h'.get? b=some u):HOk P w H h':=fun a o e =>
 (x a o e).stay (fun b u _ q=>k b u q) (fun _ q=>q) fun _ _ q=>q
theorem HOk.laid (x:HOk P w H h) (k:∀ b u,h.get? b=some u->h'.get? b=some u) (z:h.objs.size<=a) (new:ObjOk P w (upd H a o) h' a o):HOk P w (upd H a o) h':=fun b u e=>by
 have j:=x.fresh z
 by_cases hb:b=a
 ·subst hb;rw [ax] at e;cases e;exact new
 ·rw [ai hb] at e;exact (x b u e).stay (fun c v _ q=>k c v q) (fun c q=>by rw [ai (aU q j)];exact q) fun c xs q=>by rw [ai (aU q j)];exact q
end
def Rd (H:Hp) (a:Addr) (u:HO):Prop:=H a=some u ∨ ∃ o,H a=some (.frz o u)
theorem Rd.of {H:Hp} {a:Addr} {u:HO} (h:H a=some u):Rd H a u := .inl h
theorem Rd.ok {P:FR} {w:G7} {H:Hp} {h:Heap} {a:Addr} {u:HO} (r:Rd H a u) (x:HOk P w H h):ObjOk P w H h a u:=by
 rcases r with r | ⟨o,r⟩
 ·exact x a u r
 ·obtain ⟨_,q⟩:=x a _ r;exact q
noncomputable def Mut:Option HO->Prop
 | some (.lst _)=>True
 | some (.dK _)=>True
 | some (.dT _)=>True
 | some (.set _ _)=>True
 | some (.ins _ _ _)=>True
 | some (.ext _)=>True
 | _=>False
section
variable {P:FR} {w:G7} {H:Hp} {h h':Heap} {x e:Addr} {o':HO}
theorem HOk.write (ok:HOk P w H h) (mu:Mut (H x)) (he:e=x∨H e=some (.own x)) (k:∀ b u,b≠e->h.get? b=some u->h'.get? b=some u) (F:∃ u,h'.get? e=some u)
 (new:ObjOk P w (upd H x o') h' x o'):HOk P w (upd H x o') h':=fun b u q=>by
 have nown:∀ c y,H c=some (.own y)->c≠x:=fun c y r z=>by subst z;rw [r] at mu;exact mu
 have ntup:∀ c xs,H c=some (.tup xs)->c≠x:=fun c xs r z=>by subst z;rw [r] at mu;exact mu
 by_cases hb:b=x
 ·subst hb;rw [ax] at q;cases q;exact new
 ·rw [ai hb] at q
  by_cases j:b=e
  ·have q':H b=some (.own x):=by
    rcases he with z | z
    ·exact absurd (j.trans z) hb
    ·rw [j];exact z
   rw [q] at q';cases q';obtain ⟨v,G⟩:=F;exact ⟨v,by rw [j];exact G⟩
  ·refine (ok b u q).stay (fun c v B r=>k c v ?_ r) (fun c r=>by rw [ai (nown c b r)];exact r) fun c xs r=>by rw [ai (ntup c xs r)];exact r
   rcases B with rfl | B
   ·exact j
   ·rintro rfl
    rcases he with z | z
    ·exact nown c b B z
    ·rw [B] at z;cases z;exact hb rfl
end
structure Un (fs ex:List Addr) (H H':Hp) (h h':Heap):Prop where
 keep:∀ b o,h.get? b=some o->H b=none->b∉fs->b∉ex->h'.get? b=some o
 slot:∀ b o,h.get? b=some o->H b=none->b∈fs->b∉ex -> ∃ sl,h'.get? b=some { o with slots:=sl }
 free:∀ b o,h.get? b=some o->H b=none->b∉ex->H' b=none
 there:∀ b o,h.get? b=some o->b∉ex -> ∃ o',h'.get? b=some o'
 tups:∀ b xs,H b=some (.tup xs)->H' b=some (.tup xs)
 frzs:∀ b o u,H b=some (.frz o u)->H' b=some (.frz o u)
 tbls:∀ b ps,H b=some (.tbl ps) -> ∃ more,H' b=some (.tbl (ps++more))
section
variable {fs fs' ex ex':List Addr} {H H1 H2:Hp} {h h1 h2 h':Heap} {a x e:Addr} {o:HO}
theorem Un.any (u:Un fs ex H H1 h h1) {b:Addr} {ob:Obj} (q:h.get? b=some ob) (n:H b=none) (hx:b∉ex):∃ sl,h1.get? b=some { ob with slots:=sl }:=by
 by_cases j:b∈fs
 ·exact u.slot b ob q n j hx
 ·exact ⟨ob.slots,u.keep b ob q n j hx⟩
theorem Un.trans (a:Un fs ex H H1 h h1) (b:Un fs ex H1 H2 h1 h2):Un fs ex H H2 h h2 where
 keep:=fun c ob q n z hx=>b.keep c ob (a.keep c ob q n z hx) (a.free c ob q n hx) z hx
 slot:=fun c ob q n z hx=>by
  obtain ⟨sl,j⟩:=a.slot c ob q n z hx;obtain ⟨sl',B⟩:=b.slot c _ j (a.free c ob q n hx) z hx;exact ⟨sl',B⟩
 free:=fun c ob q n hx=>by
  obtain ⟨o',j⟩:=a.there c ob q hx;exact b.free c o' j (a.free c ob q n hx) hx
 there:=fun c ob q hx=>by
  obtain ⟨o',j⟩:=a.there c ob q hx;exact b.there c o' j hx
 tups:=fun c xs q=>b.tups c xs (a.tups c xs q)
 frzs:=fun c ob xs q=>b.frzs c ob xs (a.frzs c ob xs q)
 tbls:=fun c ps q=>by
  obtain ⟨F,j⟩:=a.tbls c ps q;obtain ⟨G,B⟩:=b.tbls c _ j;exact ⟨F++G,by rw [B,MJ]⟩
theorem Un.kept (k:∀ b u,h.get? b=some u->h'.get? b=some u):Un fs ex H H h h' :=
 ⟨fun b ob q _ _ _=>k b ob q,fun b ob q _ _ _=>⟨ob.slots,k b ob q⟩,fun _ _ _ n _=>n,fun b ob q _=>⟨ob,k b ob q⟩,fun _ _ q=>q,fun _ _ _ q=>q,fun _ ps q=>⟨#[],by rw [q];simp⟩⟩
theorem Un.refl:Un fs ex H H h h:=Un.kept fun _ _ q=>q
theorem Un.laid (k:∀ b u,h.get? b=some u->h'.get? b=some u) (z:h.objs.size<=a) (j:H a=none):Un fs ex H (upd H a o) h h' where
 keep:=fun b u q _ _ _=>k b u q
 slot:=fun b u q _ _ _=>⟨u.slots,k b u q⟩
 free:=fun b u q n _=>by rw [ai (G0 (FY (Fz q) z))];exact n
 there:=fun b u q _=>⟨u,k b u q⟩
 tups:=fun b xs q=>by rw [ai (aU q j)];exact q
 frzs:=fun b u xs q=>by rw [ai (aU q j)];exact q
 tbls:=fun b ps q=>⟨#[],by rw [ai (aU q j),q];simp⟩
theorem Un.write (mu:Mut (H x)) (he:e=x∨H e=some (.own x)) (k:∀ b u,b≠e->h.get? b=some u->h'.get? b=some u) (B:∃ u,h'.get? e=some u):Un fs ex H (upd H x o) h h':=by
 have hx:∀ b,H b=none->b≠x:=fun b n z=>by subst z;rw [n] at mu;exact mu
 have F:∀ b,H b=none->b≠e:=fun b n z=>by
  subst z
  rcases he with r | r
  ·exact hx b n r
  ·rw [n] at r;cases r
 have hm:∀ b u,H b=some u -> ¬ Mut (some u)->b≠x:=fun b u q nm z=>by subst z;rw [q] at mu;exact nm mu
 refine ⟨fun b u q n _ _=>k b u (F b n) q,fun b u q n _ _=>⟨u.slots,k b u (F b n) q⟩,fun b u q n _=>by rw [ai (hx b n)];exact n,fun b u q _ => ?_,
  fun b xs q=>by rw [ai (hm b _ q fun z=>z)];exact q,fun b u xs q=>by rw [ai (hm b _ q fun z=>z)];exact q,fun b ps q=>⟨#[],by rw [ai (hm b _ q fun z=>z),q];simp⟩⟩
 by_cases j:b=e
 ·subst j;exact B
 ·exact ⟨u,k b u j q⟩
end
noncomputable def trk (h:Heap) (H:Hp):List Addr:=(Gc h.objs.size).filter fun a=>(H a).isSome
noncomputable def eK (h:Heap) (H:Hp):Heap:=PySem.W.hideAll h (trk h H)
theorem sZ (h:Heap) (H:Hp):(eK h H).objs.size=h.objs.size:=PySem.W.hideAll_size _ _
theorem vX {h:Heap} {H:Hp} {b:Addr} {o:Obj} (e:h.get? b=some o) (n:H b=none):(eK h H).get? b=some o :=
 PySem.W.hideAll_get _ e fun hm=>by
  have q:(H b).isSome=true:=(G3.mp hm).2;rw [n] at q;simp at q
theorem zb {h:Heap} {H:Hp} {b:Addr} {o:Obj} (e:(eK h H).get? b=some o):h.get? b=some o/\H b=none:=by
 have e':h.get? b=some o:=PySem.W.of_hideAll (trk h H) e;refine ⟨e', ?_⟩
 cases q:H b with
 | none=>rfl
 | some x =>
   have hm:b∈trk h H:=G3.mpr ⟨Kg.mpr (Fz e'),by simp [q]⟩
   have z:(eK h H).get? b=none:=PySem.W.hideAll_none (trk h H) hm;rw [z] at e;cases e
noncomputable def zc (g h:Heap) (L:Addr):List (Addr×Obj):=(Gc h.objs.size).filterMap fun a=>if a=L∨(g.get? a).isSome=true then none else (h.get? a).map fun o=>(a,o)
noncomputable def rest (g h:Heap) (L d:Addr):List (Addr×Obj):=(zc g h L).filter fun p=>decide (p.1≠d)
end
section
structure Mod (K:Frag) (mg:Str->Option e7) (base:Heap):Prop where
 kin:K.In base
 glob:base.Ns GB mg
 blt:∃ mb,base.Ns Oi mb /\ ∀ x:Str,x ≠ "__name__" -> mb x=Hy x
 nolimit:base.NoLimit
structure Cx where
 prog:FR
 w:G7
 K:Frag
 mg:Str->Option e7
 base:Heap
 A:Gg
 N:List Str
 s₀:h8
 H₀:Hp
 env:Env
 outer:List Env
 stack:List Env
 ex:List Addr
 fn:Str->Bool
 calm:Bool
 pn:List (Addr×Obj)
 xe:e7->h8->Prop
noncomputable def frs (l:List Env):List Addr:=l.filterMap (·.frame)
noncomputable abbrev Cx.fs (X:Cx):List Addr:=frs X.outer
def Vis (sc:Scope) (x:Str):Prop:=sc.names.lookup x=some .local∨sc.names.lookup x=some .cell∨sc.names.lookup x=some .free
def Loc (sc:Scope) (x:Str):Prop:=sc.names.lookup x=some .local∨sc.names.lookup x=some .cell
def DI (env:Env) (h:Heap) (m:Str->Option e7) (x:Str) (u:e7):Prop :=
 (env.kindOf x=some .local/\m x=some u)∨((env.kindOf x=some .cell∨env.kindOf x=some .free) /\ ∃ c,env.cells.lookup x=some c/\h.IsCell c (some u))
structure Cx.Ok (X:Cx):Prop where
 mod:Mod X.K X.mg X.base
 kind:X.env.scope.kind = .function
 glob:X.env.globals=GB
 blt:X.env.builtins=Oi
 above:X.s₀.heap.objs.size<=X.env.locals
 inj:∀ x y c,X.env.cells.lookup x=some c->X.env.cells.lookup y=some c->x=y
 has:∀ x,(X.env.kindOf x=some .cell∨X.env.kindOf x=some .free) -> ∃ c,X.env.cells.lookup x=some c
 cab:∀ x c,X.fn x=true->X.env.cells.lookup x=some c->X.s₀.heap.objs.size<=c
 hd:X.calm=true->X.A.handled=none
 frames:X.A.frames=some X.stack
 stk:X.stack=X.outer∨(X.stack=X.env::X.outer/\X.env.frame=some X.env.locals)
 exf:∀ b∈X.ex,b≠X.env.locals /\ ∀ x c,X.env.cells.lookup x=some c->c≠b
 bs:∀ b o,X.base.get? b=some o->X.s₀.heap.get? b=some o/\X.H₀ b=none
 bsz:X.base.objs.size<=X.s₀.heap.objs.size
 noex:∀ b o,X.base.get? b=some o->b∉X.ex
 exfs:∀ b∈X.ex,b∉X.fs
 funs:X.s₀.heap.FunFrames X.base X.outer
 frf:∀ b∈X.fs,X.H₀ b=none
structure Inv (X:Cx) (pins:List (Addr×Obj)) (σ:List (Option V)) (H:Hp) (s:h8):Prop where
 ok:X.Ok
 os:s.os=X.s₀.os
 bare:KD s.gens
 base:Un X.fs X.ex X.H₀ H X.s₀.heap s.heap
 loc:∃ m,s.heap.Ns X.env.locals m /\ ∀ (i:Nat) (x:Str) (v:V),X.N[i]? = some x -> σ[i]? = some (some v)->Vis X.env.scope x -> ∃ u,RelV v u/\DI X.env s.heap m x u
 cell:∀ x c,X.env.cells.lookup x=some c -> ∃ v,s.heap.IsCell c v
 free:H X.env.locals=none
 freeC:∀ x c,X.env.cells.lookup x=some c->H c=none
 pin:∀ p∈X.pn++pins,s.heap.get? p.1=some p.2/\H p.1=none/\p.1≠X.env.locals/\p.1∉X.fs /\ ∀ v,p.2.data ≠ .cell v
 hok:HOk X.prog X.w H s.heap
 len : σ.length=X.N.length
section
variable {X:Cx} {pins:List (Addr×Obj)} {σ:List (Option V)} {H H':Hp} {s:h8} {h':Heap}
theorem Cx.Ok.nofr (ok:X.Ok) {b:Addr} {o:Obj} (e:X.base.get? b=some o):b∉X.fs:=fun j=>by
 have:=(ok.funs.mem j).1;rw [e] at this;cases this
theorem Inv.bs (I:Inv X pins σ H s):∀ b o,X.base.get? b=some o->s.heap.get? b=some o/\H b=none:=fun b o e =>
 ⟨I.base.keep b o (I.ok.bs b o e).1 (I.ok.bs b o e).2 (I.ok.nofr e) (I.ok.noex b o e),I.base.free b o (I.ok.bs b o e).1 (I.ok.bs b o e).2 (I.ok.noex b o e)⟩
theorem Inv.bk (I:Inv X pins σ H s):∀ b o,X.base.get? b=some o->s.heap.get? b=some o:=fun b o e=>(I.bs b o e).1
theorem Inv.mod (I:Inv X pins σ H s):Mod X.K X.mg X.base:=I.ok.mod
theorem Inv.kIn (I:Inv X pins σ H s):X.K.In s.heap:=I.ok.mod.kin.keeps I.bk
theorem Inv.fr (I:Inv X pins σ H s):∃ m,Fr X.base X.env.locals s.heap m :=
 let ⟨m,j,_⟩:=I.loc
 ⟨m,j,I.bk,G8 I.ok.bsz I.ok.above⟩
theorem Inv.lt (I:Inv X pins σ H s):X.env.locals < s.heap.objs.size:=let ⟨_,j,_⟩:=I.loc;j.lt
theorem Inv.sz (I:Inv X pins σ H s):X.s₀.heap.objs.size<=s.heap.objs.size:=G8 I.ok.above (II I.lt)
theorem Inv.nofs (I:Inv X pins σ H s) {a:Addr} (h:s.heap.objs.size<=a):a∉X.fs:=fun j=>by
 obtain ⟨_,o,ho,_⟩:=I.ok.funs.mem j;exact absurd (FY (Fz ho) (G8 I.sz h)) (Gy _)
theorem Inv.cne (I:Inv X pins σ H s):∀ x c,X.env.cells.lookup x=some c->c≠X.env.locals:=fun x c e z=>by
 obtain ⟨v,o,ho,hd⟩:=I.cell x c e;obtain ⟨m,⟨o',es,ep,j,q,_⟩,_⟩:=I.loc;rw [z,j] at ho;cases ho;rw [q] at hd;cases hd
theorem Inv.funs (I:Inv X pins σ H s):s.heap.FunFrames X.base X.outer:=by
 have all:∀ (l:List Env),(∀ b∈frs l,b∈X.fs)->X.s₀.heap.FunFrames X.base l->s.heap.FunFrames X.base l:=by
  intro l
  induction l with
  | nil=>intro _ _;trivial
  | cons env r ih =>
    intro hs B;obtain ⟨F,⟨L,o,hf,G,ho,hd⟩,hr⟩:=B;have j:L∈X.fs:=hs L (by unfold frs;rw [K5,hf];exact Gv)
    obtain ⟨sl,e⟩:=I.base.slot L o ho (I.ok.frf L j) j fun z=>I.ok.exfs L z j;exact ⟨F,⟨L,_,hf,G,e,hd⟩,ih (fun b q=>hs b (by unfold frs;rw [K5,hf];exact FJ _ q)) hr⟩
 exact all X.outer (fun _ q=>q) I.ok.funs
theorem Inv.stack (I:Inv X pins σ H s):s.heap.FunFrames X.base X.stack:=by
 rcases I.ok.stk with e | ⟨e,hf⟩
 ·rw [e];exact I.funs
 ·rw [e];obtain ⟨m,j,_⟩:=I.loc;refine .cons (by rw [I.ok.kind];decide) hf j ?_ I.funs
  exact Heap.get?_none_of_le (G8 I.ok.bsz I.ok.above)
theorem Inv.stkSub (I:Inv X pins σ H s):∀ b∈frs X.stack,b∈X.env.locals::X.fs:=fun b j=>by
 rcases I.ok.stk with e | ⟨e,hf⟩
 ·rw [e] at j;exact FJ _ j
 ·rw [e] at j;unfold frs at j;rw [K5,hf] at j;exact j
theorem Inv.stkFree (I:Inv X pins σ H s):∀ b∈frs X.stack,H b=none:=fun b j=>by
 rcases Fx.mp (I.stkSub b j) with e | j
 ·rw [e];exact I.free
 ·obtain ⟨_,o,ho,_⟩:=I.ok.funs.mem j;exact I.base.free b o ho (I.ok.frf b j) fun z=>I.ok.exfs b z j
theorem Inv.step {g':Array GenState} {t':Nat} {d':Drawn} {ch:List Addr} (I:Inv X pins σ H s)
 (j:∀ b∈ch,(b∈X.ex∨X.s₀.heap.objs.size<=b)/\b≠X.env.locals/\(∀ x c,X.env.cells.lookup x=some c->c≠b) /\ ∀ p∈X.pn++pins,p.1≠b)
 (keep:∀ b o,b≠X.env.locals->b∉X.fs->b∉ch->s.heap.get? b=some o->H b=none->h'.get? b=some o)
 (slot:∀ b o,b≠X.env.locals->b∈X.fs->b∉ch->s.heap.get? b=some o->H b=none -> ∃ sl,h'.get? b=some { o with slots:=sl }) (free:∀ b o,b∉ch->s.heap.get? b=some o->H b=none->H' b=none)
 (there:∀ b o,b∉ch->s.heap.get? b=some o -> ∃ o',h'.get? b=some o')
 (tups:∀ b xs,H b=some (.tup xs)->H' b=some (.tup xs)) (frzs:∀ b o u,H b=some (.frz o u)->H' b=some (.frz o u)) (tbls:∀ b ps,H b=some (.tbl ps) -> ∃ more,H' b=some (.tbl (ps++more)))
 (ns:∀ m,s.heap.Ns X.env.locals m->h'.Ns X.env.locals m) (hok:HOk X.prog X.w H' h') (O:KD g') :
 Inv X pins σ H' { s with heap:=h',gens:=g',drawn:=d',toks:=t' }:=by
 have neL:∀ b o,X.s₀.heap.get? b=some o->b≠X.env.locals:=fun b o e=>G0 (FY (Fz e) I.ok.above);have neC:∀ b o,X.s₀.heap.get? b=some o->b∉X.ex->b∉ch:=fun b o e hx F=>by
  rcases (j b F).1 with z | z
  ·exact hx z
  ·exact absurd (FY (Fz e) z) (Gy _)
 have cellK:∀ x c,X.env.cells.lookup x=some c -> ∀ v,s.heap.IsCell c v->h'.IsCell c v:=fun x c e v ⟨o,ho,hd⟩=>by
  have nch:c∉ch:=fun z=>(j c z).2.2.1 x c e rfl
  by_cases J:c∈X.fs
  ·obtain ⟨sl,q⟩:=slot c o (I.cne x c e) J nch ho (I.freeC x c e);exact ⟨_,q,hd⟩
  ·exact ⟨o,keep c o (I.cne x c e) J nch ho (I.freeC x c e),hd⟩
 refine ⟨I.ok,I.os,O,⟨fun b o e n F hx => ?_,fun b o e n F hx => ?_,fun b o e n hx => ?_,fun b o e hx => ?_,fun b xs e=>tups b xs (I.base.tups b xs e),fun b o xs e=>frzs b o xs (I.base.frzs b o xs e),fun b ps e => ?_⟩, ?_,fun x c e => ?_, ?_,fun x c e => ?_,fun p L => ?_,hok,I.len⟩
 ·exact keep b o (neL b o e) F (neC b o e hx) (I.base.keep b o e n F hx) (I.base.free b o e n hx)
 ·obtain ⟨sl,B⟩:=I.base.slot b o e n F hx;obtain ⟨sl',G⟩:=slot b _ (neL b o e) F (neC b o e hx) B (I.base.free b o e n hx);exact ⟨sl',G⟩
 ·obtain ⟨o',B⟩:=I.base.there b o e hx;exact free b o' (neC b o e hx) B (I.base.free b o e n hx)
 ·obtain ⟨o',B⟩:=I.base.there b o e hx;exact there b o' (neC b o e hx) B
 ·obtain ⟨U,B⟩:=I.base.tbls b ps e;obtain ⟨Y,G⟩:=tbls b _ B;exact ⟨U++Y,by rw [G,MJ]⟩
 ·obtain ⟨m,Z,hl⟩:=I.loc;refine ⟨m,ns m Z,fun i x v B G e3 => ?_⟩;obtain ⟨u,r,l⟩:=hl i x v B G e3;refine ⟨u,r, ?_⟩
  rcases l with l | ⟨k,c,e,z⟩
  ·exact .inl l
  ·exact .inr ⟨k,c,e,cellK x c e _ z⟩
 ·obtain ⟨v,z⟩:=I.cell x c e;exact ⟨v,cellK x c e v z⟩
 ·obtain ⟨m,⟨o,_,_,ho,_⟩,_⟩:=I.loc;exact free _ o (fun z=>(j _ z).2.1 rfl) ho I.free
 ·obtain ⟨v,o,ho,hd⟩:=I.cell x c e;exact free c o (fun z=>(j c z).2.2.1 x c e rfl) ho (I.freeC x c e)
 ·obtain ⟨e,n,ne,nf,d⟩:=I.pin p L;have nch:p.1∉ch:=fun z=>(j p.1 z).2.2.2 p L rfl;exact ⟨keep p.1 p.2 ne nf nch e n,free p.1 p.2 nch e n,ne,nf,d⟩
theorem Inv.un {t':Nat} (I:Inv X pins σ H s) (u:Un X.fs [] H H' s.heap h') (hok:HOk X.prog X.w H' h'):Inv X pins σ H' { s with heap:=h',toks:=t' }:=by
 obtain ⟨m,⟨o,es,ep,ho,r⟩,_⟩:=id I.loc;obtain ⟨sl,B⟩:=u.any ho I.free (by simp)
 exact I.step (g':=s.gens) (d':=s.drawn) (ch := []) (fun _ z=>nomatch z) (fun b o _ q _ e n=>u.keep b o e n q (by simp)) (fun b o _ q _ e n=>u.slot b o e n q (by simp)) (fun b o _ e n=>u.free b o e n (by simp)) (fun b o _ e=>u.there b o e (by simp)) u.tups u.frzs u.tbls (fun m' hm=>by
  obtain ⟨o',es',ep',j,r'⟩:=hm;rw [ho] at j;cases j;exact ⟨_,es',ep',B,r'⟩) hok I.bare
theorem Inv.call {g':Array GenState} {t':Nat} {d':Drawn} {ch:List Addr} (I:Inv X pins σ H s) (u:Un (frs X.stack) ch H H' s.heap h') (hok:HOk X.prog X.w H' h') (G:KD g')
 (q:∀ b∈ch,(b∈X.ex∨X.s₀.heap.objs.size<=b)/\b≠X.env.locals/\(∀ x c,X.env.cells.lookup x=some c->c≠b) /\ ∀ p∈X.pn++pins,p.1≠b) :
 Inv X pins σ H' { s with heap:=h',gens:=g',drawn:=d',toks:=t' }:=by
 obtain ⟨m,⟨o,es,ep,ho,r⟩,_⟩:=id I.loc;obtain ⟨sl,F⟩:=u.any ho I.free fun z=>(q _ z).2.1 rfl;exact I.step (ch:=ch) q (fun b o F J j e n=>u.keep b o e n (fun z=>(Fx.mp (I.stkSub b z)).elim F J) j) (fun b o _ _ j e n=>u.any e n j) (fun b o j e n=>u.free b o e n j) (fun b o j e=>u.there b o e j) u.tups u.frzs u.tbls (fun m' hm=>by
  obtain ⟨o',es',ep',B,r'⟩:=hm;rw [ho] at B;cases B;exact ⟨_,es',ep',F,r'⟩) hok G
theorem Inv.turned {t':Nat} {it:Addr} (I:Inv X pins σ H s) (k:∀ b o,b≠it->s.heap.get? b=some o->h'.get? b=some o) (F:H it=none) (B:it≠X.env.locals)
 (h1:it∈X.ex∨X.s₀.heap.objs.size<=it) (h2:∀ x c,X.env.cells.lookup x=some c->c≠it) (G:∀ p∈X.pn++pins,p.1≠it):Inv X pins σ H { s with heap:=h',toks:=t' }:=by
 have nit:∀ b u,H b=some u->b≠it:=fun b u e z=>by rw [z,F] at e;cases e
 refine I.step (g':=s.gens) (d':=s.drawn) (ch := [it]) (fun b J => ?_) (fun b o _ _ j e _=>k b o (fun z=>j (by simp [z])) e) (fun b o _ _ j e _=>⟨o.slots,k b o (fun z=>j (by simp [z])) e⟩) (fun _ _ _ _ n=>n)
  (fun b o j e=>⟨o,k b o (fun z=>j (by simp [z])) e⟩) (fun _ _ e=>e) (fun _ _ _ e=>e) (fun b ps e=>⟨#[],by rw [e];simp⟩) (fun m hm => ?_) (fun b u e => ?_) I.bare
 ·have e:b=it:=by simpa using J
  subst e;exact ⟨h1,B,h2,G⟩
 ·obtain ⟨o,es,ep,ho,r⟩:=hm;exact ⟨o,es,ep,k _ o (Ne.symm B) ho,r⟩
 ·refine (I.hok b u e).stay (fun c v j q=>k c v ?_ q) (fun _ q=>q) fun _ _ q=>q
  rcases j with z | z
  ·rw [z];exact nit b u e
  ·exact nit c _ z
theorem Inv.tok (I:Inv X pins σ H s) (t:Nat):Inv X pins σ H { s with toks:=t }:=I.un (h':=s.heap) (t':=t) Un.refl I.hok
theorem Inv.kept {t':Nat} (I:Inv X pins σ H s) (k:∀ b u,s.heap.get? b=some u->h'.get? b=some u):Inv X pins σ H { s with heap:=h',toks:=t' }:=I.un (Un.kept k) (I.hok.kept k)
theorem Inv.laid {a:Addr} {o:HO} {t':Nat} (I:Inv X pins σ H s) (k:∀ b u,s.heap.get? b=some u->h'.get? b=some u) (j:s.heap.objs.size<=a) (new:ObjOk X.prog X.w (upd H a o) h' a o) :
 Inv X pins σ (upd H a o) { s with heap:=h',toks:=t' }:=I.un (Un.laid k j (I.hok.fresh j)) (I.hok.laid k j new)
theorem Inv.write {x e:Addr} {o:HO} {t':Nat} (I:Inv X pins σ H s) (mu:Mut (H x)) (he:e=x∨H e=some (.own x)) (k:∀ b u,b≠e->s.heap.get? b=some u->h'.get? b=some u) (j:∃ u,h'.get? e=some u)
 (new:ObjOk X.prog X.w (upd H x o) h' x o):Inv X pins σ (upd H x o) { s with heap:=h',toks:=t' }:=I.un (Un.write mu he k j) (I.hok.write mu he k j new)
theorem Inv.pins_of {pins':List (Addr×Obj)} (I:Inv X pins σ H s) (h:∀ p∈pins',s.heap.get? p.1=some p.2/\H p.1=none/\p.1≠X.env.locals/\p.1∉X.fs /\ ∀ v,p.2.data ≠ .cell v):Inv X pins' σ H s :=
 ⟨I.ok,I.os,I.bare,I.base,I.loc,I.cell,I.free,I.freeC,fun p j=>(FC.mp j).elim (fun z=>I.pin p (G4 _ z)) (h p),I.hok,I.len⟩
theorem mm {N:List Str} (q:N.Nodup) {i j:Nat} {x:Str} (a:N[i]? = some x) (b:N[j]? = some x):i=j:=by
 obtain ⟨h1,z⟩:=FN.mp a;obtain ⟨h2,B⟩:=FN.mp b;exact (List.getElem_inj q).mp (z.trans B.symm)
theorem t6 {M:JP} {A:Gg} {E:e7->h8->Prop} {i:Nat} {x:Str} {v:V} {u:e7} {Q:Unit->h8->Prop} (I:Inv X pins σ H s) (hN:X.N.Nodup) (hi:X.N[i]? = some x) (hx:Loc X.env.scope x) (r:RelV v u)
 (h:∀ s',Inv X pins (σ.set i (some v)) H s'->(∃ a,GZ a s.heap s'.heap/\(a=X.env.locals∨X.env.cells.lookup x=some a))->Q () s') (hf:X.fn x=true∨X.env.scope.names.lookup x=some .local:=by first | exact .inl rfl | exact .inr rfl | assumption):FG M A (storeName X.env x u) Q E s:=by
 obtain ⟨m,hn,hl⟩:=id I.loc;have Z:(X.env.scope.kind == .class || (X.env.scope.kind == .module&&X.env.locals != X.env.globals))=false:=by rw [I.ok.kind];rfl
 have Ef:i < σ.length:=by rw [I.len];exact (FN.mp hi).1
 have cne:=I.cne;have tracked:∀ {a:Addr} {h':Heap},(∃ o,s.heap.get? a=some o/\H a=none)->GZ a s.heap h'->HOk X.prog X.w H h':=fun {a h'} ha hs b ob e=>by
  obtain ⟨_,_,G⟩:=ha;refine (I.hok b ob e).stay (fun c w' F q=>(hs.2 c ?_).trans q) (fun _ q=>q) fun _ _ q=>q;rintro rfl
  rcases F with rfl | F
  ·rw [G] at e;cases e
  ·rw [G] at F;cases F
 rcases hx with L | L
 ·refine wpAny_storeName_local L hn (fun h' Ek hs => ?_) Z;obtain ⟨oL,_,_,El,_⟩:=id hn;refine h _ ⟨I.ok,I.os,I.bare,⟨fun b o e n O hx => ?_,fun b o e n O hx => ?_,I.base.free,fun b o e hx => ?_,I.base.tups,I.base.frzs,I.base.tbls⟩,⟨_,Ek,fun j y v' B J e3 => ?_⟩,fun y c e => ?_,I.free,I.freeC,fun p hp => ?_,tracked ⟨oL,El,I.free⟩ hs,by simpa using I.len⟩ ⟨_,hs, .inl rfl⟩
  ·exact (hs.2 b (G0 (FY (Fz e) I.ok.above))).trans (I.base.keep b o e n O hx)
  ·obtain ⟨sl,B⟩:=I.base.slot b o e n O hx;exact ⟨sl,(hs.2 b (G0 (FY (Fz e) I.ok.above))).trans B⟩
  ·obtain ⟨o',B⟩:=I.base.there b o e hx;exact ⟨o',(hs.2 b (G0 (FY (Fz e) I.ok.above))).trans B⟩
  ·by_cases U:j=i
   ·subst U;rw [hi] at B;cases B;rw [Ig Ef] at J
    cases J
    exact ⟨u,r, .inl ⟨L,by simp⟩⟩
   ·rw [JQ (Ne.symm U)] at J;obtain ⟨u',r',q⟩:=hl j y v' B J e3;refine ⟨u',r', ?_⟩
    rcases q with ⟨k,e⟩ | ⟨k,c,e,z⟩
    ·refine .inl ⟨k, ?_⟩;have:y≠x:=fun e=>U (mm hN B (e ▸ hi));simp [this,e]
    ·exact .inr ⟨k,c,e,z.sameBut hs (cne y c e)⟩
  ·obtain ⟨w',z⟩:=I.cell y c e;exact ⟨w',z.sameBut hs (cne y c e)⟩
  ·obtain ⟨e,n,ne,nf,d⟩:=I.pin p hp;exact ⟨(hs.2 p.1 ne).trans e,n,ne,nf,d⟩
 ·have Y:X.fn x=true:=by
   rcases hf with z | z
   ·exact z
   ·rw [z] at L;cases L
  obtain ⟨c,F⟩:=I.ok.has x (.inl L);obtain ⟨w',z⟩:=I.cell x c F;refine wpAny_storeName_cell I.ok.kind L F z (fun h' Eg hs => ?_);obtain ⟨oc,Eh,Ei⟩:=id z;refine h { s with heap:=h' } ⟨I.ok,I.os,I.bare,⟨fun b o e n O hx => ?_,fun b o e n O hx => ?_,I.base.free,fun b o e hx => ?_,I.base.tups,I.base.frzs,I.base.tbls⟩,⟨m,hn.sameBut hs (Ne.symm (cne x c F)),fun j y v' B J e3 => ?_⟩,fun y c' e => ?_,I.free,I.freeC,fun p hp => ?_,tracked ⟨oc,Eh,I.freeC x c F⟩ hs,by simpa using I.len⟩ ⟨c,hs, .inr F⟩
  ·exact (hs.2 b (G0 (FY (Fz e) (I.ok.cab x c Y F)))).trans (I.base.keep b o e n O hx)
  ·obtain ⟨sl,B⟩:=I.base.slot b o e n O hx;exact ⟨sl,(hs.2 b (G0 (FY (Fz e) (I.ok.cab x c Y F)))).trans B⟩
  ·obtain ⟨o',B⟩:=I.base.there b o e hx;exact ⟨o',(hs.2 b (G0 (FY (Fz e) (I.ok.cab x c Y F)))).trans B⟩
  ·by_cases U:j=i
   ·subst U;rw [hi] at B;cases B;rw [Ig Ef] at J
    cases J
    exact ⟨u,r, .inr ⟨.inl L,c,F,Eg⟩⟩
   ·rw [JQ (Ne.symm U)] at J;obtain ⟨u',r',q⟩:=hl j y v' B J e3;refine ⟨u',r', ?_⟩
    rcases q with q | ⟨k,c',e,z'⟩
    ·exact .inl q
    ·refine .inr ⟨k,c',e,z'.sameBut hs ?_⟩;rintro rfl;exact U (mm hN B (I.ok.inj _ _ _ e F ▸ hi))
  ·by_cases Ej:c'=c
   ·subst Ej;exact ⟨_,Eg⟩
   ·obtain ⟨w2,z2⟩:=I.cell y c' e;exact ⟨w2,z2.sameBut hs Ej⟩
  ·obtain ⟨e,n,ne,nf,d⟩:=I.pin p hp;refine ⟨(hs.2 p.1 ?_).trans e,n,ne,nf,d⟩;intro q;rw [q,Eh] at e;have q':oc=p.2:=HB.inj e;exact d w' (by rw [<- q'];exact Ei)
theorem di {M:JP} {A:Gg} {E:e7->h8->Prop} {i:Nat} {x:Str} {v:V} {u:e7} {Q:Unit->h8->Prop} (I:Inv X pins σ H s) (j:X.N.Nodup) (hi:X.N[i]? = some x) (hx:Loc X.env.scope x) (r:RelV v u)
 (h:∀ s',Inv X pins (σ.set i (some v)) H s'->Q () s') (hf:X.fn x=true∨X.env.scope.names.lookup x=some .local:=by first | exact .inl rfl | exact .inr rfl | assumption):FG M A (storeName X.env x u) Q E s :=
 t6 I j hi hx r (fun s' I' _=>h s' I') hf
theorem Inv.call' {s':h8} {ch:List Addr} (I:Inv X pins σ H s) (ho:s'.os=s.os) (u:Un (frs X.stack) ch H H' s.heap s'.heap) (hok:HOk X.prog X.w H' s'.heap) (q:KD s'.gens)
 (j:∀ b∈ch,(b∈X.ex∨X.s₀.heap.objs.size<=b)/\b≠X.env.locals/\(∀ x c,X.env.cells.lookup x=some c->c≠b) /\ ∀ p∈X.pn++pins,p.1≠b):Inv X pins σ H' s':=by
 obtain ⟨h',g',d',t',o'⟩:=s';have e:o'=s.os:=ho;subst e;exact I.call (g':=g') (t':=t') (d':=d') u hok q j
end
noncomputable abbrev XK:=e7->Option Addr->Hp->Prop
noncomputable abbrev St:=List (Option V)
noncomputable abbrev VK:=V->Hp->Prop
noncomputable abbrev TE:=St->Hp->VK->Prop
noncomputable abbrev TT:=St->Hp->(Bool->Hp->Prop)->Prop
noncomputable abbrev TA:=St->Hp->(List V->Hp->Prop)->Prop
structure bn where
 nx:St->Hp->Prop
 rt:VK
 bk:St->Hp->Prop:=fun _ _=>False
 ct:St->Hp->Prop:=fun _ _=>False
noncomputable abbrev TS:=bn->St->Hp->Prop
def EP (X:Cx) (pins:List (Addr×Obj)) (σ:St) (Q:VK) (u:e7) (s':h8):Prop := ∃ v H',Inv X pins σ H' s'/\RelV v u/\Q v H'
def TP (X:Cx) (pins:List (Addr×Obj)) (σ:St) (Q:Bool->Hp->Prop) (b:Bool) (s':h8):Prop := ∃ H',Inv X pins σ H' s'/\Q b H'
def AP (X:Cx) (pins:List (Addr×Obj)) (σ:St) (Q:List V->Hp->Prop) (us:List e7) (s':h8):Prop := ∃ vs H',Inv X pins σ H' s'/\Vals vs us/\Q vs H'
def SP (X:Cx) (pins:List (Addr×Obj)) (D:bn) (f:Flow) (s':h8):Prop :=
 match f with
 | .next => ∃ σ' H',Inv X pins σ' H' s'/\D.nx σ' H'
 | .brk => ∃ σ' H',Inv X pins σ' H' s'/\D.bk σ' H'
 | .cont => ∃ σ' H',Inv X pins σ' H' s'/\D.ct σ' H'
 | .ret u => ∃ v σ' H',Inv X pins σ' H' s'/\RelV v u/\D.rt v H'
def PE (X:Cx) (e:Expr) (t:TE):Prop :=
 ∀ (pins:List (Addr×Obj)) (s:h8) (σ:St) (H:Hp) (Q:VK),Inv X pins σ H s->t σ H Q->FG (model X.prog X.w) X.A (eval e X.env) (EP X pins σ Q) X.xe s
def PT (X:Cx) (e:Expr) (t:TT):Prop :=
 ∀ (pins:List (Addr×Obj)) (s:h8) (σ:St) (H:Hp) (Q:Bool->Hp->Prop),Inv X pins σ H s->t σ H Q->FG (model X.prog X.w) X.A (isTrue e X.env (eval e X.env)) (TP X pins σ Q) X.xe s
def PW (X:Cx) (e:Expr) (t:TT):Prop :=
 ∀ (whole:Sem e7) (pins:List (Addr×Obj)) (s:h8) (σ:St) (H:Hp) (Q:Bool->Hp->Prop),Inv X pins σ H s->t σ H Q->FG (model X.prog X.w) X.A (isTrue e X.env whole) (TP X pins σ Q) X.xe s
theorem PW.pt {X:Cx} {e:Expr} {t:TT} (h:PW X e t):PT X e t:=h _
def PA (X:Cx) (es:List Expr) (t:TA):Prop :=
 ∀ (pos:Pos) (pins:List (Addr×Obj)) (s:h8) (σ:St) (H:Hp) (Q:List V->Hp->Prop),Inv X pins σ H s->t σ H Q->FG (model X.prog X.w) X.A (spliced (IC pos (FP es X.env))) (AP X pins σ Q) X.xe s
def PS (X:Cx) (st:Stmt) (t:TS):Prop :=
 ∀ (pins:List (Addr×Obj)) (s:h8) (σ:St) (H:Hp) (D:bn),Inv X pins σ H s->t D σ H->FG (model X.prog X.w) X.A (exec st X.env) (SP X pins D) X.xe s
def PSs (X:Cx) (st:List Stmt) (t:TS):Prop :=
 ∀ (pins:List (Addr×Obj)) (s:h8) (σ:St) (H:Hp) (D:bn),Inv X pins σ H s->t D σ H->FG (model X.prog X.w) X.A (execs st X.env) (SP X pins D) X.xe s
theorem thn {α:Type} {t:Sem α} {Q Q' : α -> h8->Prop} {M:JP} {A:Gg} {E:e7->h8->Prop} {s:h8} (h:FG M A t Q E s) (j:∀ a s,Q a s->Q' a s):FG M A t Q' E s:=H8 h j fun _ _ x=>x
end
section
section
variable {X:Cx}
noncomputable def DJ (i:Nat):TE:=fun σ H Q => ∃ v, σ[i]? = some (some v)/\Q v H
noncomputable def tC (v:V):TE:=fun _ H Q=>Q v H
theorem AV {i:Nat} {x:Str} {pos:Pos} (F:X.N[i]? = some x) (G:Vis X.env.scope x) (hd:(x==("__debug__":Str))=false:=by decide) (z:(x==("__classdict__":Str))=false:=by decide):PE X (.Name x pos) (DJ i):=by
 intro pins s σ H Q I h;obtain ⟨v,e,h⟩:=h;obtain ⟨m,J,L⟩:=I.loc;obtain ⟨u,r,l⟩:=L i x v F e G;have fin:EP X pins σ Q u s:=⟨v,H,I,r,h⟩
 rcases l with ⟨q,hm⟩ | ⟨q,c,B,j⟩
 ·exact Oj (LG I.ok.kind q J hm fin) hd
 ·rcases q with q | q
  ·exact Oj (Mh I.ok.kind q B j fin) hd
  ·exact Oj (wpAny_loadName_free I.ok.kind q B j fin z) hd
theorem AW {i j pos}:PE X (.Constant (.int i) j pos) (tC (.int i)):=fun _ _ _ H _ I h=>wpAny_Constant_int ⟨.int i,H,I.tok _,⟨_,rfl⟩,h⟩
theorem CD {b j pos}:PE X (.Constant (.bool b) j pos) (tC (.bl b)):=fun _ _ _ H _ I h=>Constant_bool ⟨.bl b,H,I,rfl,h⟩
theorem AX {j pos}:PE X (.Constant .none j pos) (tC .non):=fun _ _ _ H _ I h=>Constant_none ⟨.non,H,I,rfl,h⟩
theorem AY {x j pos}:PE X (.Constant (.str x) j pos) (tC (.str x)):=fun _ _ _ H _ I h=>Calls.Constant_str ⟨.str x,H,I.tok _,⟨_,rfl⟩,h⟩
def Gl (X:Cx) (x:Str):Prop:=X.env.kindOf x=some .globalImplicit
theorem pM {E:e7->h8->Prop} {pins:List (Addr×Obj)} {s:h8} {σ:St} {H:Hp} {x:Str} {u:e7} {pos:Pos} {Q:e7->h8->Prop} (I:Inv X pins σ H s) (j:Gl X x) (hm:X.mg x=some u) (h:Q u s)
 (hd:(x==("__debug__":Str))=false:=by decide):FG (model X.prog X.w) X.A (eval (.Name x pos) X.env) Q E s :=
 Kh I.ok.kind j (Calls.loadGlobal_global (by rw [I.ok.glob];exact I.mod.glob.keeps I.bk) hm h) hd
theorem cA {E:e7->h8->Prop} {pins:List (Addr×Obj)} {s:h8} {σ:St} {H:Hp} {x:Str} {u:e7} {pos:Pos} {Q:e7->h8->Prop} (I:Inv X pins σ H s) (j:Gl X x) (hm:X.mg x=none) (q:Hy x=some u) (h:Q u s)
 (z:x ≠ "__name__" := by decide) (hd:(x==("__debug__":Str))=false:=by decide):FG (model X.prog X.w) X.A (eval (.Name x pos) X.env) Q E s:=by
 obtain ⟨mb,h1,h2⟩:=I.mod.blt;exact Kh I.ok.kind j (Calls.loadGlobal_builtin (by rw [I.ok.glob];exact I.mod.glob.keeps I.bk) hm (by rw [I.ok.blt];exact h1.keeps I.bk) ((h2 x z).trans q) h) hd
theorem jy {x:Str} {v:V} {u:e7} {pos:Pos} (j:Gl X x) (hm:X.mg x=none) (q:Hy x=some u) (r:RelV v u) (z:x ≠ "__name__" := by decide) (hd:(x==("__debug__":Str))=false:=by decide):PE X (.Name x pos) (tC v) :=
 fun _ _ _ H _ I h=>cA I j hm q ⟨v,H,I,r,h⟩ z hd
variable {a b:Expr} {ta tb:TE} {pos:Pos}
variable {tA tB':TT} {rest:List Expr}
noncomputable def DK (t u:TT):TT:=fun σ H Q=>t σ H fun c H1=>if c=true then u σ H1 Q else Q false H1
noncomputable def tOr (t u:TT):TT:=fun σ H Q=>t σ H fun c H1=>if c=true then Q true H1 else u σ H1 Q
noncomputable def DL (t:TT):TT:=fun σ H Q=>t σ H fun c H1=>Q (!c) H1
theorem zd (j:PT X a tA):PW X (.BoolOp .And [a] pos) tA:=by
 intro wh pins s σ H Q I h;refine isTrue_and (thn (j pins s σ H Q I h) fun c s1 e => ?_)
 cases c with
 | true=>exact isTrue_and_nil e
 | false=>exact e
theorem AZ (j:PT X a tA):PW X (.BoolOp .Or [a] pos) tA:=by
 intro wh pins s σ H Q I h;refine isTrue_or (thn (j pins s σ H Q I h) fun c s1 e => ?_)
 cases c with
 | false=>exact isTrue_or_nil e
 | true=>exact e
theorem B0 (z:PT X a tA) (B:PW X (.BoolOp .And (b::rest) pos) tB'):PW X (.BoolOp .And (a::b::rest) pos) (DK tA tB'):=by
 intro wh pins s σ H Q I h;refine isTrue_and (thn (z pins s σ H _ I h) fun c s1 ⟨H1,j,q⟩ => ?_)
 cases c with
 | true=>exact B wh pins s1 σ H1 Q j q
 | false=>exact ⟨H1,j,q⟩
theorem CF (z:PT X a tA) (B:PW X (.BoolOp .Or (b::rest) pos) tB'):PW X (.BoolOp .Or (a::b::rest) pos) (tOr tA tB'):=by
 intro wh pins s σ H Q I h;refine isTrue_or (thn (z pins s σ H _ I h) fun c s1 ⟨H1,j,q⟩ => ?_)
 cases c with
 | true=>exact ⟨H1,j,q⟩
 | false=>exact B wh pins s1 σ H1 Q j q
theorem B1 (j:PT X a tA):PT X (.UnaryOp .Not a pos) (DL tA):=by
 intro pins s σ H Q I h;exact isTrue_not (j pins s σ H (fun c H1=>Q (!c) H1) I h)
noncomputable def CG (ta tb:TE):TE:=fun σ H Q=>ta σ H fun x H1 => ∃ c,x = .bl c/\if c=true then tb σ H1 Q else Q (.bl false) H1
noncomputable def DM (ta tb:TE):TE:=fun σ H Q=>ta σ H fun x H1 => ∃ c,x = .bl c/\if c=true then Q (.bl true) H1 else tb σ H1 Q
noncomputable def CH (ta:TE):TE:=fun σ H Q=>ta σ H fun x H1 => ∃ c,x = .bl c/\Q (.bl (!c)) H1
theorem B2 {op} {t:TE} (h:PE X a t):PE X (.BoolOp op [a] pos) t:=fun pins s σ H Q I hw=>BoolOp_one (h pins s σ H Q I hw)
theorem B3 (z:PE X a ta) (B:PE X (.BoolOp .And (b::rest) pos) tb):PE X (.BoolOp .And (a::b::rest) pos) (CG ta tb):=by
 intro pins s σ H Q I h;refine BoolOp_and (thn (z pins s σ H _ I h) fun v s1 ⟨x,H1,q,r1,j⟩ => ?_);obtain ⟨c,rfl,j⟩:=j
 cases r1
 refine HN ?_
 cases c with
 | true=>exact B pins s1 σ H1 Q q j
 | false=>exact ⟨.bl false,H1,q,rfl,j⟩
theorem CI (z:PE X a ta) (B:PE X (.BoolOp .Or (b::rest) pos) tb):PE X (.BoolOp .Or (a::b::rest) pos) (DM ta tb):=by
 intro pins s σ H Q I h;refine BoolOp_or (thn (z pins s σ H _ I h) fun v s1 ⟨x,H1,q,r1,j⟩ => ?_);obtain ⟨c,rfl,j⟩:=j
 cases r1
 refine HN ?_
 cases c with
 | false=>exact B pins s1 σ H1 Q q j
 | true=>exact ⟨.bl true,H1,q,rfl,j⟩
theorem B4 (q:PE X a ta):PE X (.UnaryOp .Not a pos) (CH ta):=by
 intro pins s σ H Q I h;refine UnaryOp_ (thn (q pins s σ H _ I h) fun v s1 ⟨x,H1,z,r1,j⟩ => ?_);obtain ⟨c,rfl,j⟩:=j
 cases r1
 exact not_of (HN ⟨.bl (!c),H1,z,rfl,j⟩)
noncomputable def tIf (t:TT) (ta tb:TE):TE:=fun σ H Q=>t σ H fun c H1=>if c=true then ta σ H1 Q else tb σ H1 Q
theorem vY {c:Expr} (z:PT X c tA) (B:PE X a ta) (F:PE X b tb):PE X (.IfExp c a b pos) (tIf tA ta tb):=by
 intro pins s σ H Q I h;refine wpAny_IfExp (thn (z pins s σ H _ I h) fun d s1 ⟨H1,j,q⟩ => ?_)
 cases d with
 | true=>exact B pins s1 σ H1 Q j q
 | false=>exact F pins s1 σ H1 Q j q
end
end
section
def SqL (K:Frag) (H:Hp) (a:Addr) (xs:List V):Prop :=
 Rd H a (.lst xs) ∨
  ∃ (o:Obj) (its:Array e7) (n:Nat),K.lookup a=some o/\o.cls = .type "list" /\ o.dict=none/\o.data = .seq its n/\its.size<=D0/\Vals xs its.toList
def SqT (K:Frag) (H:Hp) (a:Addr) (xs:List V):Prop :=
 Rd H a (.tup xs) ∨
  ∃ (o:Obj) (its:Array e7) (n:Nat),K.lookup a=some o/\o.cls = .type "tuple" /\ o.data = .seq its n/\its.size<=D0/\Vals xs its.toList
noncomputable def DN:e7->Option V
 | .none=>some .non
 | .bool b=>some (.bl b)
 | .int i _=>some (.int i)
 | .str x _=>some (.str x)
 | .bytes b _=>some (.byt b)
 | .float b _=>some (.flt b)
 | .ref a=>some (.ref a)
 | .type n=>some (.ty n)
 | _=>none
theorem RelV.abs {x:V} {u:e7} (r:RelV x u):DN u=some x:=by
 cases x with
 | non=>cases r;rfl
 | bl _=>cases r;rfl
 | int _=>obtain ⟨t,rfl⟩:=r;rfl
 | str _=>obtain ⟨t,rfl⟩:=r;rfl
 | byt _=>obtain ⟨t,rfl⟩:=r;rfl
 | flt _=>obtain ⟨t,rfl⟩:=r;rfl
 | ref _=>cases r;rfl
 | ty _=>cases r;rfl
theorem RelV.inj {x y:V} {u:e7} (r:RelV x u) (q:RelV y u):x=y:=HB.inj (r.abs.symm.trans q.abs)
theorem Vals.inj:∀ {xs ys:List V} {us:List e7},Vals xs us->Vals ys us->xs=ys
 | _,_,_, .nil, .nil=>rfl
 | _,_,_, .cons r t, .cons r' t'=>by rw [r.inj r',Vals.inj t t']
section
variable {X:Cx} {pins:List (Addr×Obj)} {σ:St} {H:Hp} {s:h8} {a:Addr} {xs ys:List V}
theorem SqL.of {K:Frag} (h:H a=some (.lst xs)):SqL K H a xs := .inl (.inl h)
theorem SqT.of {K:Frag} (h:H a=some (.tup xs)):SqT K H a xs := .inl (.inl h)
theorem Inv.list (I:Inv X pins σ H s) (h:SqL X.K H a xs):∃ its:List e7,Vals xs its/\PlainL s.heap a its.toArray/\xs.length<=D0:=by
 rcases h with h | ⟨o,its,n,j,q,hd,hs,B,r⟩
 ·obtain ⟨z,its,n,r,e⟩:=h.ok I.hok;exact ⟨its,r,⟨_,n,e,rfl,rfl,rfl⟩,z⟩
 ·refine ⟨its.toList,r,⟨o,n,I.kIn a o j,q,hd,by simpa using hs⟩, ?_⟩
  have e:=r.length;simp only [GC] at e;omega
theorem Inv.tuple (I:Inv X pins σ H s) (h:SqT X.K H a xs):∃ its:List e7,Vals xs its/\IsTup s.heap a its.toArray/\xs.length<=D0:=by
 rcases h with h | ⟨o,its,n,j,q,hs,B,r⟩
 ·obtain ⟨z,its,r,p⟩:=h.ok I.hok;exact ⟨its,r,p,z⟩
 ·refine ⟨its.toList,r,⟨o,I.kIn a o j,q,n,by simpa using hs⟩, ?_⟩
  have e:=r.length;simp only [GC] at e;omega
theorem Inv.list_inj (I:Inv X pins σ H s) (h:SqL X.K H a xs) (h':SqL X.K H a ys):xs=ys:=by
 obtain ⟨its,r,⟨o,n,e,_,_,d⟩,_⟩:=I.list h;obtain ⟨its',r',⟨o',n',e',_,_,d'⟩,_⟩:=I.list h';rw [e] at e';cases e';rw [d] at d'
 injection d' with d1 _
 have:its=its':=by simpa using congrArg Le d1
 subst this;exact r.inj r'
theorem Inv.tuple_inj (I:Inv X pins σ H s) (h:SqT X.K H a xs) (h':SqT X.K H a ys):xs=ys:=by
 obtain ⟨its,r,⟨o,e,_,n,d⟩,_⟩:=I.tuple h;obtain ⟨its',r',⟨o',e',_,n',d'⟩,_⟩:=I.tuple h';rw [e] at e';cases e';rw [d] at d'
 injection d' with d1 _
 have:its=its':=by simpa using congrArg Le d1
 subst this;exact r.inj r'
end
noncomputable abbrev Cx.wish (X:Cx) (E:e7->h8->Prop):Cx := { X with xe:=E }
noncomputable abbrev Cx.nox (X:Cx):Cx:=X.wish fun _ _=>False
theorem Cx.Ok.wish {X:Cx} (ok:X.Ok) (E:e7->h8->Prop):(X.wish E).Ok :=
 ⟨ok.mod,ok.kind,ok.glob,ok.blt,ok.above,ok.inj,ok.has,ok.cab,ok.hd,ok.frames,ok.stk,ok.exf,ok.bs,ok.bsz,ok.noex,ok.exfs,ok.funs,ok.frf⟩
theorem Cx.Ok.unwish {X:Cx} {E:e7->h8->Prop} (ok:(X.wish E).Ok):X.Ok :=
 ⟨ok.mod,ok.kind,ok.glob,ok.blt,ok.above,ok.inj,ok.has,ok.cab,ok.hd,ok.frames,ok.stk,ok.exf,ok.bs,ok.bsz,ok.noex,ok.exfs,ok.funs,ok.frf⟩
section
variable {X:Cx} {pins:List (Addr×Obj)} {σ:St} {H:Hp} {s:h8} {E:e7->h8->Prop}
theorem Inv.wish (I:Inv X pins σ H s) (E:e7->h8->Prop):Inv (X.wish E) pins σ H s:=⟨I.ok.wish E,I.os,I.bare,I.base,I.loc,I.cell,I.free,I.freeC,I.pin,I.hok,I.len⟩
theorem Inv.unwish (I:Inv (X.wish E) pins σ H s):Inv X pins σ H s:=⟨I.ok.unwish,I.os,I.bare,I.base,I.loc,I.cell,I.free,I.freeC,I.pin,I.hok,I.len⟩
theorem SP.unwish {D:bn} {f:Flow} {s':h8} (h:SP (X.wish E) pins D f s'):SP X pins D f s':=by
 cases f with
 | next=>obtain ⟨σ',H',I,q⟩:=h;exact ⟨σ',H',I.unwish,q⟩
 | brk=>obtain ⟨σ',H',I,q⟩:=h;exact ⟨σ',H',I.unwish,q⟩
 | cont=>obtain ⟨σ',H',I,q⟩:=h;exact ⟨σ',H',I.unwish,q⟩
 | ret u=>obtain ⟨v, σ',H',I,r,q⟩:=h;exact ⟨v, σ',H',I.unwish,r,q⟩
theorem PSs.nox {st:List Stmt} {t:TS} (h:PSs X.nox st t):PSs X st t:=fun pins s σ H D I hw =>
 H8 (h pins s σ H D (I.wish _) hw) (fun _ _ q=>q.unwish) fun _ _ z=>False.elim z
end
section
variable {X:Cx} {st:Stmt} {rest:List Stmt} {t u:TS} {e:Expr} {te:TE} {pos:Pos}
noncomputable def qO:TS:=fun D σ H=>D.nx σ H
noncomputable def B5 (t u:TS):TS:=fun D σ H=>t { D with nx:=u D } σ H
theorem ze:PSs X [] qO:=fun _ _ σ H _ I h=>Ls ⟨σ,H,I,h⟩
theorem vZ (h1:PS X st t) (h2:PSs X rest u):PSs X (st::rest) (B5 t u):=by
 intro pins s σ H D I h;refine wpAny_execs_cons (thn (h1 pins s σ H { D with nx:=u D } I h) fun f s1 q => ?_)
 cases f with
 | next =>
   obtain ⟨σ',H',I',q⟩:=q;exact h2 pins s1 σ' H' D I' q
 | ret v=>exact q
 | brk=>exact q
 | cont=>exact q
noncomputable def t7:TS:=fun D σ H=>D.bk σ H
noncomputable def yp:TS:=fun D σ H=>D.ct σ H
theorem zf:PS X (.Pass pos) qO:=fun _ _ σ H _ I h=>wpAny_Pass ⟨σ,H,I,h⟩
theorem wa:PS X (.Break pos) t7:=fun _ _ σ H _ I h=>wpAny_Break ⟨σ,H,I,h⟩
theorem p5:PS X (.Continue pos) yp:=fun _ _ σ H _ I h=>wpAny_Continue ⟨σ,H,I,h⟩
theorem Inv.quiet {pins:List (Addr×Obj)} {σ:St} {H:Hp} {s:h8} (I:Inv X pins σ H s):interactive X.env=false:=by simp [interactive,I.ok.kind]
noncomputable def yq (te:TE):TS:=fun D σ H=>te σ H fun _ H1=>D.nx σ H1
theorem zg (he:PE X e te) (hs:Jd e none pos.line X.env=pure false:=by rfl):PS X (.Expr e pos) (yq te):=by
 intro pins s σ H D I h;exact wpAny_Expr_any (thn (he pins s σ H _ I h) fun v s1 ⟨x,H1,j,r1,q⟩=>⟨σ,H1,j,q⟩) I.quiet hs
noncomputable def B6 (te:TE):TS:=fun D σ H=>te σ H D.rt
theorem B7 (he:PE X e te):PS X (.Return (some e) pos) (B6 te):=by
 intro pins s σ H D I h;exact wpAny_Return_some (thn (he pins s σ H _ I h) fun v s1 ⟨x,H1,j,r1,q⟩=>⟨x, σ,H1,j,r1,q⟩)
noncomputable def B8 (c:TT) (t u:TS):TS:=fun D σ H=>c σ H fun b H1=>if b=true then t D σ H1 else u D σ H1
theorem CJ {c:Expr} {a b:List Stmt} {tc:TT} (z:PT X c tc) (B:PSs X a t) (F:PSs X b u):PS X (.If c a b pos) (B8 tc t u):=by
 intro pins s σ H D I h;refine wpAny_If (thn (z pins s σ H _ I h) fun d s1 ⟨H1,j,q⟩ => ?_)
 cases d with
 | true=>exact B pins s1 σ H1 D j q
 | false=>exact F pins s1 σ H1 D j q
end
noncomputable abbrev TG:=V->St->Hp->(St->Hp->Prop)->Prop
noncomputable abbrev TGs:=List V->St->Hp->(St->Hp->Prop)->Prop
def PG (X:Cx) (target:Expr) (t:TG):Prop :=
 ∀ (pins:List (Addr×Obj)) (s:h8) (σ:St) (H:Hp) (v:V) (u:e7) (Q:St->Hp->Prop),Inv X pins σ H s->RelV v u->t v σ H Q ->
  FG (model X.prog X.w) X.A (assign target X.env u) (fun _ s' => ∃ σ' H',Inv X pins σ' H' s'/\Q σ' H') X.xe s
def PGs (X:Cx) (ts:List Expr) (t:TGs):Prop :=
 ∀ (pins:List (Addr×Obj)) (s:h8) (σ:St) (H:Hp) (vs:List V) (us:List e7) (Q:St->Hp->Prop),Inv X pins σ H s->Vals vs us->t vs σ H Q ->
  FG (model X.prog X.w) X.A (Mt ((Hk ts X.env).map (·.2)) us) (fun _ s' => ∃ σ' H',Inv X pins σ' H' s'/\Q σ' H') X.xe s
noncomputable abbrev qP:=V->V->V->Hp->(Hp->Prop)->Prop
def PSet (X:Cx) (t:qP):Prop :=
 ∀ (pins:List (Addr×Obj)) (s:h8) (σ:St) (H:Hp) (o i v:V) (ov iv u:e7) (Q:Hp->Prop),Inv X pins σ H s->RelV o ov->RelV i iv->RelV v u->t o i v H Q ->
  FG (model X.prog X.w) X.A (setItem ov iv u) (fun _ s' => ∃ H',Inv X pins σ H' s'/\Q H') X.xe s
noncomputable abbrev TIp:=V->V->Hp->VK->Prop
def PIp (X:Cx) (op:Ji) (t:TIp):Prop :=
 ∀ (pins:List (Addr×Obj)) (s:h8) (σ:St) (H:Hp) (x y:V) (v u:e7) (Q:VK),Inv X pins σ H s->RelV x v->RelV y u->t x y H Q ->
  FG (model X.prog X.w) X.A (HK op v u) (EP X pins σ Q) X.xe s
section
variable {X:Cx} {pos:Pos}
noncomputable def iy (i:Nat):TG:=fun v σ H Q=>Q (σ.set i (some v)) H
theorem pN {i:Nat} {x:Str} (j:X.N.Nodup) (hi:X.N[i]? = some x) (hx:Loc X.env.scope x) (hf:X.fn x=true∨X.env.scope.names.lookup x=some .local:=by first | exact .inl rfl | exact .inr rfl | assumption):PG X (.Name x pos) (iy i):=by
 intro pins s σ H v u Q I r h;exact wpAny_assign_Name (di I j hi hx r (fun s' I'=>⟨_,H,I',h⟩) hf)
noncomputable def DO:TGs:=fun vs σ H Q=>vs=[]/\Q σ H
noncomputable def CK (t:TG) (u:TGs):TGs:=fun vs σ H Q => ∃ v r,vs=v::r/\t v σ H fun σ' H'=>u r σ' H' Q
theorem zh:PGs X [] DO:=by
 intro pins s σ H vs us Q I r h;obtain ⟨e,h⟩:=h;subst e
 cases r
 exact MZ ⟨σ,H,I,h⟩
theorem wb {e:Expr} {es:List Expr} {t:TG} {u:TGs} (h1:PG X e t) (h2:PGs X es u)
 (hs:(Hk (e::es) X.env).map (·.2)=assign e X.env::(Hk es X.env).map (·.2):=by rfl):PGs X (e::es) (CK t u):=by
 intro pins s σ H vs us Q I r h;obtain ⟨v,vr,j,h⟩:=h;subst j
 cases r with
 | cons r rr =>
   rw [hs];refine J7 (thn (h1 pins s σ H _ _ _ I r h) fun _ s1 ⟨σ1,H1,q,z⟩ => ?_);exact h2 pins s1 σ1 H1 _ _ Q q rr z
noncomputable def DP (K:Frag) (n:Nat) (t:TGs):TG:=fun v σ H Q => ∃ a xs,v = .ref a/\SqT K H a xs/\xs.length=n/\t xs σ H Q
theorem B9 {es:List Expr} {k:Nat} {t:TGs} {n:Nat} (q:X.calm=true) (h:PGs X es t)
 (z:(Hk es X.env).length=n:=by rfl) (j:(Hk es X.env).findIdx? (·.1)=none:=by rfl):PG X (.Tuple es k pos) (DP X.K n t):=by
 intro pins s σ H v u Q I r hw;obtain ⟨a,xs,B,F,G,hw⟩:=hw;subst B
 cases r
 obtain ⟨its,rv,J,O⟩:=I.tuple F;refine assign_Tuple_tuple (I.ok.hd q) J (by simp [z, <- G,rv.length]) j fun h' hx => ?_
 have L:Inv X pins σ H { s with heap:=h' }:=I.kept (t':=s.toks) fun b o e=>hx b o (G0 (Fz e)) e
 exact h pins _ σ H xs _ Q L (by simpa using rv) hw
noncomputable def DQ (to ti:TE) (t:qP):TG:=fun v σ H Q=>to σ H fun o H1=>ti σ H1 fun i H2=>t o i v H2 fun H3=>Q σ H3
theorem Ba {o i:Expr} {to ti:TE} {t:qP} (ho:PE X o to) (hi:PE X i ti) (hs:PSet X t)
 (j:∀ v,assign (.Subscript o i pos) X.env v=(do
   let ov <- holding [v] (eval o X.env)
   let iv <- holding [v,ov] (eval i X.env)
   Iw pos
   holding [v,ov,iv] (setItem ov iv v)
   release [v,ov,iv] []):=by intro _;rfl):PG X (.Subscript o i pos) (DQ to ti t):=by
 intro pins s σ H v u Q I r h;rw [j];refine e6 (Gz (thn (ho pins s σ H _ I h) fun ov s1 ⟨x,H1,q,r1,z⟩ => ?_));refine e6 (Gz (thn (hi pins s1 σ H1 _ q z) fun iv s2 ⟨y,H2,B,r2,F⟩ => ?_));refine e6 (GX (e6 (Gz (thn (hs pins s2 σ H2 x y v ov iv u _ B r1 r2 r F) fun _ s3 ⟨G,J,L⟩ => ?_))));exact wpAny_release ⟨σ,G,J,L⟩
noncomputable def qQ (te:TE) (g:TG):TS:=fun D σ H=>te σ H fun x H1=>g x σ H1 D.nx
theorem t8 {tg e:Expr} {te:TE} {g:TG} (he:PE X e te) (j:PG X tg g) (hs:IV [tg] e pos.line X.env=pure false:=by rfl) (hw:HV [tg] e X.env=pure none:=by rfl)
 (h1:(Hk [tg] X.env).map (·.2)=[assign tg X.env]:=by rfl):PS X (.Assign [tg] e pos) (qQ te g):=by
 intro pins s σ H D I h;refine wpAny_Assign_stores (thn (he pins s σ H _ I h) fun v s1 ⟨x,H1,z,r1,B⟩ => ?_) hs hw;rw [h1];exact thn (j pins s1 σ H1 x v _ z r1 B) fun _ s2 q=>q
noncomputable def DR (i:Nat) (te:TE) (ti:TIp):TS:=fun D σ H => ∃ x, σ[i]? = some (some x)/\te σ H fun y H1=>ti x y H1 fun z H2=>D.nx (σ.set i (some z)) H2
theorem Bb {i:Nat} {x:Str} {e:Expr} {te:TE} {op:Ji} {ti:TIp} {pos':Pos} (B:X.N.Nodup) (hi:X.N[i]? = some x) (hx:Loc X.env.scope x) (he:PE X e te) (ho:PIp X op ti) (hf:X.fn x=true∨X.env.scope.names.lookup x=some .local:=by first | exact .inl rfl | exact .inr rfl | assumption) :
 PS X (.AugAssign (.Name x pos') op e pos) (DR i te ti):=by
 intro pins s σ H D I h;obtain ⟨v,F,h⟩:=h;obtain ⟨m,G,J⟩:=I.loc;have vis:Vis X.env.scope x:=by rcases hx with k | k;exact .inl k;exact .inr (.inl k)
 obtain ⟨u,r,l⟩:=J i x v hi F vis;refine wpAny_AugAssign_Name ?_;have go:FG (model X.prog X.w) X.A (eval e X.env) (fun w s₂ => FG (model X.prog X.w) X.A (HK op u w) (fun r s₃ => FG (model X.prog X.w) X.A (storeName X.env x r) (fun _=>SP X pins D .next) X.xe s₃) X.xe s₂) X.xe s:=by
  refine thn (he pins s σ H _ I h) fun w s1 ⟨y,H1,L,r1,O⟩ => ?_;refine thn (ho pins s1 σ H1 v y u w _ L r r1 O) fun z s2 ⟨zv,H2,U,r2,Y⟩ => ?_;exact di U B hi hx r2 (fun s3 Z=>⟨_,H2,Z,Y⟩) hf
 rcases l with ⟨j,hm⟩ | ⟨j,c,hc,q⟩
 ·exact LG I.ok.kind j G hm go
 ·rcases j with j | j
  ·exact Mh I.ok.kind j hc q go
  ·rcases hx with k | k
   ·have:X.env.scope.names.lookup x=some .free:=j;rw [k] at this;cases this
   ·have:X.env.scope.names.lookup x=some .free:=j;rw [k] at this;cases this
end
section
variable {X:Cx} {pos:Pos}
noncomputable def t9 (c:TT) (tb:TS):TS:=fun D σ H => ∃ W:Nat->St->Hp->Prop,(∃ m,W m σ H) /\ ∀ m σ H,W m σ H ->
 c σ H fun b H1=>if b=true then ∃ N:St->Hp->Prop,(∀ σ' H',N σ' H' -> ∃ m',m' < m/\W m' σ' H')/\tb { D with nx:=N,ct:=N,bk:=D.nx } σ H1 else D.nx σ H1
theorem wc {c:Expr} {body:List Stmt} {tc:TT} {tb:TS} (J:PassesOwn (model X.prog X.w) X.A X.env X.xe) (U:PT X c tc) (Y:PSs X body tb):PS X (.While c body [] pos) (t9 tc tb):=by
 intro pins s σ H D I h;obtain ⟨W,⟨m0,Z⟩,turn⟩:=h;refine wpAny_While (codeAny_whileLoop (fun n s' => ∃ σ' H',Inv X pins σ' H' s'/\W n σ' H') ?_ m0 ⟨σ,H,I,Z⟩);rintro n s1 ⟨σ1,H1,I1,w1⟩;refine HL J (thn (U pins s1 σ1 H1 _ I1 (turn n σ1 H1 w1)) fun b s2 ⟨H2,L,q⟩ => ?_)
 cases b with
 | true =>
   obtain ⟨N,O,q⟩:=q;rw [if_pos rfl];refine HL J (thn (Y pins s2 σ1 H2 _ L q) fun f s3 z => ?_)
   cases f with
   | next =>
     obtain ⟨σ3,j,B,F⟩:=z;obtain ⟨m',hm,G⟩:=O σ3 j F;exact ⟨m',hm, σ3,j,B,G⟩
   | cont =>
     obtain ⟨σ3,j,B,F⟩:=z;obtain ⟨m',hm,G⟩:=O σ3 j F;exact ⟨m',hm, σ3,j,B,G⟩
   | brk=>exact z
   | ret v=>exact z
 | false =>
   rw [if_neg i4];exact Ls ⟨σ1,H2,L,q⟩
end
structure It where
 go:Nat->Hp->Prop
 yld:Nat->Hp->V->Hp->Prop
 stop:Nat->Hp->Prop
def bo (X:Cx) (pins:List (Addr×Obj)) (H:Hp) (b:Addr):Prop :=
 H b=none/\b≠X.env.locals/\b∉X.fs/\(b∈X.ex∨X.s₀.heap.objs.size<=b)/\(∀ x c,X.env.cells.lookup x=some c->c≠b) /\ ∀ p∈X.pn++pins,p.1≠b
theorem Inv.fpOk {X:Cx} {pins:List (Addr×Obj)} {σ:St} {H H':Hp} {s:h8} {b:Addr} (I:Inv X pins σ H s) (j:s.heap.objs.size<=b) (B:H' b=none):bo X pins H' b:=by
 refine ⟨B,Ih (FY I.lt j),I.nofs j, .inr (G8 I.sz j),fun x c e z => ?_,fun p F z => ?_⟩
 ·obtain ⟨v,q⟩:=I.cell x c e;exact absurd (FY q.lt (by rw [z];exact j)) (Gy _)
 ·exact absurd (FY (Fz (I.pin p F).1) (by rw [z];exact j)) (Gy _)
structure fv (P:FR) (w:G7) (K:Frag) (tg:Expr) (J:It) (fp:List Addr) (it:Addr) (tn:Nat->Heap->Prop):Prop where
 mem:it∈fp
 obj:∀ i h,tn i h -> ∀ b∈fp, ∃ o,h.get? b=some o /\ ∀ v,o.data ≠ .cell v
 keep:∀ i h h',tn i h->(∀ b∈fp, ∀ o,h.get? b=some o->h'.get? b=some o)->tn i h'
 item:∀ (X:Cx),X.prog=P->X.w=w->X.K=K->X.calm=true -> ∀ (i:Nat) (pins:List (Addr×Obj)) (s:h8) (σ:St) (H:Hp) (E:e7->h8->Prop),Inv X pins σ H s->(∀ b∈fp,bo X pins H b)->tn i s.heap->J.go i H ->
  FG (model P w) X.A (J8 (.ref it)) (fun r s1 => ∃ u,r=some u /\
   FG (model P w) X.A (J2 tg (.ref it) u) (fun _ s2 => ∃ x H',Inv X pins σ H' s2/\RelV x u/\J.yld i H x H'/\tn (i+1) s2.heap /\ ∀ b∈fp,H' b=none) E s1) E s
 done:∀ (X:Cx),X.prog=P->X.w=w->X.K=K->X.calm=true -> ∀ (i:Nat) (pins:List (Addr×Obj)) (s:h8) (σ:St) (H:Hp) (E:e7->h8->Prop),Inv X pins σ H s->(∀ b∈fp,bo X pins H b)->tn i s.heap->J.stop i H ->
  FG (model P w) X.A (J8 (.ref it)) (fun r s1=>r=none/\Inv X pins σ H s1) E s
 self:∀ (A:Gg) (i:Nat) (s:h8) (Q:e7->h8->Prop) (E:e7->h8->Prop),tn i s.heap->Q (.ref it) s->FG (model P w) A (KJ (.ref it)) Q E s
noncomputable abbrev TI:=St->Hp->(It->Hp->Prop)->Prop
def PIE (X:Cx) (pins:List (Addr×Obj)) (σ:St) (tg:Expr) (R:It->Hp->Prop) (itv:e7) (s2:h8):Prop :=
 ∃ (it:Addr) (fp:List Addr) (tn:Nat->Heap->Prop) (J:It) (H':Hp),itv = .ref it/\Inv X pins σ H' s2/\fv X.prog X.w X.K tg J fp it tn/\tn 0 s2.heap/\(∀ b∈fp,bo X pins H' b)/\R J H'
def PI (X:Cx) (tg iter:Expr) (wi:TI):Prop :=
 ∀ (pins:List (Addr×Obj)) (s:h8) (σ:St) (H:Hp) (R:It->Hp->Prop),Inv X pins σ H s->wi σ H R ->
  FG (model X.prog X.w) X.A (eval iter X.env) (fun v s1=>FG (model X.prog X.w) X.A (KJ v) (PIE X pins σ tg R) X.xe s1) X.xe s
theorem qR {M:JP} {A:Gg} {E:e7->h8->Prop} {s:h8} {tg:Expr} {it:Addr} {u:e7} {o:Obj} {n:String} {vs:Array e7} {Q:Unit->h8->Prop} (ho:s.heap.get? it=some o) (q:o.cls = .type n) (hd:o.data = .fields vs)
 (z : ["enumerate", "zip", "dict_itemiterator", "dict_reverseitemiterator", "odict_iterator", "itertools.zip_longest", "itertools.pairwise"].contains n=false) (j:Q () s):FG M A (J2 tg (.ref it) u) Q E s:=by
 unfold J2
 cases tg <;> first
  | exact hQ j
  | (cases u <;> first
      | exact hQ j
      | (refine e6 (wpAny_load ho ?_)
         rw [q,hd];show FG M A (if (["enumerate", "zip", "dict_itemiterator", "dict_reverseitemiterator", "odict_iterator", "itertools.zip_longest", "itertools.pairwise"].contains n&&vs[0]? == some (Lf _))=true then _ else _) Q E s
         rw [if_neg (by intro h;rw [z,Bool.false_and] at h;cases h)]
         exact hQ j))
noncomputable def Itl (K:Frag) (a:Addr):It :=
 ⟨fun i H => ∃ xs x,SqL K H a xs/\xs[i]? = some x,fun i H x H'=>H'=H /\ ∀ xs,SqL K H a xs->xs[i]? = some x,fun i H => ∃ xs,SqL K H a xs/\xs.length<=i⟩
noncomputable def Itt (K:Frag) (a:Addr):It :=
 ⟨fun i H => ∃ xs x,SqT K H a xs/\xs[i]? = some x,fun i H x H'=>H'=H /\ ∀ xs,SqT K H a xs->xs[i]? = some x,fun i H => ∃ xs,SqT K H a xs/\xs.length<=i⟩
noncomputable def Itr (lo:Int) (n:Nat):It:=⟨fun i _=>i < n,fun i H x H'=>H'=H/\x = .int (lo+i),fun i _=>n<=i⟩
theorem tf {P:FR} {w:G7} {K:Frag} {tg:Expr} (a it:Addr):fv P w K tg (Itl K a) [it] it (fun i h=>h.IsListIter it a i) where
 mem:=by simp
 obj:=fun i h st b j=>by
  have e:b=it:=by simpa using j
  subst e;obtain ⟨o,e,c,d⟩:=st;exact ⟨o,e,fun v z=>by rw [d] at z;cases z⟩
 keep:=fun i h h' st k=>st.at fun o e=>k it (by simp) o e
 item:=by
  intro X B hw F L i pins s σ H E I hf st hg;subst B hw F;obtain ⟨xs,x,q,hx⟩:=hg;obtain ⟨its,rv,p,O⟩:=I.list q;obtain ⟨u,U,ru⟩:=rv.get hx;obtain ⟨f0,f1,f2,G,f4,J⟩:=hf it (by simp)
  refine wpAny_pyNext_list_item st p.isList (x:=u) (by simpa using U) fun h' st' sb => ?_
  have Y:Inv X pins σ H { s with heap:=h' }:=I.turned (t':=s.toks) (fun b o j e=>(sb.2 b j).trans e) f0 f1 G f4 J
  obtain ⟨o,e,c,d⟩:=id st';exact ⟨u,rfl,qR (s := { s with heap:=h' }) e c d (by decide) ⟨x,H,Y,ru,⟨rfl,fun ys Z=>by rw [I.list_inj Z q];exact hx⟩,st',fun b j=>(hf b j).1⟩⟩
 done:=by
  intro X B hw F L i pins s σ H E I hf st hg;subst B hw F;obtain ⟨xs,q,hx⟩:=hg;obtain ⟨its,rv,p,O⟩:=I.list q;obtain ⟨f0,f1,f2,G,f4,J⟩:=hf it (by simp)
  have hl:=rv.length;exact wpAny_pyNext_list_end (I.ok.hd L) st p.isList (by simp;omega) fun h' eb=>⟨rfl,I.turned (t':=s.toks) (fun b o j e=>eb b o j e) f0 f1 G f4 J⟩
 self:=fun _ _ _ _ _ st h=>wpAny_pyIter_listiter st h
theorem qS {P:FR} {w:G7} {K:Frag} {tg:Expr} (a it:Addr):fv P w K tg (Itt K a) [it] it (fun i h=>h.IsTupleIter it a i) where
 mem:=by simp
 obj:=fun i h st b j=>by
  have e:b=it:=by simpa using j
  subst e;obtain ⟨o,e,c,d⟩:=st;exact ⟨o,e,fun v z=>by rw [d] at z;cases z⟩
 keep:=fun i h h' st k=>st.at fun o e=>k it (by simp) o e
 item:=by
  intro X B hw F L i pins s σ H E I hf st hg;subst B hw F;obtain ⟨xs,x,q,hx⟩:=hg;obtain ⟨its,rv,p,O⟩:=I.tuple q;obtain ⟨u,U,ru⟩:=rv.get hx;obtain ⟨f0,f1,f2,G,f4,J⟩:=hf it (by simp)
  refine wpAny_pyNext_tuple_item st (show s.heap.IsTuple a its.toArray from p) (x:=u) (by simpa using U) fun h' st' sb => ?_
  have Y:Inv X pins σ H { s with heap:=h' }:=I.turned (t':=s.toks) (fun b o j e=>(sb.2 b j).trans e) f0 f1 G f4 J
  obtain ⟨o,e,c,d⟩:=id st';exact ⟨u,rfl,qR (s := { s with heap:=h' }) e c d (by decide) ⟨x,H,Y,ru,⟨rfl,fun ys Z=>by rw [I.tuple_inj Z q];exact hx⟩,st',fun b j=>(hf b j).1⟩⟩
 done:=by
  intro X B hw F L i pins s σ H E I hf st hg;subst B hw F;obtain ⟨xs,q,hx⟩:=hg;obtain ⟨its,rv,p,O⟩:=I.tuple q;obtain ⟨f0,f1,f2,G,f4,J⟩:=hf it (by simp)
  have hl:=rv.length;exact wpAny_pyNext_tuple_end (I.ok.hd L) st (show s.heap.IsTuple a its.toArray from p) (by simp;omega) fun h' eb=>⟨rfl,I.turned (t':=s.toks) (fun b o j e=>eb b o j e) f0 f1 G f4 J⟩
 self:=fun _ _ _ _ _ st h=>wpAny_pyIter_tupleiter st h
theorem qT {P:FR} {w:G7} {K:Frag} {tg:Expr} (it:Addr) (lo:Int) (n:Nat):fv P w K tg (Itr lo n) [it] it (fun i h=>IsRangeIter h it (lo+(i:Nat)*1) ((n:Int) - (i:Nat)) 1) where
 mem:=by simp
 obj:=fun i h st b j=>by
  have e:b=it:=by simpa using j
  subst e;exact ⟨_,st,fun v z=>by
   have z':Data.fields _=Data.cell v:=z
   cases z'⟩
 keep:=fun i h h' st k=>k it (by simp) _ st
 item:=by
  intro X q hw B F i pins s σ H E I hf st hg;subst q hw B;obtain ⟨f0,f1,f2,G,f4,J⟩:=hf it (by simp)
  have W:=Walks.range (prog:=X.prog) (w:=X.w) (I.ok.hd F) it lo 1 n;refine W.item i s _ _ hg st fun v h' tk L st' kk => ?_;obtain ⟨t,rfl⟩:=L;have O:Inv X pins σ H { s with heap:=h',toks:=tk }:=I.turned (fun b o j e=>kk b o (by simpa using j) e) f0 f1 G f4 J
  refine ⟨_,rfl,qR (s := { s with heap:=h',toks:=tk }) (n := "range_iterator") st' rfl rfl (by decide) ⟨.int (lo+i),H,O,⟨t, ?_⟩,⟨rfl,rfl⟩,st',fun b j=>(hf b j).1⟩⟩
  rw [Int.mul_one]
 done:=by
  intro X q hw B F i pins s σ H E I hf st hg;subst q hw B;obtain ⟨f0,f1,f2,G,f4,J⟩:=hf it (by simp)
  exact wpAny_pyNext_range_end (I.ok.hd F) st (by have:n<=i:=hg;omega) fun h' eb=>⟨rfl,I.turned (t':=s.toks) (fun b o j e=>eb b o j e) f0 f1 G f4 J⟩
 self:=fun _ _ _ _ _ st h=>wpAny_pyIter_rangeiter st h
end
section
section
variable {X:Cx} {tg:Expr}
theorem wd {pins:List (Addr×Obj)} {σ:St} {H:Hp} {s:h8} {R:It->Hp->Prop} {E:e7->h8->Prop} {lo hi:Int} {t u v:Tok} {tk:Nat} (I:Inv X pins σ H s) (h1 : -(2 ^ 62)<=lo) (h2:lo < 2 ^ 62) (z : -(2 ^ 62)<=hi) (B:hi < 2 ^ 62)
 (q:R (Itr lo (hi - lo).toNat) H):FG (model X.prog X.w) X.A (KJ (.ref s.heap.objs.size)) (PIE X pins σ tg R) E { s with heap:=s.heap.push { cls := .type "range",data := .fields #[.int lo t, .int hi u, .int 1 v] },toks:=tk }:=by
 refine wpAny_pyIter_range (IsRange.new ..) (small_one h1 h2 z B) ?_;have j:Inv X pins σ H { s with heap:=s.heap.push { cls := .type "range",data := .fields #[.int lo t, .int hi u, .int 1 v] },toks:=tk }:=I.kept fun b o e=>h7 _ e
 refine ⟨(s.heap.push { cls := .type "range",data := .fields #[.int lo t, .int hi u, .int 1 v] }).objs.size,[(s.heap.push { cls := .type "range",data := .fields #[.int lo t, .int hi u, .int 1 v] }).objs.size],_,_,H,rfl,
  j.kept (t':=tk) fun b o e=>h7 _ e,qT _ lo (hi - lo).toNat, ?_,fun b F => ?_,q⟩
 ·have G:lo+((0:Nat):Int)*1=lo:=by simp
  have J:(((hi - lo).toNat:Nat):Int) - ((0:Nat):Int)=Je lo hi 1:=by rw [rangeSize_one];split <;> omega
  show IsRangeIter _ _ (lo+((0:Nat):Int)*1) ((((hi - lo).toNat:Nat):Int) - ((0:Nat):Int)) 1;rw [G,J];exact FF _ rfl
 ·have e:b=(s.heap.push { cls := .type "range",data := .fields #[.int lo t, .int hi u, .int 1 v] }).objs.size:=by simpa using F
  subst e;exact j.fpOk (Fy _) (j.hok.fresh (Fy _))
noncomputable def CL (ta:TA):TI:=fun σ H R=>ta σ H fun vs H1 => ∃ j:Int,vs=[.int j] /\ -(2 ^ 62)<=j/\j < 2 ^ 62/\R (Itr 0 j.toNat) H1
theorem tj {a:Expr} {ta:TA} {p pos:Pos} (B:Gl X "range") (hm:X.mg "range" = none) (F:PA X [a] ta) (hs:FP [a] X.env=[(false,eval a X.env)]:=by rfl):PI X tg (.Call (.Name "range" p) [a] [] pos) (CL ta):=by
 intro pins s σ H R I h;refine Call_ (cA I B hm boot_range (GH (thn (F pos pins s σ H _ I h) fun us s1 ⟨vs,H1,G,r1,z⟩ => ?_) hs rfl));obtain ⟨j,e,z,J,q⟩:=z;subst e
 cases r1 with
 | cons r rr =>
   cases rr
   obtain ⟨t,rfl⟩:=r;exact call_range_1 (wd G (by omega) (by omega) z J (by simpa using q))
noncomputable def Bc (wi:TI) (g:TG) (tb:TS):TS:=fun D σ H=>wi σ H fun J H1 => ∃ W:Nat->Nat->St->Hp->Prop,(∃ m,W 0 m σ H1) /\ ∀ i m σ H,W i m σ H ->
 (J.stop i H/\D.nx σ H)∨(J.go i H /\ ∃ N:St->Hp->Prop,(∀ σ' H',N σ' H' -> ∃ m',m' < m/\W (i+1) m' σ' H') /\ ∀ x H',J.yld i H x H'->g x σ H' fun σ2 H2=>tb { D with nx:=N,ct:=N,bk:=D.nx } σ2 H2)
noncomputable def iz (fp:List Addr) (h:Heap):List (Addr×Obj):=fp.filterMap fun b=>(h.get? b).map fun o=>(b,o)
theorem bI {fp:List Addr} {h:Heap} {b:Addr} {o:Obj} (j:b∈fp) (e:h.get? b=some o):(b,o)∈iz fp h:=J9.mpr ⟨b,j,by rw [e];rfl⟩
theorem tm {fp:List Addr} {h:Heap} {p:Addr×Obj} (j:p∈iz fp h):p.1∈fp/\h.get? p.1=some p.2:=by
 obtain ⟨b,z,e⟩:=J9.mp j
 cases q:h.get? b with
 | none=>rw [q] at e;cases e
 | some o =>
   rw [q] at e;have e':(b,o)=p:=HB.inj e;subst e';exact ⟨z,q⟩
theorem Inv.pinned {pins:List (Addr×Obj)} {σ:St} {H:Hp} {s:h8} {fp:List Addr} (I:Inv X pins σ H s) (hf:∀ b∈fp,bo X pins H b) (ho:∀ b∈fp, ∃ o,s.heap.get? b=some o /\ ∀ v,o.data ≠ .cell v):Inv X (pins++iz fp s.heap) σ H s :=
 I.pins_of fun p q=>(FC.mp q).elim (fun z=>I.pin p (FE _ z)) fun z=>by
  obtain ⟨j,e⟩:=tm z;obtain ⟨f0,f1,f2,_⟩:=hf p.1 j;obtain ⟨o,e',d⟩:=ho p.1 j;rw [e] at e';cases e';exact ⟨e,f0,f1,f2,d⟩
theorem Inv.unpinned {pins pl:List (Addr×Obj)} {σ:St} {H:Hp} {s:h8} (I:Inv X (pins++pl) σ H s):Inv X pins σ H s:=I.pins_of fun p j=>I.pin p (FE _ (G4 _ j))
theorem Bd {iter:Expr} {body:List Stmt} {wi:TI} {g:TG} {tb:TS} {pos:Pos} (G:PassesOwn (model X.prog X.w) X.A X.env X.xe) (hc:X.calm=true) (hi:PI X tg iter wi) (hg:PG X tg g) (j:PSs X body tb)
 (hs:∀ x,GI iter X.env x=pure x:=by intro _;rfl):PS X (.For tg iter body [] pos) (Bc wi g tb):=by
 intro pins s σ H D I h;refine wpAny_For (thn (hi pins s σ H _ I h) fun v s1 h1=>thn h1 fun itv s2 h2 => ?_) hs;obtain ⟨it,fp,tn,J,H2,e,I2,T,Z,f2,W,⟨m0,w0⟩,turn⟩:=h2;subst e;have stat:∀ {H':Hp},(∀ b∈fp,H' b=none) -> ∀ b∈fp,bo X pins H' b:=fun hn b j=>⟨hn b j,(f2 b j).2⟩;refine codeAny_forLoop_any (fun n s' => ∃ i σ' H',Inv X pins σ' H' s'/\tn i s'.heap/\(∀ b∈fp,H' b=none)/\W i n σ' H') ?_ m0 ⟨0, σ,H2,I2,Z,fun b j=>(f2 b j).1,w0⟩;rintro n s3 ⟨i, σ3,Y,I3,L,O,w3⟩
 rcases turn i n σ3 Y w3 with ⟨stop,qn⟩ | ⟨go,N,hN,step⟩
 ·refine HL G (thn (T.done X rfl rfl rfl hc i pins s3 σ3 Y X.xe I3 (stat O) L stop) fun r s4 ⟨hr,I4⟩ => ?_);subst hr;exact Ls ⟨σ3,Y,I4,qn⟩
 ·refine HL G (thn (T.item X rfl rfl rfl hc i pins s3 σ3 Y X.xe I3 (stat O) L go) fun r s4 ⟨u,hr,h4⟩ => ?_);subst hr;refine HL G (thn h4 fun _ s5 ⟨x,H5,I5,r5,y5,F,Ef⟩ => ?_);have Eg:=I5.pinned (stat Ef) (T.obj _ _ F);refine HL G (thn (hg _ s5 σ3 H5 x u _ Eg r5 (step x H5 y5)) fun _ s6 ⟨σ6,H6,I6,q6⟩ => ?_);refine HL G (thn (j _ s6 σ6 H6 _ I6 q6) fun f s7 B => ?_);have again:∀ {σ7:St} {q:Hp},Inv X (pins++iz fp s5.heap) σ7 q s7->N σ7 q -> ∃ m,m < n /\ ∃ i σ' H',Inv X pins σ' H' s7/\tn i s7.heap/\(∀ b∈fp,H' b=none)/\W i m σ' H':=fun {σ7 q} z U=>by
   obtain ⟨m',hm,w7⟩:=hN σ7 q U;refine ⟨m',hm,i+1, σ7,q,z.unpinned,T.keep _ _ _ F fun b j o e=>(z.pin (b,o) (FE _ (FE _ (bI j e)))).1,fun b j => ?_,w7⟩;obtain ⟨o,e,d⟩:=T.obj _ _ F b j;exact (z.pin (b,o) (FE _ (FE _ (bI j e)))).2.1
  cases f with
  | next=>obtain ⟨σ7,q,z,U⟩:=B;exact again z U
  | cont=>obtain ⟨σ7,q,z,U⟩:=B;exact again z U
  | brk=>obtain ⟨σ7,q,z,B⟩:=B;exact ⟨σ7,q,z.unpinned,B⟩
  | ret v=>obtain ⟨x7, σ7,q,z,r7,B⟩:=B;exact ⟨x7, σ7,q,z.unpinned,r7,B⟩
end
end
section
noncomputable abbrev R2:=V->V->Hp->VK->Prop
def OpR (X:Cx) (f:e7->e7->Sem e7) (r:R2):Prop :=
 ∀ (pins:List (Addr×Obj)) (s:h8) (σ:St) (H:Hp) (x y:V) (v u:e7) (Q:VK),Inv X pins σ H s->RelV x v->RelV y u->r x y H Q ->
  FG (model X.prog X.w) X.A (f v u) (EP X pins σ Q) X.xe s
def UnR (X:Cx) (f:e7->Sem e7) (r:V->Hp->VK->Prop):Prop :=
 ∀ (pins:List (Addr×Obj)) (s:h8) (σ:St) (H:Hp) (x:V) (v:e7) (Q:VK),Inv X pins σ H s->RelV x v->r x H Q ->
  FG (model X.prog X.w) X.A (f v) (EP X pins σ Q) X.xe s
def CallR (X:Cx) (f:e7) (r:List V->Hp->VK->Prop):Prop :=
 ∀ (pins:List (Addr×Obj)) (s:h8) (σ:St) (H:Hp) (xs:List V) (us:List e7) (Q:VK),Inv X pins σ H s->Vals xs us->r xs H Q ->
  FG (model X.prog X.w) X.A (call f us) (EP X pins σ Q) X.xe s
def DS (X:Cx) (r:V->Hp->(Bool->Hp->Prop)->Prop):Prop :=
 ∀ (pins:List (Addr×Obj)) (s:h8) (σ:St) (H:Hp) (x:V) (v:e7) (Q:Bool->Hp->Prop),Inv X pins σ H s->RelV x v->r x H Q ->
  FG (model X.prog X.w) X.A (truthy v) (TP X pins σ Q) X.xe s
noncomputable def tOp (r:R2) (ta tb:TE):TE:=fun σ H Q=>ta σ H fun x H1=>tb σ H1 fun y H2=>r x y H2 Q
noncomputable def tUn (r:V->Hp->VK->Prop) (ta:TE):TE:=fun σ H Q=>ta σ H fun x H1=>r x H1 Q
noncomputable def rI (C:Int->Int->Prop) (g:Int->Int->V):R2:=fun x y H Q => ∃ i j,x = .int i/\y = .int j/\C i j/\Q (g i j) H
noncomputable def rI0 (g:Int->Int->V):R2:=fun x y H Q => ∃ i j,x = .int i/\y = .int j/\Q (g i j) H
noncomputable def rU (g:Int->V):V->Hp->VK->Prop:=fun x H Q => ∃ i,x = .int i/\Q (g i) H
section
variable {X:Cx} {a b c:Expr} {ta tb tc:TE} {pos:Pos}
theorem we (j:PE X a ta) (q:PE X b tb) {pins:List (Addr×Obj)} {s:h8} {σ:St} {H:Hp} {R:V->V->Hp->Prop} (I:Inv X pins σ H s)
 (h:ta σ H fun x H1=>tb σ H1 fun y H2=>R x y H2) {Q:e7->h8->Prop} {f:e7->e7->Sem e7}
 (hf:∀ v u s2 x y H2,Inv X pins σ H2 s2->RelV x v->RelV y u->R x y H2->FG (model X.prog X.w) X.A (f v u) Q X.xe s2) :
 FG (model X.prog X.w) X.A (eval a X.env) (fun v s₁ => FG (model X.prog X.w) X.A (eval b X.env) (fun u s₂ => FG (model X.prog X.w) X.A (f v u) Q X.xe s₂) X.xe s₁) X.xe s:=by
 refine thn (j pins s σ H _ I h) fun v s1 ⟨x,H1,z,r1,B⟩ => ?_;refine thn (q pins s1 σ H1 _ z B) fun u s2 ⟨y,H2,F,r2,G⟩ => ?_;exact hf v u s2 x y H2 F r1 r2 G
theorem CM {op:Ji} {r:R2} (ho:OpR X (GY op) r) (j:PE X a ta) (z:PE X b tb):PE X (.BinOp a op b pos) (tOp r ta tb):=by
 intro pins s σ H Q I h;exact wpAny_BinOp (we j z I h fun v u s2 x y H2 B rx ry q=>ho pins s2 σ H2 x y v u Q B rx ry q)
theorem CN {op:UnaryOp} {r:V->Hp->VK->Prop} (ho:UnR X (unaryOp op) r) (j:PE X a ta):PE X (.UnaryOp op a pos) (tUn r ta):=by
 intro pins s σ H Q I h;exact UnaryOp_ (thn (j pins s σ H _ I h) fun v s1 ⟨x,H1,q,r1,z⟩=>ho pins s1 σ H1 x v Q q r1 z)
theorem opI {f:e7->e7->Sem e7} {C:Int->Int->Prop} {g:Int->Int->Int}
 (rule:∀ (i j:Int) (t u:Tok) (s:h8) (Q:e7->h8->Prop) (E:e7->h8->Prop),C i j->Q (.int (g i j) s.toks) { s with toks:=s.toks+1 }->FG (model X.prog X.w) X.A (f (.int i t) (.int j u)) Q E s) :
 OpR X f (rI C fun i j => .int (g i j)):=by
 intro pins s σ H x y v u Q I rx ry h;obtain ⟨i,j,rfl,rfl,z,q⟩:=h;obtain ⟨t,rfl⟩:=rx;obtain ⟨t',rfl⟩:=ry;exact rule i j t t' s _ _ z ⟨.int (g i j),H,I.tok _,⟨_,rfl⟩,q⟩
theorem qU {f:e7->e7->Sem e7} {g:Int->Int->Int}
 (rule:∀ (i j:Int) (t u:Tok) (s:h8) (Q:e7->h8->Prop) (E:e7->h8->Prop),Q (.int (g i j) s.toks) { s with toks:=s.toks+1 }->FG (model X.prog X.w) X.A (f (.int i t) (.int j u)) Q E s) :
 OpR X f (rI0 fun i j => .int (g i j)):=by
 intro pins s σ H x y v u Q I rx ry h;obtain ⟨i,j,rfl,rfl,q⟩:=h;obtain ⟨t,rfl⟩:=rx;obtain ⟨t',rfl⟩:=ry;exact rule i j t t' s _ _ ⟨.int (g i j),H,I.tok _,⟨_,rfl⟩,q⟩
theorem wf {f:e7->e7->Sem e7} {g:Int->Int->Bool}
 (rule:∀ (i j:Int) (t u:Tok) (s:h8) (Q:e7->h8->Prop) (E:e7->h8->Prop),Q (.bool (g i j)) s->FG (model X.prog X.w) X.A (f (.int i t) (.int j u)) Q E s) :
 OpR X f (rI0 fun i j => .bl (g i j)):=by
 intro pins s σ H x y v u Q I rx ry h;obtain ⟨i,j,rfl,rfl,q⟩:=h;obtain ⟨t,rfl⟩:=rx;obtain ⟨t',rfl⟩:=ry;exact rule i j t t' s _ _ ⟨.bl (g i j),H,I,rfl,q⟩
def DT (i j:Int):Prop := 0<=j/\j<=1000000/\i.natAbs < 2 ^ 64
def CMul (i j:Int):Prop:=(-(2 ^ 64) < i/\i < 2 ^ 64)∨(-(2 ^ 64) < j/\j < 2 ^ 64)
theorem CMul.ok {i j:Int} (h:CMul i j):IntMulOk i j:=by
 rcases h with ⟨h1,h2⟩ | ⟨h1,h2⟩
 ·exact .of_left (KL h1 h2)
 ·exact .of_right (KL h1 h2)
theorem op_add:OpR X (GY .Add) (rI0 fun i j => .int (i+j)):=qU fun _ _ _ _ _ _ _ q=>add_int q
theorem Be:OpR X (GY .Sub) (rI0 fun i j => .int (i - j)):=qU fun _ _ _ _ _ _ _ q=>sub_int q
theorem Bf:OpR X (GY .Mod) (rI (fun _ j => 0 < j) fun i j => .int (i % j)):=opI fun i j _ _ _ _ _ z q=>by
 have h1:(0:Int) < j:=z;exact mod_int' (by omega) (by rw [Int.fmod_eq_emod_of_nonneg i (by omega)];exact q)
theorem Bg:OpR X (GY .Pow) (rI DT fun i j => .int (i ^ j.toNat)):=opI fun _ _ _ _ _ _ _ z q=>pow_int_small z.1 z.2.1 z.2.2 q
theorem zi:OpR X (HK .Add) (rI0 fun i j => .int (i+j)):=qU fun _ _ _ _ _ _ _ q=>iadd_int q
theorem zj:OpR X (HK .Sub) (rI0 fun i j => .int (i - j)):=qU fun _ _ _ _ _ _ _ q=>isub_int q
theorem unI {f:e7->Sem e7} {g:Int->Int}
 (rule:∀ (i:Int) (t:Tok) (s:h8) (Q:e7->h8->Prop) (E:e7->h8->Prop),Q (.int (g i) s.toks) { s with toks:=s.toks+1 }->FG (model X.prog X.w) X.A (f (.int i t)) Q E s) :
 UnR X f (rU fun i => .int (g i)):=by
 intro pins s σ H x v Q I rx h;obtain ⟨i,rfl,q⟩:=h;obtain ⟨t,rfl⟩:=rx;exact rule i t s _ _ ⟨.int (g i),H,I.tok _,⟨_,rfl⟩,q⟩
theorem Bh:UnR X (unaryOp .USub) (rU fun i => .int (-i)):=unI fun _ _ _ _ _ q=>neg_int q
end
section
variable {X:Cx} {a b c:Expr} {ta tb tc:TE} {pos:Pos}
theorem CO:OpR X (GA .Lt) (rI0 fun i j => .bl (decide (i < j))):=wf fun _ _ _ _ _ _ _ q=>lt_int q
theorem CP:OpR X (GA .Gt) (rI0 fun i j => .bl (decide (j < i))):=wf fun _ _ _ _ _ _ _ q=>gt_int q
theorem CQ:OpR X (GA .GtE) (rI0 fun i j => .bl (decide (j<=i))):=wf fun _ _ _ _ _ _ _ q=>ge_int q
theorem OpR.or {f:e7->e7->Sem e7} {r r':R2} (h:OpR X f r) (h':OpR X f r'):OpR X f (fun x y H Q=>r x y H Q∨r' x y H Q):=by
 intro pins s σ H x y v u Q I rx ry q
 rcases q with q | q
 ·exact h pins s σ H x y v u Q I rx ry q
 ·exact h' pins s σ H x y v u Q I rx ry q
theorem zk {op:CmpOp} {r:R2} (ho:OpR X (GA op) r) (j:PE X a ta) (z:PE X b tb) (hm:IW op b=false):PE X (.Compare a [op] [b] pos) (tOp r ta tb):=by
 intro pins s σ H Q I h;exact wpAny_Compare1 (we j z I h fun v u s2 x y H2 B rx ry q=>ho pins s2 σ H2 x y v u Q B rx ry q) hm
noncomputable def yr (t:TE):TT:=fun σ H Q=>t σ H fun x H' => ∃ k,x = .bl k/\Q k H'
theorem zm {op:CmpOp} {r:R2} (ho:OpR X (GA op) r) (j:PE X a ta) (q:PE X b tb) (hm:IW op b=false):PT X (.Compare a [op] [b] pos) (yr (tOp r ta tb)):=by
 intro pins s σ H Q I h;refine wpAny_isTrue_Compare1 (thn (j pins s σ H _ I h) fun v s1 ⟨x,H1,B,r1,F⟩=>thn (q pins s1 σ H1 _ B F) fun u s2 ⟨y,H2,G,r2,J⟩ =>
  thn (ho pins s2 σ H2 x y v u _ G r1 r2 J) fun c s3 ⟨z,L,O,r3,k,e,U⟩ => ?_) hm
 subst e
 cases r3
 exact HN ⟨L,O,U⟩
def wg (K:Frag) (x:V) (H:Hp) (k:Bool):Prop :=
 match x with
 | .non=>k=false
 | .bl b=>k=b
 | .int i=>k=(i != 0)
 | .str y=>y.length<=D0/\k=((y.length:Int) != 0)
 | .byt y=>y.size<=D0/\k=((y.size:Int) != 0)
 | .ref p=>(∃ xs,SqL K H p xs/\k = !xs.isEmpty)∨(∃ xs,SqT K H p xs/\k = !xs.isEmpty) ∨ ∃ kvs,H p=some (.dK kvs)/\k = !kvs.isEmpty
 | _=>False
theorem qV {κ:Type} {kvs:List (κ × V)} {vs:List (κ × e7)} (r:KV kvs vs):(!vs.isEmpty) = !kvs.isEmpty:=by
 cases r <;> rfl
theorem iA {xs:List V} {its:List e7} (r:Vals xs its):(!its.toArray.isEmpty) = !xs.isEmpty:=by
 cases r <;> simp
theorem fw:(D0:Nat) < 2 ^ 63:=by rw [hH];decide
theorem Bi:DS X (fun x H Q => ∃ k,wg X.K x H k/\Q k H):=by
 intro pins s σ H x v Q I rx h;obtain ⟨k,e,q⟩:=h;have F:=fw;have hs:D0=16777216:=hH
 cases x with
 | non =>
   cases rx
   have e':k=false:=e;subst e';exact truthy_none ⟨H,I,q⟩
 | bl b =>
   cases rx
   have e':k=b:=e;subst e';exact HN ⟨H,I,q⟩
 | int i =>
   obtain ⟨t,rfl⟩:=rx;have e':k=(i != 0):=e;subst e';exact PySem.P.truthy_int ⟨H,I,q⟩
 | str y =>
   obtain ⟨t,rfl⟩:=rx;obtain ⟨z,e'⟩:y.length<=D0/\k=((y.length:Int) != 0):=e;subst e';exact PySem.P.truthy_str (by omega) ⟨H,I.tok _,q⟩
 | byt y =>
   obtain ⟨t,rfl⟩:=rx;obtain ⟨z,e'⟩:y.size<=D0/\k=((y.size:Int) != 0):=e;subst e';exact PySem.W.truthy_bytes (by omega) ⟨H,I.tok _,q⟩
 | ref p =>
   cases rx
   have e':(∃ xs,SqL X.K H p xs/\k = !xs.isEmpty)∨(∃ xs,SqT X.K H p xs/\k = !xs.isEmpty) ∨ ∃ kvs,H p=some (.dK kvs)/\k = !kvs.isEmpty:=e
   rcases e' with ⟨xs,hx,e'⟩ | ⟨xs,hx,e'⟩ | ⟨kvs,hx,e'⟩
   ·subst e';obtain ⟨its,r,pl,j⟩:=I.list hx;have hlen:=r.length;exact wpAny_truthy_list pl.isList (by simp only [D1];omega) ⟨H,I.tok _,by rw [iA r];exact q⟩
   ·subst e';obtain ⟨its,r,pl,j⟩:=I.tuple hx;have hlen:=r.length;exact truthy_tuple pl (by simp only [D1];omega) ⟨H,I.tok _,by rw [iA r];exact q⟩
   ·subst e';obtain ⟨j,B,vs,r,m⟩:kvs.length<=D0/\(p==H4)=false /\ ∃ vs,KV kvs vs/\s.heap.DictOf (aJ X.prog X.w) p vs:=I.hok p _ hx;have hlen:kvs.length=vs.length:=IU r;exact wpAny_truthy_dict B m (by omega) ⟨H,I.tok _,by rw [qV r];exact q⟩
 | _=>exact (show False from e).elim
theorem wj (j:PE X a ta) (he:∀ whole,isTrue a X.env whole=(do let v <- whole;Iw a.pos;holding [v] (truthy v))) :
 PT X a (fun σ H Q=>ta σ H fun x H' => ∃ k,wg X.K x H' k/\Q k H'):=by
 intro pins s σ H Q I h;exact isTrue_plain (thn (j pins s σ H _ I h) fun v s1 ⟨x,H1,q,r1,z⟩=>Bi pins s1 σ H1 x v Q q r1 z) (he _)
theorem qW:OpR X (GY .Add) (fun x y H Q => ∃ i j,x = .str i/\y = .str j/\i.length+j.length<=D0/\Q (.str (i++j)) H):=by
 intro pins s σ H x y v u Q I rx ry h;obtain ⟨i,j,rfl,rfl,z,q⟩:=h;obtain ⟨t,rfl⟩:=rx;obtain ⟨t',rfl⟩:=ry;exact add_str (fun t' tk=>⟨.str (i++j),H,I.tok _,⟨_,rfl⟩,q⟩) z
theorem cq {x:V} {us:List e7} (r:Vals [x] us):∃ u,us=[u]/\RelV x u:=by
 cases r with
 | cons r1 r2=>cases r2;exact ⟨_,rfl,r1⟩
theorem lH {x y:V} {us:List e7} (r:Vals [x,y] us):∃ u w',us=[u,w']/\RelV x u/\RelV y w':=by
 cases r with
 | cons r1 r2 =>
   cases r2 with
   | cons r3 j=>cases j;exact ⟨_,_,rfl,r1,r3⟩
theorem wk:CallR X (.builtin "abs") (fun xs H Q => ∃ i,xs=[.int i]/\Q (.int (if i < 0 then -i else i)) H):=by
 intro pins s σ H xs us Q I r h;obtain ⟨i,rfl,q⟩:=h;obtain ⟨u,rfl,t,rfl⟩:=cq r;exact call_abs_int fun u tk=>⟨.int (if i < 0 then -i else i),H,I.tok _,⟨_,rfl⟩,q⟩
theorem tq (B:X.calm=true):CallR X (.builtin "max") (fun xs H Q => ∃ i j,xs=[.int i, .int j]/\Q (.int (if j > i then j else i)) H):=by
 intro pins s σ H xs us Q I r h;obtain ⟨i,j,rfl,q⟩:=h;obtain ⟨u,w',rfl,⟨t,rfl⟩,⟨t',rfl⟩⟩:=lH r;refine max_two_ints (I.ok.hd B) fun h' tk k=>⟨_,H,I.kept k, ?_,q⟩
 by_cases z:j > i
 ·rw [if_pos z,if_pos z];exact ⟨_,rfl⟩
 ·rw [if_neg z,if_neg z];exact ⟨_,rfl⟩
theorem tt (B:X.calm=true):CallR X (.builtin "min") (fun xs H Q => ∃ i j,xs=[.int i, .int j]/\Q (.int (if j < i then j else i)) H):=by
 intro pins s σ H xs us Q I r h;obtain ⟨i,j,rfl,q⟩:=h;obtain ⟨u,w',rfl,⟨t,rfl⟩,⟨t',rfl⟩⟩:=lH r;refine min_two_ints (I.ok.hd B) fun h' tk k=>⟨_,H,I.kept k, ?_,q⟩
 by_cases z:j < i
 ·rw [if_pos z,if_pos z];exact ⟨_,rfl⟩
 ·rw [if_neg z,if_neg z];exact ⟨_,rfl⟩
theorem tw:CallR X (.type "int") (fun xs H Q=>(∃ i,xs=[.int i]/\Q (.int i) H) ∨ ∃ k,xs=[.bl k]/\Q (.int (if k then 1 else 0)) H):=by
 intro pins s σ H xs us Q I r h
 rcases h with ⟨i,rfl,q⟩ | ⟨k,rfl,q⟩
 ·obtain ⟨u,rfl,t,rfl⟩:=cq r;exact call_int_int ⟨.int i,H,I,⟨_,rfl⟩,q⟩
 ·obtain ⟨u,rfl,r1⟩:=cq r
  cases r1
  exact call_int_bool ⟨.int (if k then 1 else 0),H,I.tok _,⟨_,rfl⟩,q⟩
def DU (K:Frag) (x:V) (H:Hp) (n:Nat):Prop :=
 match x with
 | .str y=>y.length<=D0/\n=y.length
 | .byt y=>y.size<=D0/\n=y.size
 | .ref p=>(∃ xs,SqL K H p xs/\n=xs.length) ∨ ∃ xs,SqT K H p xs/\n=xs.length
 | _=>False
theorem wl:CallR X (.builtin "len") (fun xs H Q => ∃ x n,xs=[x]/\DU X.K x H n/\Q (.int n) H):=by
 intro pins s σ H xs us Q I r h;obtain ⟨x,n,rfl,e,q⟩:=h;obtain ⟨u,rfl,rx⟩:=cq r;have B:=fw;have hs:D0=16777216:=hH
 cases x with
 | str y =>
   obtain ⟨t,rfl⟩:=rx;obtain ⟨j,e'⟩:y.length<=D0/\n=y.length:=e;subst e';exact len_str (by omega) ⟨.int _,H,I.tok _,⟨_,rfl⟩,q⟩
 | byt y =>
   obtain ⟨t,rfl⟩:=rx;obtain ⟨j,e'⟩:y.size<=D0/\n=y.size:=e;subst e';exact PySem.W.len_bytes (by omega) ⟨.int _,H,I.tok _,⟨_,rfl⟩,q⟩
 | ref p =>
   cases rx
   have e':(∃ xs,SqL X.K H p xs/\n=xs.length) ∨ ∃ xs,SqT X.K H p xs/\n=xs.length:=e
   rcases e' with ⟨xs,hx,e'⟩ | ⟨xs,hx,e'⟩
   ·subst e';obtain ⟨its,r',pl,z⟩:=I.list hx;have hlen:=r'.length;exact Calls.call_len_list pl.isList (by simp only [D1];omega) ⟨.int xs.length,H,I.tok _,⟨_,by simp only [D1];rw [hlen]⟩,q⟩
   ·subst e';obtain ⟨its,r',pl,z⟩:=I.tuple hx;have hlen:=r'.length;exact len_tuple pl (by simp only [D1];omega) ⟨.int xs.length,H,I.tok _,⟨_,by simp only [D1];rw [hlen]⟩,q⟩
 | _=>exact (show False from e).elim
end
end
section
structure ObjM (h:Heap) (x dx C:Addr) (mA:Str->Option e7):Prop where
 obj:h.get? x=some (Lr C dx)
 ns:h.Ns1 dx mA
 ne:dx≠x
theorem tz {h:Heap} {dx:Addr} {mA:Str->Option e7} (n:h.Ns1 dx mA):∃ od,h.get? dx=some od /\ ∀ name,LH name od=some (mA name):=by
 obtain ⟨o,es,ep,ho,hd,B,_,hm⟩:=n;refine ⟨o,ho,fun name => ?_⟩;have e:=hm name;unfold nsFind findBy at e;rw [<- Array.find?_toList] at e;unfold LH;rw [hd];dsimp only
 split
 ·rename_i y q;rw [q] at e;exact congrArg some e
 ·rename_i q;rw [q] at e;have a:es.toList.any (·.refKey)=false:=by
   rw [Jj];intro y F;obtain ⟨z,t,j⟩:=B y (Array.mem_toList_iff.mp F);simp [DictEntry.refKey,j]
  have a' : ¬ es.toList.any (·.refKey)=true:=by rw [a];exact i4
  rw [if_neg a'];exact congrArg some e
theorem ObjM.look {h:Heap} {x dx C:Addr} {mA:Str->Option e7} (I:ObjM h x dx C mA):∃ od,PySem.W.InstAt h x (Lr C dx) C (some od) /\ ∀ name,LH name od=some (mA name) :=
 let ⟨od,ho,j⟩:=tz I.ns
 ⟨od,⟨I.obj,rfl,rfl,ho⟩,j⟩
theorem OT {v:V} {o:Option e7} (r:RelO (some v) o):∃ u,o=some u/\RelV v u:=by
 cases o with
 | none=>exact (show False from r).elim
 | some u=>exact ⟨u,rfl,r⟩
section
variable {P:FR} {w:G7} {H H':Hp} {h h':Heap} {a C dx:Addr} {fs fs':List (Str×V)}
theorem zn (hok:HOk P w H h) (e:H a=some (.ins C dx fs)):∃ mA,ObjM h a dx C mA/\(∀ f,RelO (fs.lookup f) (mA f))/\PySem.Within mA (fs.map (·.1))/\fs.length<=1000/\H dx=some (.own a):=by
 obtain ⟨d,z,ne,ob,mA,n,r,q⟩:=(show ObjOk P w H h a (.ins C dx fs) from hok a _ e);exact ⟨mA,⟨ob,n,ne⟩,r,q,z,d⟩
end
structure Cls (K:Frag) (C:Addr):Prop where
 pg:Nu K C Str.empty=true
 hd:PySem.W.hasDictIn K C=true
 po:PySem.W.plainOver K C=true
 sa:PySem.W.findIn K (.ref C) "__setattr__" = some (some (.builtin "object.__setattr__"))
theorem Cls.get {K:Frag} {C:Addr} (c:Cls K C) (f:Str):Nu K C f=true:=c.pg
section
variable {X:Cx} {pins:List (Addr×Obj)} {σ:St} {H:Hp} {s:h8} {A:Gg} {E:e7->h8->Prop} {Q:e7->h8->Prop} {c:e7} {b:Bool}
inductive bN (K:Frag) (H:Hp):V->e7->Prop where
 | non:bN K H .non (.type "NoneType")
 | bl (x:Bool):bN K H (.bl x) (.type "bool")
 | int (i:Int):bN K H (.int i) (.type "int")
 | str (x:Str):bN K H (.str x) (.type "str")
 | flt (x:UInt64):bN K H (.flt x) (.type "float")
 | lst {a:Addr} {xs:List V} (e:H a=some (.lst xs)):bN K H (.ref a) (.type "list")
 | frz {a:Addr} {o:Obj} {xs:List V} (e:H a=some (.frz o (.lst xs))):bN K H (.ref a) (.type "list")
 | tup {a:Addr} {xs:List V} (e:SqT K H a xs):bN K H (.ref a) (.type "tuple")
 | dK {a:Addr} {kvs:List (Key×V)} (e:H a=some (.dK kvs)):bN K H (.ref a) (.type "dict")
 | dT {a:Addr} {kvs:List (List Key×V)} (e:H a=some (.dT kvs)):bN K H (.ref a) (.type "dict")
 | ins {a C dx:Addr} {fs:List (Str×V)} (e:H a=some (.ins C dx fs)) (cl:Cls K C) (ha:PySem.W.findIn K (.ref C) "__class__" = some (some (.builtin "object.__class__")))
    (hn:PySem.W.specialIn K (.builtin "object.__class__") "__get__" = some (some (.builtin "getset_descriptor.__get__"))) (htk:PySem.W.takesIn K (.builtin "object.__class__")=some true)
    (hm:PySem.W.mroIn K C (.type "object")=some true):bN K H (.ref a) (.ref C)
theorem tD {x:V} {u t:e7} (I:Inv X pins σ H s) (rx:RelV x u) (ty:bN X.K H x t) (e:PySem.W.kitOne X.K t c=some b) (h:∀ tk,Q (.bool b) { s with toks:=tk }) :
 FG (model X.prog X.w) A (call (.builtin "isinstance") [u,c]) Q E s:=by
 cases ty with
 | non=>cases (show u=HU from rx);exact GO N1 I.kIn GQ e (fun z=>nomatch z) h
 | bl y=>cases (show u=Ld y from rx);exact GO N3 I.kIn GQ e (fun z=>nomatch z) h
 | int i=>obtain ⟨t,q⟩:=(show ∃ t,u=KU i t from rx);cases q;exact GO Nv I.kIn GQ e (fun z=>nomatch z) h
 | str y=>obtain ⟨t,q⟩:=(show ∃ t,u=KW y t from rx);cases q;exact GO Nw I.kIn GQ e (fun z=>nomatch z) h
 | flt y=>obtain ⟨t,q⟩:=(show ∃ t,u=NV y t from rx);cases q;exact GO MK I.kIn GQ e (fun z=>nomatch z) h
 | @lst a xs ea =>
  cases (show u=G2 a from rx)
  obtain ⟨_,_,n,_,h1⟩:=(show ObjOk X.prog X.w H s.heap a (.lst xs) from I.hok a _ ea);exact GO Jk I.kIn ⟨_,h1,rfl⟩ e (fun z=>nomatch z) h
 | @frz a ob xs ea =>
  cases (show u=G2 a from rx)
  obtain ⟨_,_,_,n,_,h1⟩:=(show ObjOk X.prog X.w H s.heap a (.frz ob (.lst xs)) from I.hok a _ ea);exact GO Jk I.kIn ⟨_,h1,rfl⟩ e (fun z=>nomatch z) h
 | @tup a xs ea =>
  cases (show u=G2 a from rx)
  obtain ⟨_,_,p,_⟩:=I.tuple ea;obtain ⟨o,h1,h2,_⟩:=p;exact GO MM I.kIn ⟨o,h1,h2⟩ e (fun z=>nomatch z) h
 | @dK a kvs ea =>
  cases (show u=G2 a from rx)
  obtain ⟨_,_,vs,_,p⟩:=(show ObjOk X.prog X.w H s.heap a (.dK kvs) from I.hok a _ ea);obtain ⟨o,es,ep,h1,h2,_⟩:=p;exact GO Jl I.kIn ⟨o,h1,h2.1⟩ e (fun z=>nomatch z) h
 | @dT a kvs ea =>
  cases (show u=G2 a from rx)
  obtain ⟨_,_,xs,_,o,es,ep,h1,h2,_⟩:=(show ObjOk X.prog X.w H s.heap a (.dT kvs) from I.hok a _ ea);exact GO Jl I.kIn ⟨o,h1,h2.1⟩ e (fun z=>nomatch z) h
 | @ins a C dx fs ea cl ha hn htk hm =>
  cases (show u=G2 a from rx)
  obtain ⟨mA,O,_⟩:=zn I.hok ea;obtain ⟨od,J,_⟩:=O.look;exact GO (PySem.W.kitx_own (cl.get _) cl.hd ha hn htk hm) I.kIn J e (fun z=>nomatch z) h
end
end
section
structure Room (k:Nat) (A:Gg):Prop where
 hd:A.handled=none
 dp:A.depth+3*k+5 < recursionLimit
 un:A.units+16*k+200 < Ib
theorem Room.deeper {k:Nat} {A:Gg} (r:Room (k+1) A) (env:Env):Room k (A.deeper env) :=
 ⟨r.hd,by have:=r.dp;show A.depth+1+3*k+5 < _;omega,by have:=r.un;show A.units+3+16*k+200 < _;omega⟩
theorem Room.depth {k:Nat} {A:Gg} (r:Room k A):A.depth < recursionLimit:=by have:=r.dp;omega
theorem Room.units {k:Nat} {A:Gg} (r:Room k A):A.units+64 < Ib:=by have:=r.un;omega
noncomputable def Bj:TA:=fun _ H Q=>Q [] H
noncomputable def yt (ta:TE) (tr:TA):TA:=fun σ H Q=>ta σ H fun x H1=>tr σ H1 fun xs H2=>Q (x::xs) H2
section
variable {X:Cx} {e:Expr} {es:List Expr} {te:TE} {t:TA} {pos:Pos}
theorem iB:PA X [] Bj:=fun _ _ _ _ H Q I h=>Jm ⟨[],H,I, .nil,h⟩
theorem cm (j:PE X e te) (hr:PA X es t) (hs:FP (e::es) X.env=(false,eval e X.env)::FP es X.env:=by rfl):PA X (e::es) (yt te t):=by
 intro pos pins s σ H Q I h;rw [hs];show FG _ _ (spliced ((false,eval e X.env)::IC pos (FP es X.env))) _ _ s;refine Ja (thn (j pins s σ H _ I h) fun u s1 ⟨x,H1,q,r1,z⟩ => ?_);exact thn (hr pos pins s1 σ H1 _ q z) fun us s2 ⟨xs,H2,B,r2,F⟩=>⟨x::xs,H2,B, .cons r1 r2,F⟩
noncomputable def DV (t:TA):TE:=fun σ H Q=>t σ H fun xs H1=>xs.length<=D0 /\ ∀ p,H1 p=none->Q (.ref p) (upd H1 p (.tup xs))
noncomputable def DW (t:TA):TE:=fun σ H Q=>t σ H fun xs H1=>xs.length<=D0 /\ ∀ p,H1 p=none->Q (.ref p) (upd H1 p (.lst xs))
theorem tE {B} (h:PA X es t):PE X (.Tuple es B pos) (DV t):=by
 intro pins s σ H Q I hq;refine wpAny_Tuple_spliced (thn (h pos pins s σ H _ I hq) fun us s1 ⟨xs,H1,j,r,z,q⟩=>⟨by rw [<- r.length];exact z, ?_⟩)
 have hf:H1 s1.heap.objs.size=none:=j.hok.fresh (Fy _);refine ⟨.ref s1.heap.objs.size,upd H1 s1.heap.objs.size (.tup xs),j.laid (t':=s1.toks) (fun b u e=>h7 _ e) (Fy _) ?_,rfl,q _ hf⟩;exact ⟨z,us,r,⟨_,FF _ rfl,rfl,_,rfl⟩⟩
theorem Bk (h:PA X es t):PE X (.List es pos) (DW t):=by
 intro pins s σ H Q I hq;refine wpAny_List_spliced (thn (h pos pins s σ H _ I hq) fun us s1 ⟨xs,H1,j,r,z,q⟩=>⟨by rw [<- r.length];exact z, ?_⟩)
 have hf:H1 s1.heap.objs.size=none:=j.hok.fresh (Fy _);refine ⟨.ref s1.heap.objs.size,upd H1 s1.heap.objs.size (.lst xs),j.laid (t':=s1.toks) (fun b u e=>h7 _ e) (Fy _) ?_,rfl,q _ hf⟩;exact ⟨z,us,0,r,FF _ rfl⟩
end
noncomputable abbrev Sp:=List V->Hp->VK->XK->Prop
noncomputable abbrev CXT:=List Env->Hp->h8->XK->e7->h8->Prop
structure qX (P:FR) (w:G7) (K:Frag) (mg:Str->Option e7) (base:Heap) (A:Gg) (outer:List Env) (s:h8) (H:Hp):Prop where
 frames:A.frames=some outer
 mod:Mod K mg base
 bs:∀ b o,base.get? b=some o->s.heap.get? b=some o/\H b=none
 bsz:base.objs.size<=s.heap.objs.size
 funs:s.heap.FunFrames base outer
 frf:∀ b∈frs outer,H b=none
 hok:HOk P w H s.heap
 bare:KD s.gens
def CE (outer:List Env) (P:FR) (w:G7) (H:Hp) (s:h8) (Q:VK) (u:e7) (s':h8):Prop :=
 ∃ v H',s'.os=s.os/\KD s'.gens/\Un (frs outer) [] H H' s.heap s'.heap/\HOk P w H' s'.heap/\RelV v u/\Q v H'
def CR (CX:CXT) (outer:List Env) (P:FR) (w:G7) (H:Hp) (s:h8) (Q:VK) (E:XK) (r:Nx) (s':h8):Prop :=
 match r with
 | .ok (.ret u)=>CE outer P w H s Q u s'
 | .ok _=>False
 | .error e=>CX outer H s E e s'
structure dj (P:FR) (w:G7) (K:Frag) (mg:Str->Option e7) (base:Heap) (CX:CXT) (k:Nat) (f:Addr) (fd:ID) (ps:List Str) (sp:Sp):Prop where
 len:∀ vs H Q E,sp vs H Q E->vs.length=ps.length
 run:∀ (A:Gg) (outer:List Env) (s:h8) (H:Hp) (args:Args) (us:List e7) (vs:List V) (Q:VK) (E:XK),Room k A->qX P w K mg base A outer s H->N4 s fd args (ps.zip us)->Vals vs us->sp vs H Q E ->
  Iy (model P w) A (.call (.ref f) args) (CR CX outer P w H s Q E) s
section
variable {X:Cx} {pins:List (Addr×Obj)} {σ:St} {H:Hp} {s s':h8}
theorem Inv.env0 (I:Inv X pins σ H s):qX X.prog X.w X.K X.mg X.base X.A X.stack s H :=
 ⟨I.ok.frames,I.ok.mod,I.bs,G8 I.ok.bsz I.sz,I.stack,I.stkFree,I.hok,I.bare⟩
theorem Inv.after {Q:VK} {u:e7} (I:Inv X pins σ H s) (h:CE X.stack X.prog X.w H s Q u s'):EP X pins σ Q u s':=by
 obtain ⟨v,H',os,bare,un,hok,r,q⟩:=h;obtain ⟨j,g,d,t,os'⟩:=s';obtain rfl:os'=s.os:=os;exact ⟨v,H',I.call (h':=j) (g':=g) (d':=d) (t':=t) (ch := []) un hok bare (fun b z=>absurd z (by simp)),r,q⟩
end
noncomputable def yu (sp:Sp) (dvs:List V) (E:XK) (t:TA):TE:=fun σ H Q=>t σ H fun vs H1=>sp (vs++dvs) H1 Q E
def Binds (K:Frag) (fd:ID) (ps:List Str) (ds:List e7):Prop :=
 ∀ (s:h8) (us:List e7),K.In s.heap->(us++ds).length=ps.length->N4 s fd ⟨us,[]⟩ (ps.zip (us++ds))
theorem Binds.all {K:Frag} {fd:ID} {ps:List Str} (h:∀ us:List e7,us.length=ps.length->bindArgs fd ⟨us,[]⟩=pure (ps.zip us)):Binds K fd ps []:=fun s us _ j=>by
 rw [H0] at j ⊢;exact .of_eq (h us j)
def iC (CX:CXT) (X:Cx) (E:XK):Prop := ∀ (pins:List (Addr×Obj)) (σ:St) (H:Hp) (s:h8) (e:e7) (s':h8),Inv X pins σ H s->CX X.stack H s E e s'->X.xe e s'
section
variable {X:Cx} {CX:CXT} {k:Nat} {f C:Addr} {fd:ID} {ps:List Str} {sp:Sp} {dvs:List V} {ds:List e7} {E:XK} {x m:Str} {p pos apos:Pos} {e o:Expr} {es:List Expr} {ta:TE} {t:TA}
theorem tF {pins:List (Addr×Obj)} {σ:St} {H:Hp} {s:h8} {Q:VK} {us:List e7} {vs:List V} (F:dj X.prog X.w X.K X.mg X.base CX k f fd ps sp) (hr:Room k X.A) (q:Binds X.K fd ps ds) (hd:Vals dvs ds) (hx:iC CX X E)
 (I:Inv X pins σ H s) (r:Vals vs us) (h:sp (vs++dvs) H Q E):FG (model X.prog X.w) X.A (call (.ref f) us) (EP X pins σ Q) X.xe s:=by
 have r2:Vals (vs++dvs) (us++ds):=r.append hd;have z:(us++ds).length=ps.length:=by rw [<- r2.length];exact F.len _ _ _ _ h
 refine wpAny_call (Ii (F.run X.A X.stack s H ⟨us,[]⟩ (us++ds) (vs++dvs) Q E hr I.env0 (q s us I.kIn z) r2 h) fun r s' j => ?_)
 cases r with
 | error e=>exact hx pins σ H s e s' I j
 | ok fl =>
   cases fl with
   | ret u=>exact I.after j
   | next=>exact False.elim j
   | brk=>exact False.elim j
   | cont=>exact False.elim j
theorem zo (F:dj X.prog X.w X.K X.mg X.base CX k f fd ps sp) (hr:Room k X.A) (G:Gl X x) (hm:X.mg x=some (.ref f)) (J:IE X.K (.ref f)=true) (L:Binds X.K fd ps ds) (hd:Vals dvs ds) (hx:iC CX X E)
 (O:PA X (e::es) t) (j:(x==("__debug__":Str))=false:=by decide) (he:FP (e::es) X.env=(false,eval e X.env)::FP es X.env:=by rfl) (z:(IC pos (FP es X.env)).any (·.1)=false:=by rfl) :
 PE X (.Call (.Name x p) (e::es) [] pos) (yu sp dvs E t):=by
 intro pins s σ H Q I h;refine HE (pM I G hm ?_ j);refine PySem.W.callWith_K (h₀ := X.base) I.ok.mod.kin J (thn (O pos pins s σ H _ I h) fun us s1 ⟨vs,H1,B,r,q⟩=>⟨B.kIn, ?_⟩) he z;exact tF F hr L hd hx B r q
theorem wm (F:dj X.prog X.w X.K X.mg X.base CX k f fd ps sp) (hr:Room k X.A) (q:Gl X x) (hm:X.mg x=some (.ref f)) (z:IE X.K (.ref f)=true) (B:Binds X.K fd ps ds) (hd:Vals dvs ds) (hx:iC CX X E)
 (j:(x==("__debug__":Str))=false:=by decide):PE X (.Call (.Name x p) [] [] pos) (yu sp dvs E Bj):=by
 intro pins s σ H Q I h;refine HE (pM I q hm ?_ j);exact PySem.W.callWith_K0 I.kIn z (tF (us := []) F hr B hd hx I .nil h)
end
structure gc (N P:List Str) (sc:Scope):Prop where
 kind:sc.kind = .function
 co:sc.isCoroutine=false
 gen:sc.isGenerator=false
 nd:N.Nodup
 pre:N.take P.length=P
 par:∀ x∈P,sc.names.lookup x=some .local∨sc.names.lookup x=some .cell
 nofree:∀ y∈sc.names,y.2 ≠ .free
theorem kj {Hz:Str->Option HZ} {x:Str}:∀ {binds:List (Str×e7)} {m:Str->Option e7},(∀ v,(x,v)∉binds)->Ol Hz binds m x=m x
 | [],_,_=>rfl
 | (n,v)::r,m,h=>by
  unfold Ol;rw [kj fun w hw=>h w (FJ _ hw)]
  split
  ·have:x≠n:=by rintro rfl;exact h v Gv
   simp [this]
  ·rfl
theorem km {Hz:Str->Option HZ} {x:Str}:∀ {binds:List (Str×e7)} {m:Str->Option e7},(∀ v,(x,v)∉binds)->Om Hz binds m x=m x
 | [],_,_=>rfl
 | (n,v)::r,m,h=>by
  unfold Om;rw [km fun w hw=>h w (FJ _ hw)]
  split
  ·rfl
  ·have:x≠n:=by rintro rfl;exact h v Gv
   simp [this]
theorem kn {Hz:Str->Option HZ} {x:Str} {v:e7}:∀ {P:List Str} {vs:List e7} {i:Nat} {m:Str->Option e7},P.Nodup->P[i]? = some x->vs[i]? = some v->Hz x=some .local ->
 Ol Hz (P.zip vs) m x=some v
 | [],_,_,_,_,h,_,_=>by simp at h
 | _::_,[],_,_,_,_,h,_=>by simp at h
 | p::P,w::vs,0,m,nd,h1,h2,j=>by
   simp at h1 h2;subst h1;subst h2;show Ol Hz ((p,w)::P.zip vs) m p=_;unfold Ol;rw [kj fun v q=>(Hw.mp nd).1 (Lu q).1,if_pos j];simp
 | p::P,w::vs,i+1,m,nd,h1,h2,j=>by
   show Ol Hz ((p,w)::P.zip vs) m x=_;unfold Ol;exact kn (i:=i) (Hw.mp nd).2 (by simpa using h1) (by simpa using h2) j
theorem ko {Hz:Str->Option HZ} {x:Str} {v:e7}:∀ {P:List Str} {vs:List e7} {i:Nat} {m:Str->Option e7},P.Nodup->P[i]? = some x->vs[i]? = some v->Hz x≠some .local ->
 Om Hz (P.zip vs) m x=some v
 | [],_,_,_,_,h,_,_=>by simp at h
 | _::_,[],_,_,_,_,h,_=>by simp at h
 | p::P,w::vs,0,m,nd,h1,h2,j=>by
   simp at h1 h2;subst h1;subst h2;show Om Hz ((p,w)::P.zip vs) m p=_;unfold Om;rw [km fun v q=>(Hw.mp nd).1 (Lu q).1,if_neg j];simp
 | p::P,w::vs,i+1,m,nd,h1,h2,j=>by
   show Om Hz ((p,w)::P.zip vs) m x=_;unfold Om;exact ko (i:=i) (Hw.mp nd).2 (by simpa using h1) (by simpa using h2) j
noncomputable def cr (N:List Str) (vs:List V):St:=vs.map some++FA (N.length - vs.length) none
noncomputable def gO (CX:CXT) (P:FR) (w:G7) (K:Frag) (mg:Str->Option e7) (base:Heap) (N:List Str) (qual:Str) (scope:Scope) (f:Addr) (cd:e7) (A:Gg) (outer:List Env) (s:h8) (H:Hp) (E:XK):Cx where
 prog:=P
 w:=w
 K:=K
 mg:=mg
 base:=base
 A:=A.deeper (LI qual scope s.heap.objs.size f cd)
 N:=N
 s₀ := s
 H₀ := H
 env:=LI qual scope s.heap.objs.size f cd
 outer:=outer
 stack:=LI qual scope s.heap.objs.size f cd::outer
 ex := []
 calm:=true
 fn:=fun _=>true
 pn := []
 xe:=fun e s'=>FG (model P w) (A.deeper (LI qual scope s.heap.objs.size f cd)) (leaving (LI qual scope s.heap.objs.size f cd) e) (fun _ s''=>CX outer H s E e s'') (fun e' s''=>CX outer H s E e' s'') s'
theorem mn {sc:Scope} {n:Nat} {x:Str} (h:sc.names.lookup x=some .cell):∃ c,(Hs n sc.names []).lookup x=some c:=by
 have q:=Jn sc.names n [] (.inl h);exact Hm.mp q
theorem tG {CX:CXT} {P:FR} {w:G7} {K:Frag} {mg:Str->Option e7} {base:Heap} {N ps:List Str} {qual:Str} {scope:Scope} {f:Addr} {cd:e7} {A:Gg} {outer:List Env} {s s1:h8} {H:Hp} {E:XK} {us:List e7} {vs:List V}
 (S:gc N ps scope) (hd:A.handled=none) (j:qX P w K mg base A outer s H) (U:vs.length=ps.length) (r:Vals vs us)
 (x:InCallC s s.heap.objs.size (Ol (LI qual scope s.heap.objs.size f cd).kindOf (ps.zip us) fun _=>none) (Hs (s.heap.objs.size+1) scope.names []) (Om (LI qual scope s.heap.objs.size f cd).kindOf (ps.zip us) fun _=>none) s1) :
 Inv (gO CX P w K mg base N qual scope f cd A outer s H E) [] (cr N vs) H s1:=by
 have L:ps.length<=N.length:=by have:=congrArg Hh S.pre;rw [G9] at this;omega
 obtain ⟨h1,tk,rfl,G⟩:=x.done;have noA:∀ b:Addr,b∉(gO CX P w K mg base N qual scope f cd A outer s H E).ex:=fun b z=>absurd (show b∈([]:List Addr) from z) (by simp)
 refine ⟨⟨j.mod,S.kind,rfl,rfl,Fy _,fun y z c h1 h2 => ?_,fun y B => ?_,fun y c _ h => ?_,fun _=>hd,Around.frames_deeper j.frames, .inr ⟨rfl,rfl⟩,fun b z=>absurd z (noA b),j.bs,j.bsz,fun b _ _=>noA b,fun b z=>absurd z (noA b),j.funs,j.frf⟩,
  rfl,j.bare,Un.kept G,⟨_,x.toInCall.ns,fun i y v h1 h2 Y => ?_⟩,fun y c h=>⟨_,x.cell y c h⟩,j.hok.fresh (Fy _),fun y c h => ?_,fun p F=>absurd (show p∈([]:List (Addr×Obj)) from F) (by simp),j.hok.kept G, ?_⟩
 ·exact name_of_addr x.apart (GR h1) (GR h2)
 ·have B:scope.names.lookup y=some .cell∨scope.names.lookup y=some .free:=B
  rcases B with B | B
  ·exact mn B
  ·exact absurd rfl (S.nofree _ (GR B))
 ·exact II (x.above y c (GR h))
 ·have hi:i < vs.length:=by
   unfold cr at h2
   by_cases hi:i < vs.length
   ·exact hi
   ·rw [z4 (by simpa using hi)] at h2
    rw [KZ] at h2
    split at h2 <;> cases h2
  have O:vs[i]? = some v:=by
   unfold cr at h2;rw [FH (by simpa using hi),FK] at h2
   cases e:vs[i]? with
   | none=>rw [e] at h2;cases h2
   | some a=>rw [e] at h2;cases h2;rfl
  obtain ⟨u,J,rv⟩:=r.get O;have F:ps[i]? = some y:=by
   rw [<- S.pre,IX (by omega)];exact h1
  have ndP:ps.Nodup:=by rw [<- S.pre];exact S.nd.sublist (List.take_sublist _ _)
  refine ⟨u,rv, ?_⟩
  rcases S.par y (FU F) with k | k
  ·exact .inl ⟨k,kn ndP F J k⟩
  ·obtain ⟨c,e⟩:=mn (n:=s.heap.objs.size+1) k;refine .inr ⟨.inl k,c,e, ?_⟩;have q:=x.cell y c e;rw [ko ndP F J (by show scope.names.lookup y≠_;rw [k];decide)] at q
   exact q
 ·exact j.hok.fresh (II (x.above y c (GR h)))
 ·unfold cr;show _=N.length;rw [i5,gV,Ly];omega
theorem CS {CX:CXT} {P:FR} {w:G7} {K:Frag} {mg:Str->Option e7} {base:Heap} {k:Nat} {f:Addr} {name qual:Str} {params:Arguments} {body:List Stmt} {scope:Scope} {dV kV doc pm cdv ct oc:e7} {an od:Option Addr}
 {osl:Array (Option e7)} {N ps:List Str} {sp:Sp} (lk:K.lookup f=some ⟨oc,od, .func (Ij name qual params body scope dV kV doc pm an cdv ct),osl⟩) (G:Ki K cdv qual=true) (S:gc N ps scope)
 (len:∀ vs H Q E,sp vs H Q E->vs.length=ps.length)
 (j:∀ (A:Gg) (outer:List Env) (s:h8) (H:Hp) (vs:List V) (Q:VK) (E:XK),Room k (A.deeper (LI qual scope s.heap.objs.size f cdv))->sp vs H Q E ->
   ∃ t,PSs (gO CX P w K mg base N qual scope f cdv A outer s H E) body t/\t { nx:=fun _ H'=>Q .non H',rt:=Q } (cr N vs) H) :
 dj P w K mg base CX (k+1) f (Ij name qual params body scope dV kV doc pm an cdv ct) ps sp:=by
 refine ⟨len,fun A outer s H args us vs Q E hr B L r F => ?_⟩;have O:=len _ _ _ _ F;have KX:K.In s.heap:=B.mod.kin.keeps fun b o e=>(B.bs b o e).1;have lim:s.heap.NoLimit:=B.mod.nolimit.keeps fun b o e=>(B.bs b o e).1;have z:∀ y∈ps.zip us,scope.names.lookup y.1=some .local∨(scope.names.lookup y.1=some .cell/\((Hs (s.heap.objs.size+1) scope.names []).lookup y.1).isSome=true):=fun ⟨n,v⟩ hy=>by
  rcases S.par n (Lu hy).1 with q | q
  ·exact .inl q
  ·exact .inr ⟨q,Jn _ _ _ (.inl q)⟩
 refine codeAny_call_function hr.depth (KX _ _ lk) rfl S.co S.gen rfl (PySem.W.codeRec_of KX G) (L _ _ _ _ ?_);refine wpAny_newFunctionEnv_cells S.kind z fun env he s1 x => ?_;subst he;refine ⟨lim.keeps x.toInCall.keep,codeAny_func ?_⟩;obtain ⟨t,U,Y⟩:=j A outer s H vs Q E (hr.deeper _) F;have I:Inv (gO CX P w K mg base N qual scope f cdv A outer s H E) [] (cr N vs) H s1:=tG S hr.hd B O r x;refine H8 (U [] s1 (cr N vs) H _ I Y) (fun fl s' hs => ?_) fun e s' hs=>hs;have fin:∀ {σ':St} {H':Hp} {v:V} {u:e7},Inv (gO CX P w K mg base N qual scope f cdv A outer s H E) [] σ' H' s'->RelV v u->Q v H'->CE outer P w H s Q u s' :=
  fun {σ' H' v u} J rv q=>⟨v,H',J.os,J.bare,J.base,J.hok,rv,q⟩
 cases fl with
 | ret u =>
   obtain ⟨v, σ',H',J,rv,q⟩:=hs;exact fin J rv q
 | next =>
   obtain ⟨σ',H',J,q⟩:=hs;exact fin (v:=V.non) (u:=HU) J rfl q
 | brk =>
   obtain ⟨_,_,_,q⟩:=hs;exact False.elim q
 | cont =>
   obtain ⟨_,_,_,q⟩:=hs;exact False.elim q
end
section
section
variable {X:Cx} {x:Str} {p pos:Pos} {e:Expr} {es:List Expr} {t:TA} {id T:String} {r:List V->Hp->VK->Prop}
noncomputable def tCB (r:List V->Hp->VK->Prop) (t:TA):TE:=fun σ H Q=>t σ H fun vs H1=>r vs H1 Q
theorem bf (z:CallR X (.builtin id) r) (B:Gl X x) (hm:X.mg x=none) (F:Hy x=some (.builtin id)) (G:PA X (e::es) t) (J:x ≠ "__name__" := by decide) (j:(x==("__debug__":Str))=false:=by decide)
 (he:FP (e::es) X.env=(false,eval e X.env)::FP es X.env:=by rfl) (q:(IC pos (FP es X.env)).any (·.1)=false:=by rfl):PE X (.Call (.Name x p) (e::es) [] pos) (tCB r t):=by
 intro pins s σ H Q I h;refine HE (cA I B hm F ?_ J j);exact PyProof.Rows.callWith_builtin1 (thn (G pos pins s σ H _ I h) fun us s1 ⟨vs,H1,L,r1,O⟩=>z pins s1 σ H1 vs us Q L r1 O) he q
theorem fA (z:CallR X (.type T) r) (B:Gl X x) (hm:X.mg x=none) (F:Hy x=some (.type T)) (G:PA X (e::es) t) (J:x ≠ "__name__" := by decide) (j:(x==("__debug__":Str))=false:=by decide)
 (he:FP (e::es) X.env=(false,eval e X.env)::FP es X.env:=by rfl) (q:(IC pos (FP es X.env)).any (·.1)=false:=by rfl):PE X (.Call (.Name x p) (e::es) [] pos) (tCB r t):=by
 intro pins s σ H Q I h;refine HE (cA I B hm F ?_ J j);exact GH (thn (G pos pins s σ H _ I h) fun us s1 ⟨vs,H1,L,r1,O⟩=>z pins s1 σ H1 vs us Q L r1 O) he q
end
end
end L2
namespace HT
open PySem PyProof.Rows
noncomputable def lexLt:List Int->List Int->Bool
 | [],[] => false
 | [],_::_=>true
 | _::_,[] => false
 | x::xs,y::ys=>if x=y then lexLt xs ys else decide (x < y)
section
variable {prog:FR} {w:G7} {A:Gg} {E:e7->h8->Prop} {s:h8}
theorem cat_tup {t b:Addr} {vs ws:List e7} {Q:e7->h8->Prop} (U:IsTup s.heap t vs.toArray) (Y:IsTup s.heap b ws.toArray) (G:vs≠[])
 (h1:ws=[]->Q (.ref t) s) (h2:ws≠[]->Q (.ref s.heap.objs.size) { s with heap:=s.heap.push { cls := .type "tuple",data := .seq (vs++ws).toArray } })
 (hsz:vs.length+ws.length<=D0):FG (model prog w) A (GY .Add (.ref t) (.ref b)) Q E s:=by
 obtain ⟨⟨cls,dd,data,sl⟩,ho,J,n,hd⟩:=id U;obtain ⟨⟨L,q,data2,z⟩,j,B,O,hd2⟩:=id Y;simp only at J hd B hd2;subst J hd B hd2;have e:vs.toArray++ws.toArray=(vs++ws).toArray:=by simp
 by_cases hw:ws=[]
 ·exact N5 ⟨_,ho,rfl⟩ ⟨_,j,rfl⟩ L3 Mu Jo Jf (IY _ _)
   (tuple_addW1 t b vs.toArray ws.toArray n O dd q sl z (by simpa using G) (by simp [hw])) ⟨ho,j,h1 hw⟩
 ·refine N5 ⟨_,ho,rfl⟩ ⟨_,j,rfl⟩ L3 Mu Jo Jf (IY _ _)
   (tuple_addW2 t b vs.toArray ws.toArray n O dd q sl z (by simpa using G) (by simpa using hw) (by rw [D1,D1];exact hsz)) ⟨ho,j, ?_⟩
  rw [e];exact h2 hw
noncomputable def sIx (n d:Nat):Option Int->Nat
 | none=>d
 | some v=>if v < 0 then (v+(n:Int)).toNat else min v.toNat n
theorem Bl (n d:Nat) (hd:d<=n) (o:Option Int):sIx n d o<=n:=by
 cases o with
 | none=>exact hd
 | some v =>
   show (if v < 0 then (v+(n:Int)).toNat else min v.toNat n)<=n
   by_cases hv:v < 0
   ·rw [if_pos hv];omega
   ·rw [if_neg hv];exact Nat.min_le_right _ _
theorem pO (v:Int) (n d:Nat):(if v < 0 then max (v+(n:Int)) 0 else min v (n:Int))=((sIx n d (some v):Nat):Int):=by
 show (if v < 0 then max (v+(n:Int)) 0 else min v (n:Int))=(((if v < 0 then (v+(n:Int)).toNat else min v.toNat n):Nat):Int)
 by_cases hv:v < 0
 ·simp only [if_pos hv];omega
 ·simp only [if_neg hv];omega
theorem qY (lo hi:Option Int) (n:Nat):IQ lo hi 1 (n:Int)=(((sIx n 0 lo:Nat):Int),((sIx n n hi:Nat):Int)):=by
 have h1 : ¬ ((1:Int) < 0):=by omega
 unfold IQ;simp only [h1,if_false];refine Prod.ext ?_ ?_
 ·cases lo with
  | none=>rfl
  | some v=>exact pO v n 0
 ·cases hi with
  | none=>rfl
  | some v=>exact pO v n n
theorem qZ (i j:Nat):HI (i:Int) (j:Int) 1=j - i:=by
 unfold HI;have h1:(1:Int) > 0:=by omega
 simp only [h1,if_true,Int.ediv_one]
 split <;> omega
theorem iD {v:e7} {o:Option Int} {Q:Option Int->h8->Prop} (p:Lg v o) (h:Q o s):FG (model prog w) A (Builtin.Slice.slicePartIndex v) Q E s:=by
 cases p with
 | none=>exact slicePart_none h
 | int i t=>exact slicePart_int h
theorem dl {sl:Addr} {vl vu:e7} {lo hi:Option Int} {n:Nat} {Q:Int×Int×Nat->h8->Prop} (hs:s.heap.IsSliceOf sl vl vu .none) (pl:Lg vl lo) (pu:Lg vu hi)
 (h:Q (((sIx n 0 lo:Nat):Int),1,sIx n n hi - sIx n 0 lo) s):FG (model prog w) A (Kj (.ref sl) (pure (n:Int))) Q E s:=by
 obtain ⟨os,j,z,q⟩:=id hs;unfold Kj Builtin.Slice.sliceFields;refine e6 (e6 (Gm j q (x:=vl) rfl (e6 (Gm j q (x:=vu) rfl (e6 (Gm j q (x := .none) rfl (hQ ?_)))))));refine e6 (slicePart_none ?_);show FG _ _ (if ((1:Int)==0)=true then _ else _) _ _ s
 rw [if_neg (by decide)]
 refine e6 (iD pl (e6 (iD pu (e6 (hQ ?_)))));show FG _ _ (match IQ lo hi 1 (n:Int) with | (lo,hi)=>pure (lo,(1:Int),HI lo hi 1)) _ _ s
 rw [qY lo hi n];show FG _ _ (pure (((sIx n 0 lo:Nat):Int),(1:Int),HI ((sIx n 0 lo:Nat):Int) ((sIx n n hi:Nat):Int) 1)) _ _ s;rw [qZ];exact hQ h
theorem wn (xs:Array e7) (i k:Nat):((Gc k).filterMap fun (m:Nat)=>xs[((i:Int)+(m:Int)*1).toNat]?).toArray=((xs.toList.drop i).take k).toArray:=by
 have e:(fun (m:Nat)=>xs[((i:Int)+(m:Int)*1).toNat]?)=fun m=>xs[i+m]? := by
  funext m
  have:((i:Int)+(m:Int)*1).toNat=i+m:=by omega
  rw [this]
 rw [e];have:=pick_run xs i k;rw [List.filterMap_map] at this;have j:((fun x=>xs[x]?) ∘ fun x=>i+x)=fun m=>xs[i+m]? := rfl;rw [j] at this;rw [this]
theorem getItem_tuple_cut {t sl:Addr} {items:Array e7} {vl vu:e7} {lo hi:Option Int} {Q:e7->h8->Prop} (z:IsTup s.heap t items) (hs:s.heap.IsSliceOf sl vl vu .none) (pl:Lg vl lo) (pu:Lg vu hi)
 (hw : ¬ (sIx items.size 0 lo=0/\sIx items.size items.size hi=items.size))
 (h:Q (.ref s.heap.objs.size) { s with heap:=s.heap.push { cls := .type "tuple",data := .seq ((items.toList.drop (sIx items.size 0 lo)).take (sIx items.size items.size hi - sIx items.size 0 lo)).toArray } })
 (hsz:items.size<=D0):FG (model prog w) A (Lh (.ref t) (.ref sl)) Q E s:=by
 have j:sizeOk (.seq ((items.toList.drop (sIx items.size 0 lo)).take (sIx items.size items.size hi - sIx items.size 0 lo)).toArray):=by
  show ((items.toList.drop (sIx items.size 0 lo)).take (sIx items.size items.size hi - sIx items.size 0 lo)).toArray.size<=D0;rw [D1,G9,JE,GC];omega
 have O:sIx items.size items.size hi<=items.size:=Bl _ _ (Fy _) hi;obtain ⟨os,B,F,L⟩:=id hs;have G:s.TypeIs (.ref sl) "slice" := ⟨os,B,F⟩;unfold Lh
 try with_reducible refine Gz ?_
 first | refine e6 (hQ ?_) | skip
 refine e6 (N6 z.typeIs (by decide) ?_)
 refine e6 (Ga (name:=q7 "__getitem__") z.typeIs Hi
  (Gq Hi z.typeIs Mj ?_ (MN _ _)))
 show FG _ _ (Kk (.ref t) >>= _) _ _ s;refine e6 (tupleItemsOf_ z ?_);refine e6 (Jp G ?_);rw [if_pos (by decide)]
 refine e6 (dl hs pl pu ?_);have J : ¬ ((((sIx items.size 0 lo:Nat):Int)==0&&(1:Int)==1&&(sIx items.size items.size hi - sIx items.size 0 lo)==items.size)=true):=by
  intro q;rw [hG,hG] at q;have U:((sIx items.size 0 lo:Nat):Int)=0:=eq_of_beq q.1.1;have Y:sIx items.size items.size hi - sIx items.size 0 lo=items.size:=eq_of_beq q.2;exact hw ⟨by omega,by omega⟩
 show FG _ _ (if (((sIx items.size 0 lo:Nat):Int)==0&&(1:Int)==1&&(sIx items.size items.size hi - sIx items.size 0 lo)==items.size)=true then _ else _) _ _ s
 rw [if_neg J,wn]
 first
  | exact e6 (m:=HW _) (GU (hQ ⟨_,rfl,hQ h⟩) j)
  | exact e6 (m:=HW _) (GU (e6 (hQ (hQ ⟨_,rfl,hQ h⟩))) j)
  | exact e6 (e6 (m:=HW _) (GU (hQ (hQ ⟨_,rfl,hQ h⟩)) j))
  | exact e6 (e6 (m:=HW _) (GU (hQ ⟨_,rfl,hQ h⟩) j))
end
end HT
namespace L2
open PySem PySem.Spec PyProof.Rows
section
noncomputable abbrev TO:=St->Hp->(Option Int->Hp->Prop)->Prop
def PO (X:Cx) (e:Option Expr) (t:TO):Prop :=
 ∀ (pins:List (Addr×Obj)) (s:h8) (σ:St) (H:Hp) (Q:Option Int->Hp->Prop),Inv X pins σ H s->t σ H Q ->
  FG (model X.prog X.w) X.A (evalPart e X.env) (fun u s' => ∃ o H',Inv X pins σ H' s'/\Lg u o/\Q o H') X.xe s
noncomputable def zp:TO:=fun _ H Q=>Q none H
noncomputable def CT (t:TE):TO:=fun σ H Q=>t σ H fun x H1 => ∃ i,x = .int i/\Q (some i) H1
theorem r6 {ns:List Int}:∀ {us:List e7},Vals (ns.map V.int) us->N7 us ns:=by
 induction ns with
 | nil=>intro us r;rw [Jq] at r;cases r;exact .nil
 | cons n ns ih =>
   intro us r;rw [FL] at r
   cases r with
   | cons r1 r2 =>
     obtain ⟨t,e⟩:=r1;subst e;exact .cons n t (ih r2)
section
variable {X:Cx} {e:Expr} {te:TE} {lo hi:Option Expr} {tl th:TO} {pos p2:Pos}
theorem zq:PO X none zp:=by
 intro pins s σ H Q I h;rw [evalPart_none];exact hQ ⟨none,H,I, .none,h⟩
theorem zr (h:PE X e te):PO X (some e) (CT te):=by
 intro pins s σ H Q I hw;rw [evalPart_some];refine thn (h pins s σ H _ I hw) fun u s1 ⟨x,H1,j,r1,z⟩ => ?_;obtain ⟨i,rfl,q⟩:=z;obtain ⟨t,rfl⟩:=r1;exact ⟨some i,H1,j, .int i t,q⟩
def SlR (X:Cx) (r:V->Option Int->Option Int->Hp->VK->Prop):Prop :=
 ∀ (pins:List (Addr×Obj)) (s:h8) (σ:St) (H:Hp) (x:V) (v vl vu:e7) (lo hi:Option Int) (sl:Addr) (Q:VK),Inv X pins σ H s->RelV x v->s.heap.IsSliceOf sl vl vu .none->Lg vl lo->Lg vu hi->r x lo hi H Q ->
  ∃ T id,Oo (.type T) "__getitem__" = pure (some (.builtin id))/\s.TypeIs v T/\FG (model X.prog X.w) X.A (Lh v (.ref sl)) (EP X pins σ Q) X.xe s
theorem SlR.or {r r':V->Option Int->Option Int->Hp->VK->Prop} (h:SlR X r) (h':SlR X r'):SlR X (fun x lo hi H Q=>r x lo hi H Q∨r' x lo hi H Q):=by
 intro pins s σ H x v vl vu lo hi sl Q I rx hs pl pu q
 rcases q with q | q
 ·exact h pins s σ H x v vl vu lo hi sl Q I rx hs pl pu q
 ·exact h' pins s σ H x v vl vu lo hi sl Q I rx hs pl pu q
noncomputable def tSl (r:V->Option Int->Option Int->Hp->VK->Prop) (te:TE) (tl th:TO):TE:=fun σ H Q=>te σ H fun x H1=>tl σ H1 fun l H2=>th σ H2 fun u H3=>r x l u H3 Q
theorem wo {r:V->Option Int->Option Int->Hp->VK->Prop} (hr:SlR X r) (he:PE X e te) (z:PO X lo tl) (B:PO X hi th):PE X (.Subscript e (.Slice lo hi none p2) pos) (tSl r te tl th):=by
 intro pins s σ H Q I h;refine Subscript_ (thn (he pins s σ H _ I h) fun v s1 ⟨x,H1,F,r1,G⟩ => ?_);refine wpAny_Slice (thn (z pins s1 σ H1 _ F G) fun vl s2 ⟨l,H2,J,pl,L⟩=>thn (B pins s2 σ H2 _ J L) fun vu s3 ⟨u,j,O,pu,U⟩ => ?_);rw [evalPart_none];refine hQ ?_;have Y:Inv X pins σ j { s3 with heap:=s3.heap.push { cls := .type "slice",data := .fields #[vl,vu, .none] } }:=O.kept (t':=s3.toks) fun b ob q=>h7 _ q
 obtain ⟨T,id,Z,ht,hg⟩:=hr pins { s3 with heap:=s3.heap.push { cls := .type "slice",data := .fields #[vl,vu, .none] } } σ j x v vl vu l u s3.heap.objs.size Q Y r1 (Heap.IsSliceOf.new ..) pl pu U
 show FG (model X.prog X.w) X.A (subscriptTail e (.Slice lo hi none p2) v (.ref s3.heap.objs.size)) (EP X pins σ Q) X.xe { s3 with heap:=s3.heap.push { cls := .type "slice",data := .fields #[vl,vu, .none] } }
 exact tail_any (ops := [.ref s3.heap.objs.size,v]) ht Z hg (by with_unfolding_all rfl)
noncomputable def fB (xs:List V) (lo hi:Option Int):List V:=(xs.drop (HT.sIx xs.length 0 lo)).take (HT.sIx xs.length xs.length hi - HT.sIx xs.length 0 lo)
theorem gF (xs:List V) (lo hi:Option Int):(fB xs lo hi).length<=xs.length:=by
 unfold fB;rw [G9,JE];omega
noncomputable def DX (K:Frag):V->Option Int->Option Int->Hp->VK->Prop:=fun x lo hi H Q => ∃ a xs,x = .ref a/\SqT K H a xs /\
 ¬ (HT.sIx xs.length 0 lo=0/\HT.sIx xs.length xs.length hi=xs.length) /\ ∀ p,H p=none->Q (.ref p) (upd H p (.tup (fB xs lo hi)))
theorem sl_tup:SlR X (DX X.K):=by
 intro pins s σ H x v vl vu lo hi sl Q I rx hs pl pu h;obtain ⟨a,xs,rfl,hx,hw,q⟩:=h
 cases rx
 obtain ⟨its,r,j,z⟩:=I.tuple hx;have hlen:its.toArray.size=xs.length:=by rw [D1];exact r.length.symm
 refine ⟨"tuple",_,PyProof.Rows.slot_tuple_getitem.lookup,j.typeIs, ?_⟩;refine HT.getItem_tuple_cut j hs pl pu (by rw [hlen];exact hw) ?_ (by rw [hlen];exact z)
 rw [hlen];refine ⟨.ref s.heap.objs.size,_,I.laid (t':=s.toks) (o := .tup (fB xs lo hi)) (fun b ob q=>h7 _ q) (Fy _) ?_,rfl,q _ (I.hok.fresh (Fy _))⟩;exact ⟨G8 (gF xs lo hi) z,_,(r.drop (HT.sIx xs.length 0 lo)).take (HT.sIx xs.length xs.length hi - HT.sIx xs.length 0 lo),Kf _ _⟩
noncomputable def yv (K:Frag):R2:=fun x y H Q => ∃ a b xs ys,x = .ref a/\y = .ref b/\SqT K H a xs/\SqT K H b ys/\xs≠[]/\xs.length+ys.length<=D0 /\
 (ys=[]->Q (.ref a) H)/\(ys≠[] -> ∀ p,H p=none->Q (.ref p) (upd H p (.tup (xs++ys))))
theorem Vals.nil_iff {xs:List V} {us:List e7} (r:Vals xs us):us=[]↔xs=[]:=by
 cases r with
 | nil=>simp
 | cons _ _=>simp
theorem op_catT:OpR X (GY .Add) (yv X.K):=by
 intro pins s σ H x y v u Q I rx ry h;obtain ⟨a,b,xs,ys,rfl,rfl,F,G,hx,j,J,L⟩:=h
 cases rx
 cases ry
 obtain ⟨its,r1,O,_⟩:=I.tuple F;obtain ⟨B,r2,p2,_⟩:=I.tuple G;refine HT.cat_tup O p2 (fun z=>hx (r1.nil_iff.mp z)) (fun z=>⟨.ref a,H,I,rfl,J (r2.nil_iff.mp z)⟩) (fun z => ?_) (by rw [<- r1.length, <- r2.length];exact j)
 refine ⟨.ref s.heap.objs.size,_,I.laid (t':=s.toks) (o := .tup (xs++ys)) (fun b ob q=>h7 _ q) (Fy _) ?_,rfl,L (fun w=>z (r2.nil_iff.mpr w)) _ (I.hok.fresh (Fy _))⟩;exact ⟨by rw [i5];exact j,_,r1.append r2,Kf _ _⟩
end
end
section
noncomputable def ixN (n:Nat) (i:Int):Option Nat:=if 0<=i then (if i < n then some i.toNat else none) else if -(n:Int)<=i then some (i+n).toNat else none
noncomputable def atI {α:Type} (xs:List α) (i:Int):Option α := (ixN xs.length i).bind fun j=>xs[j]?
theorem jz {n:Nat} {i:Int} {j:Nat} (h:ixN n i=some j):seqIndex? i n=some j/\j < n /\ -(n:Int)<=i/\i < n:=by
 unfold ixN at h
 by_cases h0 : 0<=i
 ·rw [if_pos h0] at h
  by_cases h1:i < n
  ·rw [if_pos h1] at h;have e:i.toNat=j:=HB.inj h;exact ⟨by rw [NW h0 h1,e],by omega,by omega,h1⟩
  ·rw [if_neg h1] at h;cases h
 ·rw [if_neg h0] at h
  by_cases h1 : -(n:Int)<=i
  ·rw [if_pos h1] at h;have e:(i+n).toNat=j:=HB.inj h;exact ⟨by rw [N8 (by omega) h1,e],by omega,h1,by omega⟩
  ·rw [if_neg h1] at h;cases h
theorem pP {α:Type} {xs:List α} {i:Int} {v : α} (h:atI xs i=some v):∃ j,seqIndex? i xs.length=some j/\xs[j]? = some v/\j < xs.length /\ -(xs.length:Int)<=i/\i < xs.length:=by
 unfold atI at h
 cases e:ixN xs.length i with
 | none=>rw [e] at h;cases h
 | some j =>
   rw [e] at h;obtain ⟨h1,h2,q,z⟩:=jz e;exact ⟨j,h1,h,h2,q,z⟩
def jA (b:Expr):Prop := ∀ o i,subscripted b false o i=operate [o,i] (Lh o i)
def IxR (X:Cx) (r:R2):Prop :=
 ∀ (value slice:Expr) (pins:List (Addr×Obj)) (s:h8) (σ:St) (H:Hp) (x y:V) (v u:e7) (Q:VK),Inv X pins σ H s->RelV x v->RelV y u->r x y H Q ->
  subscripted slice false v u=operate [v,u] (Lh v u)->FG (model X.prog X.w) X.A (subscriptTail value slice v u) (EP X pins σ Q) X.xe s
def MtR (X:Cx) (id:String) (r:V->List V->Hp->VK->Prop):Prop :=
 ∀ (pins:List (Addr×Obj)) (s:h8) (σ:St) (H:Hp) (x:V) (xs:List V) (v:e7) (us:List e7) (Q:VK),Inv X pins σ H s->RelV x v->Vals xs us->r x xs H Q ->
  FG (model X.prog X.w) X.A (call (.builtin id) (v::us)) (EP X pins σ Q) X.xe s
section
variable {X:Cx} {a b:Expr} {ta tb:TE} {pos:Pos}
theorem IxR.or {r r':R2} (h:IxR X r) (h':IxR X r'):IxR X (fun x y H Q=>r x y H Q∨r' x y H Q):=by
 intro value slice pins s σ H x y v u Q I rx ry q hs
 rcases q with q | q
 ·exact h value slice pins s σ H x y v u Q I rx ry q hs
 ·exact h' value slice pins s σ H x y v u Q I rx ry q hs
theorem CU {r:R2} (hr:IxR X r) (j:PE X a ta) (z:PE X b tb) (hs:jA b):PE X (.Subscript a b pos) (tOp r ta tb):=by
 intro pins s σ H Q I h;exact Subscript_ (we j z I h fun v u s2 x y H2 B rx ry q=>hr a b pins s2 σ H2 x y v u Q B rx ry q (hs _ _))
noncomputable def DY (K:Frag):R2:=fun x y H Q => ∃ p xs i v,x = .ref p/\y = .int i/\SqL K H p xs/\atI xs i=some v/\Q v H
noncomputable def DZ (K:Frag):R2:=fun x y H Q => ∃ p xs i v,x = .ref p/\y = .int i/\SqT K H p xs/\atI xs i=some v/\Q v H
theorem ix_list:IxR X (DY X.K):=by
 intro value slice pins s σ H x y v u Q I rx ry h hs;obtain ⟨p,xs,i,z,rfl,rfl,F,he,q⟩:=h
 cases rx
 obtain ⟨t,rfl⟩:=ry;obtain ⟨its,r,pl,O⟩:=I.list F;obtain ⟨j,h1,h2,U,G,J⟩:=pP he;obtain ⟨w,ew,rw'⟩:=r.get h2;have L:=r.length;have Y:=fw;have fin:EP X pins σ Q w s:=⟨z,H,I,rw',q⟩
 by_cases h0 : 0<=i
 ·have B:i.toNat=j:=by
   rw [NW h0 J] at h1;exact HB.inj h1
  exact item_listR pl.isList h0 (by omega) (by rw [B];simpa using ew) fin hs
 ·have B:(i+(its.toArray.size:Int)).toNat=j:=by
   rw [N8 (by omega) G] at h1
   rw [D1, <- L];exact HB.inj h1
  exact Li (x:=w) pl.isList.typeIs slot_list_getitem.lookup
   (wpAny_getItem_list_neg (Q:=fun r s'=>r=w/\EP X pins σ Q r s') pl.isList (by omega) (by rw [D1] <;> omega) (by omega) (by rw [B];simpa using ew) ⟨rfl,fin⟩) hs
theorem ix_tup:IxR X (DZ X.K):=by
 intro value slice pins s σ H x y v u Q I rx ry h hs;obtain ⟨p,xs,i,z,rfl,rfl,B,he,q⟩:=h
 cases rx
 obtain ⟨t,rfl⟩:=ry;obtain ⟨its,r,pl,G⟩:=I.tuple B;obtain ⟨j,h1,h2,J,L,O⟩:=pP he;obtain ⟨w,ew,rw'⟩:=r.get h2;have F:=r.length;have U:=fw;have fin:EP X pins σ Q w s:=⟨z,H,I,rw',q⟩;exact Li (x:=w) pl.typeIs slot_tuple_getitem.lookup
  (getItem_tuple (j:=j) (Q:=fun r s'=>r=w/\EP X pins σ Q r s') pl (by omega) (by omega) (by rw [D1, <- F];exact h1) (by simpa using ew) ⟨rfl,fin⟩) hs
theorem r8 (its:List e7) (n j:Nat) (u:e7):Ik (·.setIfInBounds j u) { cls := .type "list",data := .seq its.toArray n } = { cls := .type "list",data := .seq (its.set j u).toArray n }:=by
 simp [Ik]
theorem Inv.lst {pins:List (Addr×Obj)} {σ:St} {H:Hp} {s:h8} {p:Addr} {xs:List V} (I:Inv X pins σ H s) (h:H p=some (.lst xs)) :
 ∃ (its:List e7) (n:Nat),Vals xs its/\s.heap.get? p=some { cls := .type "list",data := .seq its.toArray n }/\xs.length<=D0:=by
 obtain ⟨z,its,n,r,e⟩:=I.hok p _ h;exact ⟨its,n,r,e,z⟩
theorem Inv.lstUpd {pins:List (Addr×Obj)} {σ:St} {H:Hp} {s:h8} {p:Addr} {xs ys:List V} {its its':List e7} {n n':Nat} {f:Obj->Obj} (I:Inv X pins σ H s) (h:H p=some (.lst xs))
 (ho:s.heap.get? p=some { cls := .type "list",data := .seq its.toArray n }) (hf:f { cls := .type "list",data := .seq its.toArray n } = { cls := .type "list",data := .seq its'.toArray n' }) (r:Vals ys its') (j:ys.length<=D0) (t:Nat) :
 Inv X pins σ (upd H p (.lst ys)) { s with heap:=s.heap.update p f,toks:=t }:=by
 have e:(s.heap.update p f).get? p=some { cls := .type "list",data := .seq its'.toArray n' }:=by
  rw [Lz f ho (by rw [hf] <;> rfl),hf]
 refine I.write (x:=p) (e:=p) (by rw [h];trivial) (.inl rfl) (fun b u z q=>(Lj _ _ (Ne.symm z)).trans q) ⟨_,e⟩ ?_
 exact ⟨j,its',n',r,e⟩
noncomputable def yw:V->V->V->Hp->(Hp->Prop)->Prop:=fun o i v H Q => ∃ p xs k j,o = .ref p/\i = .int k/\H p=some (.lst xs)/\ixN xs.length k=some j/\Q (upd H p (.lst (xs.set j v)))
theorem wp:PSet X yw:=by
 intro pins s σ H o i v ov iv u Q I ro ri rv h;obtain ⟨p,xs,k,j,rfl,rfl,F,L,q⟩:=h
 cases ro
 obtain ⟨t,rfl⟩:=ri;obtain ⟨its,n,r,ho,O⟩:=I.lst F;obtain ⟨h1,h2,G,J⟩:=jz L;have z:=r.length;have U:=fw;have I':Inv X pins σ (upd H p (.lst (xs.set j v))) { s with heap:=s.heap.update p (Ik (·.setIfInBounds j u)) } :=
  I.lstUpd F ho (r8 its n j u) (r.set rv j) (by rw [List.length_set];exact O) s.toks
 by_cases h0 : 0<=k
 ·have B:k.toNat=j:=by
   rw [NW h0 J] at h1;exact HB.inj h1
  exact PySem.W.ki_setAt ho h0 (by omega) (by rw [D1, <- z];exact J) (by rw [B];exact ⟨_,I',q⟩)
 ·have B:(k+(its.toArray.size:Int)).toNat=j:=by
   rw [N8 (by omega) G] at h1
   rw [D1, <- z];exact HB.inj h1
  exact PySem.W.ki_setBack ho (by omega) (by rw [D1, <- z];exact G) (by omega) (by rw [B];exact ⟨_,I',q⟩)
theorem mv (lo hi:Option Int) (n:Nat):(Jg lo hi none n).1=((HT.sIx n 0 lo:Nat):Int)/\(Jg lo hi none n).2.1=((HT.sIx n n hi:Nat):Int)/\(Jg lo hi none n).2.2=1:=by
 refine ⟨?_, ?_,rfl⟩
 ·cases lo with
  | none=>simp [Jg,HT.sIx]
  | some i =>
    simp only [Jg,HT.sIx,Ny,show (1:Int) > 0 by decide,if_true]
    by_cases h:i < 0
    ·simp only [h,if_true] <;> omega
    ·simp only [h,if_false] <;> omega
 ·cases hi with
  | none=>simp [Jg,HT.sIx]
  | some i =>
    simp only [Jg,HT.sIx,Ny,show (1:Int) > 0 by decide,if_true]
    by_cases h:i < 0
    ·simp only [h,if_true] <;> omega
    ·simp only [h,if_false] <;> omega
theorem lw (its:List e7) (lo hi:Option Int):slicePick its.toArray lo hi none=((its.drop (HT.sIx its.length 0 lo)).take (HT.sIx its.length its.length hi - HT.sIx its.length 0 lo)).toArray:=by
 obtain ⟨h1,h2,j⟩:=mv lo hi its.toArray.size;unfold slicePick;rw [h1,h2,j];simp only [sliceRange_one,pick_run,D1] <;> rfl
noncomputable def E1 (K:Frag):V->Option Int->Option Int->Hp->VK->Prop:=fun x lo hi H Q => ∃ a xs,x = .ref a/\SqL K H a xs /\ ∀ p,H p=none->Q (.ref p) (upd H p (.lst (fB xs lo hi)))
theorem sl_list:SlR X (E1 X.K):=by
 intro pins s σ H x v vl vu lo hi sl Q I rx hs pl pu h;obtain ⟨a,xs,rfl,hx,q⟩:=h
 cases rx
 obtain ⟨its,r,j,z⟩:=I.list hx;have hlen:=r.length;refine ⟨"list",_,slot_list_getitem.lookup,j.isList.typeIs, ?_⟩;refine wpAny_getItem_list_slice j.isList hs pl pu .none (by simp) ?_ (by rw [D1] <;> omega)
 rw [lw, <- hlen];refine ⟨.ref s.heap.objs.size,_,I.laid (t':=s.toks) (o := .lst (fB xs lo hi)) (fun b ob q=>h7 _ q) (Fy _) ?_,rfl,q _ (I.hok.fresh (Fy _))⟩;exact ⟨G8 (gF xs lo hi) z,_,0,(r.drop (HT.sIx xs.length 0 lo)).take (HT.sIx xs.length xs.length hi - HT.sIx xs.length 0 lo),FF _ rfl⟩
noncomputable def cu:V->Bool
 | .non=>true
 | .bl _=>true
 | .int _=>true
 | .str _=>true
 | _=>false
noncomputable def eqV:V->V->Bool
 | .non, .non=>true
 | .bl a, .bl b=>a==b
 | .bl a, .int b=>(if a then 1 else 0)==b
 | .int a, .bl b=>a==(if b then 1 else 0)
 | .int a, .int b=>a==b
 | .str a, .str b=>a==b
 | _,_=>false
theorem Bm {A:Gg} {s:h8} {y x:V} {u v:e7} (ry:RelV y u) (rx:RelV x v) (fy:cu y=true) (fx:cu x=true):Oq A s u v (eqV y x):=by
 cases y with
 | non =>
   cases ry
   cases x with
   | non=>cases rx;exact SeqAt.EqAt.same _
   | bl b=>cases rx;exact SeqAt.EqAt.none_bool b
   | int b=>obtain ⟨t,rfl⟩:=rx;exact SeqAt.EqAt.none_int b t
   | str b=>obtain ⟨t,rfl⟩:=rx;exact SeqAt.EqAt.none_str b t
   | _=>exact absurd (show false=true from fx) i4
 | bl a =>
   cases ry
   cases x with
   | non=>cases rx;exact SeqAt.EqAt.bool_none a
   | bl b=>cases rx;exact SeqAt.EqAt.bool_bool a b
   | int b=>obtain ⟨t,rfl⟩:=rx;exact SeqAt.EqAt.bool_int a b t
   | str b=>obtain ⟨t,rfl⟩:=rx;exact SeqAt.EqAt.bool_str a b t
   | _=>exact absurd (show false=true from fx) i4
 | int a =>
   obtain ⟨t',rfl⟩:=ry
   cases x with
   | non=>cases rx;exact SeqAt.EqAt.int_none a t'
   | bl b=>cases rx;exact SeqAt.EqAt.int_bool a t' b
   | int b=>obtain ⟨t,rfl⟩:=rx;exact SeqAt.EqAt.int_int a t' b t
   | str b=>obtain ⟨t,rfl⟩:=rx;exact MB a t' b t
   | _=>exact absurd (show false=true from fx) i4
 | str a =>
   obtain ⟨t',rfl⟩:=ry
   cases x with
   | non=>cases rx;exact SeqAt.EqAt.str_none a t'
   | bl b=>cases rx;exact SeqAt.EqAt.str_bool a t' b
   | int b=>obtain ⟨t,rfl⟩:=rx;exact MD a t' b t
   | str b=>obtain ⟨t,rfl⟩:=rx;exact SeqAt.EqAt.str_str a t' b t
   | _=>exact absurd (show false=true from fx) i4
 | _=>exact absurd (show false=true from fy) i4
noncomputable def eqU (x:V) (u:e7):Bool:=match u with
 | .none=>eqV .non x
 | .bool b=>eqV (.bl b) x
 | .int i _=>eqV (.int i) x
 | .str z _=>eqV (.str z) x
 | _=>false
theorem tH {x y:V} {u:e7} (r:RelV y u) (f:cu y=true):eqU x u=eqV y x:=by
 cases y with
 | non=>cases r;rfl
 | bl b=>cases r;rfl
 | int i=>obtain ⟨t,rfl⟩:=r;rfl
 | str z=>obtain ⟨t,rfl⟩:=r;rfl
 | _=>exact absurd (show false=true from f) i4
theorem dQ {x:V}:∀ {xs:List V} {us:List e7},Vals xs us->xs.all cu=true->us.any (eqU x)=xs.any fun y=>eqV y x
 | _,_, .nil,_=>rfl
 | y::xs,u::us, .cons r t,f=>by
   rw [Iu,hG] at f;rw [Hc,Hc,tH r f.1,dQ t f.2]
theorem dm {A:Gg} {s:h8} {x:V} {v:e7} (rx:RelV x v) (fx:cu x=true):∀ {xs:List V} {us:List e7},Vals xs us->xs.all cu=true -> ∀ u∈us,Oq A s u v (eqU x u)
 | _,_, .nil,_=>fun u j=>by cases j
 | y::xs,u::us, .cons r t,f=>fun u' j=>by
   rw [Iu,hG] at f
   rcases Fx.mp j with rfl | j
   ·rw [tH r f.1];exact Bm r rx f.1 fx
   ·exact dm rx fx t f.2 u' j
noncomputable def inV (x:V) (xs:List V):Bool:=xs.any fun y=>eqV y x
noncomputable def rIn (K:Frag) (neg:Bool):R2:=fun x y H Q => ∃ p xs,y = .ref p/\(SqL K H p xs∨SqT K H p xs)/\cu x=true/\xs.all cu=true/\Q (.bl (if neg then !inV x xs else inV x xs)) H
theorem tI:OpR X (GA .In) (rIn X.K false):=by
 intro pins s σ H x y v u Q I rx ry h;obtain ⟨p,xs,rfl,j,fx,fs,q⟩:=h
 cases ry
 rcases j with j | j
 ·obtain ⟨its,r,pl,z⟩:=I.list j;refine SeqAt.in_listAt (eqU x) pl.isList (fun w hw=>dm rx fx r fs w (by simpa using hw)) ⟨.bl _,H,I,rfl, ?_⟩
  rw [show its.toArray.any (eqU x)=its.any (eqU x) by simp,dQ r fs]
  exact q
 ·obtain ⟨its,r,pl,z⟩:=I.tuple j;refine SeqAt.in_tupleAt (eqU x) pl (fun w hw=>dm rx fx r fs w (by simpa using hw)) ⟨.bl _,H,I,rfl, ?_⟩
  rw [show its.toArray.any (eqU x)=its.any (eqU x) by simp,dQ r fs]
  exact q
theorem mz:OpR X (GA .NotIn) (rIn X.K true):=by
 intro pins s σ H x y v u Q I rx ry h;obtain ⟨p,xs,rfl,j,fx,fs,q⟩:=h
 cases ry
 rcases j with j | j
 ·obtain ⟨its,r,pl,z⟩:=I.list j;refine MP (eqU x) pl.isList (fun w hw=>dm rx fx r fs w (by simpa using hw)) ⟨.bl _,H,I,rfl, ?_⟩
  rw [show its.toArray.any (eqU x)=its.any (eqU x) by simp,dQ r fs]
  exact q
 ·obtain ⟨its,r,pl,z⟩:=I.tuple j;refine SeqAt.notIn_tupleAt (eqU x) pl (fun w hw=>dm rx fx r fs w (by simpa using hw)) ⟨.bl _,H,I,rfl, ?_⟩
  rw [show its.toArray.any (eqU x)=its.any (eqU x) by simp,dQ r fs]
  exact q
theorem mC:CallR X (.type "list") (fun xs H Q => ∃ p ys,xs=[.ref p]/\(SqL X.K H p ys∨SqT X.K H p ys) /\ ∀ l,H l=none->Q (.ref l) (upd H l (.lst ys))):=by
 intro pins s σ H xs us Q I r h;obtain ⟨p,ys,rfl,j,q⟩:=h;obtain ⟨u,rfl,rx⟩:=cq r
 cases rx
 have fin:∀ (its:List e7),Vals ys its->ys.length<=D0 -> ∀ (h':Heap) (c':Nat),(∀ b o',s.heap.get? b=some o'->h'.get? b=some o') ->
  h'.get? s.heap.objs.size=some { cls := .type "list",dict:=none,data := .seq its.toArray c',slots := #[] }->EP X pins σ Q (.ref s.heap.objs.size) { s with heap:=h' }:=fun its r' z h' c' kp e =>
  ⟨.ref s.heap.objs.size,_,I.laid (t':=s.toks) kp (Fy _) (show ObjOk X.prog X.w _ h' _ (.lst ys) from ⟨z,its,c',r',e⟩),rfl,q _ (I.hok.fresh (Fy _))⟩
 rcases j with j | j
 ·obtain ⟨its,r',pl,z⟩:=I.list j;have hlen:=r'.length;obtain ⟨o,ho,B,n,hd⟩:=pl.isList;exact call_list_seq p (.inl rfl) ho B hd (fun h' c' kp e=>fin its r' z h' c' kp e) (by simp only [D1] <;> omega)
 ·obtain ⟨its,r',pl,z⟩:=I.tuple j;have hlen:=r'.length;obtain ⟨o,ho,B,n,hd⟩:=pl;exact call_list_seq p (.inr rfl) ho B hd (fun h' c' kp e=>fin its r' z h' c' kp e) (by simp only [D1] <;> omega)
theorem lB:CallR X (.type "tuple") (fun xs H Q => ∃ p ys,xs=[.ref p]/\((SqL X.K H p ys /\ ∀ l,H l=none->Q (.ref l) (upd H l (.tup ys)))∨(SqT X.K H p ys/\Q (.ref p) H))):=by
 intro pins s σ H xs us Q I r h;obtain ⟨p,ys,rfl,h⟩:=h;obtain ⟨u,rfl,rx⟩:=cq r
 cases rx
 rcases h with ⟨j,q⟩ | ⟨j,q⟩
 ·obtain ⟨its,r',pl,z⟩:=I.list j;have hlen:=r'.length;refine call_tuple_list pl.isList (fun h' kp => ?_) (by simp only [D1] <;> omega)
  have B:Inv X pins σ H { s with heap:=h' }:=I.kept (t':=s.toks) kp
  have F:Inv X pins σ (upd H h'.objs.size (.tup ys)) { s with heap:=h'.push { cls := .type "tuple",data := .seq its.toArray } } :=
   B.laid (t':=s.toks) (fun b o e=>h7 _ e) (Fy _) (show ObjOk X.prog X.w _ _ _ (.tup ys) from ⟨z,its,r',Kf _ _⟩)
  exact ⟨.ref h'.objs.size,_,F,rfl,q _ (B.hok.fresh (Fy _))⟩
 ·obtain ⟨its,r',pl,z⟩:=I.tuple j;exact call_tuple_same pl ⟨.ref p,H,I,rfl,q⟩
def tyV (K:Frag) (T:String) (x:V) (H:Hp):Prop:=match x with
 | .str _=>T = "str"
 | .int _=>T = "int"
 | .ref p=>(T = "list" /\ ∃ xs,SqL K H p xs)∨(T = "tuple" /\ ∃ o,K.lookup p=some o/\o.cls = .type "tuple" /\ o.dict=none) ∨
  (T = "dict" /\ ((∃ kvs,H p=some (.dK kvs)) ∨ ∃ kvs,H p=some (.dT kvs)))∨(T = "set" /\ ∃ S n,H p=some (.set S n))
 | _=>False
theorem Bn {pins:List (Addr×Obj)} {σ:St} {H:Hp} {s:h8} {T:String} {x:V} {v:e7} (I:Inv X pins σ H s) (r:RelV x v) (ty:tyV X.K T x H) :
 s.TypeIs v T /\ ∀ a,v = .ref a -> ∃ ob,s.heap.get? a=some ob/\ob.dict=none:=by
 cases x with
 | str z =>
   obtain ⟨t,rfl⟩:=r
   cases (show T = "str" from ty)
   exact ⟨typeIs_str s z t,fun _ e=>nomatch e⟩
 | int i =>
   obtain ⟨t,rfl⟩:=r
   cases (show T = "int" from ty)
   exact ⟨Lk s i t,fun _ e=>nomatch e⟩
 | ref p =>
   cases r
   rcases ty with ⟨rfl,xs,B⟩ | ⟨rfl,o,j,F,hd⟩ | ⟨rfl,j⟩ | ⟨rfl,S,n,j⟩
   ·obtain ⟨its,_,pl,_⟩:=I.list B;refine ⟨pl.isList.typeIs,fun a e => ?_⟩
    cases e
    obtain ⟨o,n,e,c,hd,_⟩:=pl;exact ⟨o,e,hd⟩
   ·refine ⟨⟨o,I.kIn p o j,F⟩,fun a e => ?_⟩
    cases e
    exact ⟨o,I.kIn _ o j,hd⟩
   ·have z:∃ o,s.heap.get? p=some o/\o.ExactDict:=by
     rcases j with ⟨kvs,j⟩ | ⟨kvs,j⟩
     ·obtain ⟨_,_,_,_,o,_,_,e,ex,_⟩:=I.hok p _ j;exact ⟨o,e,ex⟩
     ·obtain ⟨_,_,_,_,o,_,_,e,ex,_⟩:=I.hok p _ j;exact ⟨o,e,ex⟩
    obtain ⟨o,e,ex⟩:=z;refine ⟨⟨o,e,ex.1⟩,fun a q => ?_⟩
    cases q
    exact ⟨o,e,ex.2.1⟩
   ·obtain ⟨o,_,_,_,e,ex,_⟩:=I.hok p _ j;refine ⟨⟨o,e,ex.1⟩,fun a q => ?_⟩
    cases q
    exact ⟨o,e,ex.2.1⟩
 | _=>exact False.elim ty
noncomputable def tBM (K:Frag) (T:String) (r:V->List V->Hp->VK->Prop) (to:TE) (t:TA):TE:=fun σ H Q=>to σ H fun x H1=>tyV K T x H1/\t σ H1 fun xs H2=>r x xs H2 Q
variable {o e:Expr} {es:List Expr} {to:TE} {t:TA} {name:Str} {apos cpos:Pos} {T id:String} {r:V->List V->Hp->VK->Prop}
theorem lJ (pa:PlainAttrs T) (slot:Slot T name id) (F:typeOf (.builtin id)=pure (.type "method_descriptor")) (hm:MtR X id r) (ho:PE X o to) (L:PA X (e::es) t)
 (q:KN o name X.env (eval o X.env)=eval o X.env:=by rfl)
 (B:((IC cpos (FP (e::es) X.env)).all (fun x => !x.1)&&(Ot cpos (LJ [] X.env)).all (fun x=>x.1.isSome)
   && decide ((e::es).length+([]:List K8).length+(if ([]:List K8).isEmpty then 0 else 1) < 30))=true:=by rfl)
 (z:(apos.endLine==cpos.line)=true:=by rfl) (hs:FP (e::es) X.env=(false,eval e X.env)::FP es X.env:=by rfl) (j:(IC cpos (FP es X.env)).any (·.1)=false:=by rfl) :
 PE X (.Call (.Attribute o name apos) (e::es) [] cpos) (tBM X.K T r to t):=by
 intro pins s σ H Q I h;refine wpAny_Call_method_late q B z rfl (thn (ho pins s σ H _ I h) fun v s1 ⟨x,H1,G,r1,ty,O⟩ => ?_);obtain ⟨h1,h2⟩:=Bn G r1 ty;refine ⟨T,id,pa,slot,F,h1,h2, ?_⟩;have J:=L cpos pins s1 σ H1 _ G O;rw [hs] at J ⊢;refine Ll (by show (false || (IC cpos (FP es X.env)).any (·.1))=false;rw [j] <;> rfl) (LK ?_)
 exact thn J fun us s2 ⟨vs,H2,U,r2,Y⟩=>hm pins s2 σ H2 x vs v us Q U r1 r2 Y
end
end
section
def MtM (X:Cx) (id:String) (r:V->List V->Hp->VK->Prop):Prop :=
 ∀ (pins:List (Addr×Obj)) (s:h8) (σ:St) (H:Hp) (x:V) (xs:List V) (v:e7) (us:List e7) (Q:VK),Inv X pins σ H s->RelV x v->Vals xs us->r x xs H Q ->
  FG (model X.prog X.w) X.A (call (.builtin id) (v::us)) (EP X pins σ Q) X.xe s
theorem Vals.one:∀ {x:V} {us:List e7},Vals [x] us -> ∃ u,us=[u]/\RelV x u
 | _,_, .cons r .nil=>⟨_,rfl,r⟩
theorem Vals.eraseIdx:∀ {xs:List V} {us:List e7} (i:Nat),Vals xs us->Vals (xs.eraseIdx i) (us.eraseIdx i)
 | _,_,_, .nil => .nil
 | _,_,0, .cons _ t=>t
 | _,_,i+1, .cons r t => .cons r (Vals.eraseIdx i t)
theorem Vals.reverse {xs:List V} {us:List e7} (h:Vals xs us):Vals xs.reverse us.reverse:=by
 induction h with
 | nil=>exact .nil
 | cons r t ih=>rw [Iz,Iz];exact Vals.append ih (.cons r .nil)
theorem Vals.rep {xs:List V} {us:List e7} (h:Vals xs us):∀ k:Nat,Vals (FA k xs).flatten (FA k us).flatten
 | 0 => .nil
 | k+1=>by
   rw [Gp,Gp,Hd,Hd];exact Vals.append h (Vals.rep h k)
theorem kr {α:Type}:∀ (l:List α) (i:Nat),(l.eraseIdx i).length<=l.length
 | [],_=>Fy _
 | _::_,0=>Nat.le_succ _
 | _::r,i+1=>JF (kr r i)
theorem fC (its:List e7):∀ (k:Nat) (acc:List e7),
 MQ (fun j q=>j++q) acc.toArray (FA k its.toArray)=(acc++(FA k its).flatten).toArray
 | 0,acc=>by simp
 | k+1,acc=>by
   have e:acc.toArray++its.toArray=(acc++its).toArray:=by simp
   have z:(acc++its)++(FA k its).flatten=acc++(FA (k+1) its).flatten:=by
    rw [Gp,Hd,Gb]
   rw [<- z, <- fC its k (acc++its), <- e,Gp,Gr]
section
variable {X:Cx} {pins:List (Addr×Obj)} {σ:St} {H:Hp} {s:h8} {l b:Addr} {xs ys zs:List V}
theorem Inv.lset {its its':List e7} {n:Nat} {f:Array e7->Array e7} {t':Nat} (I:Inv X pins σ H s) (j:H l=some (.lst xs))
 (e:s.heap.get? l=some { cls := .type "list",data := .seq its.toArray n }) (hf:f its.toArray=its'.toArray) (z:Vals ys its') (B:ys.length<=D0) :
 Inv X pins σ (upd H l (.lst ys)) { s with heap:=s.heap.update l (Ik f),toks:=t' }:=by
 have q:=PySem.IsL.update e f;rw [hf] at q;refine I.write (x:=l) (e:=l) (by rw [j];exact trivial) (.inl rfl) (fun b' u F G=>(Lj s.heap (Ik f) (Ne.symm F)).trans G) ⟨_,q⟩ ?_
 exact ⟨B,its',_,z,q⟩
theorem Inv.lnew {its:List e7} {t':Nat} (I:Inv X pins σ H s) (j:Vals ys its) (z:ys.length<=D0) :
 Inv X pins σ (upd H s.heap.objs.size (.lst ys)) { s with heap:=s.heap.push { cls := .type "list",data := .seq its.toArray },toks:=t' } :=
 I.laid (fun _ _ q=>h7 _ q) (Fy _) ⟨z,its,0,j,FF _ rfl⟩
theorem Inv.fresh (I:Inv X pins σ H s):H s.heap.objs.size=none:=I.hok.fresh (Fy _)
theorem Inv.lstM (I:Inv X pins σ H s) (j:H l=some (.lst xs)):xs.length<=D0 /\ ∃ (its:List e7) (n:Nat),Vals xs its/\xs.length=its.length/\s.heap.get? l=some { cls := .type "list",data := .seq its.toArray n }:=by
 obtain ⟨z,its,n,r,e⟩:=I.hok l _ j;exact ⟨z,its,n,r,r.length,e⟩
theorem gP {n:Nat} (h:n<=D0):Hn n=false:=by
 unfold Hn;exact decide_eq_false (by omega)
end
section
variable {X:Cx}
noncomputable def pQ:V->List V->Hp->VK->Prop:=fun x vs H Q => ∃ l xs y,x = .ref l/\vs=[y]/\H l=some (.lst xs)/\xs.length < D0/\Q .non (upd H l (.lst (xs++[y])))
theorem ku:MtM X "list.append" pQ:=by
 intro pins s σ H x vs v us Q I rx rv h;obtain ⟨l,xs,y,rfl,rfl,j,B,q⟩:=h
 cases rx
 obtain ⟨u,rfl,ru⟩:=rv.one;obtain ⟨z,its,n,r,G,e⟩:=I.lstM j;refine IF F.slot_list_append ⟨_,e,rfl⟩ F.entry_list_append (F.args_list_append_2 _ _) (PySem.list_append l its.toArray n u (by rw [D1];omega)) ⟨e, ?_⟩
 refine ⟨.non,_,I.lset (its':=its++[u]) j e (by simp) (r.append (.cons ru .nil)) ?_,rfl,q⟩
 rw [i5,G6];omega
noncomputable def pT:V->List V->Hp->VK->Prop:=fun x vs H Q => ∃ l b xs zs,x = .ref l/\vs=[.ref b]/\H l=some (.lst xs)/\H b=some (.lst zs)/\xs.length+zs.length<=D0/\Q .non (upd H l (.lst (xs++zs)))
theorem tJ:MtM X "list.extend" pT:=by
 intro pins s σ H x vs v us Q I rx rv h;obtain ⟨l,b,xs,zs,rfl,rfl,G,J,Y,q⟩:=h
 cases rx
 obtain ⟨u,rfl,ru⟩:=rv.one
 cases ru
 obtain ⟨z,its,n,r,Z,e⟩:=I.lstM G;obtain ⟨z2,j,L,r2,O,U⟩:=I.lstM J;have hsz:its.toArray.size+j.toArray.size<=D0:=by rw [D1,D1];omega
 have B : ¬ (!its.toArray.isEmpty&&Hn (its.toArray.size+j.toArray.size))=true:=by
  rw [gP hsz,Bool.and_false];exact i4
 refine IF F.slot_list_extend ⟨_,e,rfl⟩ F.entry_list_extend (F.args_list_extend_2 _ _)
  (AutoSeq1.list_extend_list_list_0 l its.toArray n b j.toArray L B (by rw [D1];omega) (by omega)) ⟨e,U, ?_⟩
 refine ⟨.non,_,I.lset (its':=its++j) G e (by simp) (r.append r2) ?_,rfl,q⟩
 rw [i5];omega
noncomputable def tK:V->List V->Hp->VK->Prop:=fun x vs H Q => ∃ l xs i k y,x = .ref l/\vs=[.int i]/\H l=some (.lst xs) /\ -(2 ^ 63)<=i/\i < 2 ^ 63/\seqIndex? i xs.length=some k/\xs[k]? = some y/\Q y (upd H l (.lst (xs.eraseIdx k)))
theorem wq:MtM X "list.pop" tK:=by
 intro pins s σ H x vs v us Q I rx rv h;obtain ⟨l,xs,i,k,y,rfl,rfl,j,h1,h2,B,G,q⟩:=h
 cases rx
 obtain ⟨u,rfl,ru⟩:=rv.one;obtain ⟨t,rfl⟩:=ru;obtain ⟨z,its,n,r,J,e⟩:=I.lstM j;obtain ⟨w,hw,rw'⟩:=r.get G;refine IF F.slot_list_pop ⟨_,e,rfl⟩ F.entry_list_pop (F.args_list_pop_2 _ _)
  (MeetsSeq.list_pop_at l its.toArray n i t k w (fitsIndex_both h1 h2) (by rw [D1, <- J];exact B) (by rw [<- GG];exact hw) (by rw [D1];omega)) ⟨e, ?_⟩
 refine ⟨y,_,I.lset (its':=its.eraseIdx k) j e ?_ (r.eraseIdx k) ?_,rw',q⟩
 ·show its.toArray.eraseIdxIfInBounds k=(its.eraseIdx k).toArray;rw [Jy]
 ·have:=kr xs k;omega
noncomputable def E2:R2:=fun x y H Q => ∃ l b xs zs,x = .ref l/\y = .ref b/\H l=some (.lst xs)/\H b=some (.lst zs)/\xs.length+zs.length<=D0 /\ ∀ p,H p=none->Q (.ref p) (upd H p (.lst (xs++zs)))
theorem op_cat:OpR X (GY .Add) E2:=by
 intro pins s σ H x y v u Q I rx ry h;obtain ⟨l,b,xs,zs,rfl,rfl,B,F,L,q⟩:=h
 cases rx
 cases ry
 obtain ⟨z,its,n,r,O,e⟩:=I.lstM B;obtain ⟨U,j,Y,r2,G,J⟩:=I.lstM F;refine PySem.P.add_list e J ?_ (by rw [D1,D1];omega)
 have ea:its.toArray++j.toArray=(its++j).toArray:=by simp
 rw [ea];exact ⟨.ref _,_,I.lnew (t':=s.toks) (r.append r2) (by rw [i5];omega),rfl,q _ I.fresh⟩
noncomputable def E3:R2:=fun x y H Q => ∃ l k xs,x = .ref l/\y = .int k/\H l=some (.lst xs) /\ -(2 ^ 63)<=k/\k < 2 ^ 63/\xs.length*k.toNat<=D0 /\
 ∀ p,H p=none->Q (.ref p) (upd H p (.lst (FA k.toNat xs).flatten))
theorem pU {α:Type} (xs:List α) (k:Nat):(FA k xs).flatten.length=k*xs.length:=by
 induction k with
 | zero=>simp
 | succ k ih=>rw [Gp,Hd,i5,ih,Nat.succ_mul,Nat.add_comm]
theorem op_rep:OpR X (GY .Mult) E3:=by
 intro pins s σ H x y v u Q I rx ry h;obtain ⟨l,k,xs,rfl,rfl,Z,h1,h2,Y,q⟩:=h
 cases rx
 obtain ⟨t,rfl⟩:=ry;obtain ⟨z,its,n,r,hl,e⟩:=I.lstM Z;have hlen:its.toArray.size*k.toNat<=D0:=by rw [D1, <- hl];exact Y
 have B : ¬ its.toArray.size*k.toNat > (2 ^ 63 - 1) / 8:=by
  have:(D0:Nat)<=(2 ^ 63 - 1) / 8:=by decide
  omega
 have G : ¬ (!Builtin.List.listFitsIndex k)=true:=by
  rw [fitsIndex_both h1 h2];exact i4
 have j : ¬ Hn (its.toArray.size*k.toNat)=true:=by
  rw [gP hlen];exact i4
 have J:MQ (fun L O=>L++O) #[] (FA (if its.toArray.isEmpty=true then 0 else k.toNat) its.toArray)=(FA k.toNat its).flatten.toArray:=by
  have f0:∀ m:Nat,MQ (fun L O=>L++O) #[] (FA m its.toArray)=(FA m its).flatten.toArray:=fun m=>by
   have:=fC its m [];rw [J3] at this;exact this
  rw [f0]
  cases its with
  | nil=>simp
  | cons a r'=>rw [if_neg (by simp)]
 refine Kw (T := "list") (U := "int") (by decide) ⟨_,e,rfl⟩ (fun s'=>Lk s' k t) noFill_list_mul Oc JV repeat_list F.slot_int_index.lookup
  (IF JV (Lk s k t) Nz (N9 _ _) (int___rmul___int_list k t l its.toArray n)
    ⟨e,rfl,⟨_,e,rfl⟩,IF F.slot_list_mul ⟨_,e,rfl⟩ F.entry_list_mul (F.args_list_mul_2 _ _) (AutoListH.list___mul___list_int_3 l its.toArray n k t G B j) ⟨e, ?_⟩⟩)
 rw [J];exact ⟨.ref _,_,I.lnew (t':=s.toks) (r.rep k.toNat) (by rw [pU,Nat.mul_comm];exact Y),rfl,q _ I.fresh⟩
end
end
end L2
namespace Att
open PySem PySem.W PySem.Calls PyProof.Rows
theorem iE {P:Params} {h:Heap}:∀ (ns:List Int) (vs:List e7),WellAll P h vs (ns.map WData.int)->N7 vs ns:=by
 intro ns
 induction ns with
 | nil =>
   intro vs w;rw [Jq] at w
   cases w
   exact .nil
 | cons n ns ih =>
   intro vs w;rw [FL] at w
   cases w with
   | cons a b =>
     cases a
     exact .cons _ _ (ih _ b)
theorem tL {l:OpenLaw} {n:Nat} (O:l.most=some n) {P:Params} {h:Heap} {args:List WData} {vals:List e7}
 (j:l.row.toRowW.claim.pre args=true) (G:WellAll P h vals args) :
 ∃ a vs ns,vals=[G2 a]/\args=[WData.list (ns.map WData.int)]/\h.get? a=some { cls := .type "list",data := .seq vs.toArray }/\N7 vs ns/\ns.length<=n:=by
 have J:WShape.hasAll [] args [.list .int]=true:=(pre_splitW j).1;have L:l.pre.holds [] { args:=args }=true:=(pre_splitW j).2;obtain ⟨d,r,rfl,h1,h2⟩:=hasAllW_cons J;obtain rfl:=hasAllW_nil h2;obtain ⟨xs,rfl,U⟩:=hasW_list h1;obtain ⟨ns,rfl⟩:=items_int U;have hlen:ns.length<=n:=by
  unfold OpenLaw.pre at L;have B:(WTm.not (.lt (.lit (.int (n:Int))) (.len (.arg 0)))).holds [] { args := [.list (ns.map .int)] }=true:=by
   have B:=(holds_andW L).1;rw [O] at B;exact B
  have F:=condW_of B (w_not (w_lt w_lit (w_len_list (w_arg rfl))));rw [gV] at F;refine Nat.le_of_not_lt fun q => ?_;have q':(n:Int) < ((ns.length:Nat):Int):=by omega
  first
   | (rw [decide_eq_true q'] at F;exact absurd F (by decide))
   | (simp at F;omega)
 cases G with
 | cons Y Z =>
   cases Z
   cases Y with
   | list ho z=>exact ⟨_,_,ns,rfl,rfl,ho,iE ns _ z,hlen⟩
theorem tM (l:OpenLaw) (args:List WData):l.row.toRowW.claim.post args (.bool true) args=true :=
 postW_of (r:=l.row.toRowW) (X:=(true==true))
  (show WShape.has [] (.bool true) .bool=true by first | rfl | decide | simp [WShape.has,WShape.arms,WShape.armsAll])
  (show (WTm.eq .res (.lit (.bool true))).value [] { args:=args,res:=some (.bool true),after:=args }=some (.bool (true==true)) from w_eq_bool (w_res rfl) w_lit) rfl
theorem attach_call {l:OpenLaw} {n:Nat} {q:FR} {loose:List Str} {XP:(Str->Option e7)->Heap->Prop} {YP:G7->Heap->Prop} {d:DefRec}
 (U:l.most=some n) (B:d.params.defaults=[])
 (call:∀ (w:G7) (s₀ s₁:h8) (mg mb:Str->Option e7) (fa:Addr) (o:Obj) (pm cd doc:e7) (a:Addr) (vs:List e7) (ns:List Int),
   Ground q loose [] XP w s₀ mg mb s₁.heap->YP w s₁.heap ->
   s₁.heap.get? fa=some o->o.data = .func (docDef d.name d.params d.body d.scope pm cd doc)->s₁.heap.CodeRec cd d.name->mg d.name=some (.ref fa) ->
   s₁.heap.get? a=some { cls := .type "list",data := .seq vs.toArray }->N7 vs ns->ns.length<=n->s₁.gens = #[] ->
   Iy (model l.prog w) Mf (.call (.ref fa) ⟨[.ref a],[]⟩) (fun r s'=>r = .ok (.ret (.bool true))/\OldK s₁.heap s'.heap/\s'.os=s₁.os/\KD s'.gens) s₁) :
 WalkO q loose XP YP l.row.toRowW d [] (fun f vs=>Ou f vs):=by
 intro w s₀ s₁ mg mb G Y fa o pm cd doc dV kV ho hd F hD J Z args vals as j O Ef L Eg;obtain rfl:dV = .none:=Dflts.none hD B;obtain rfl:kV = .none:=Dflts.noKw hD;obtain ⟨a,vs,ns,rfl,rfl,z,hints,hlen⟩:=tL U j L;refine enter_call (Ii (call w s₀ s₁ mg mb fa o pm cd doc a vs ns G Y ho (fd_plain hd) F J z hints hlen Z) fun r s' hq => ?_);obtain ⟨rfl,h2,h3,h4⟩:=hq;exact ⟨.inl ⟨.bool true, .bool true,[],rfl,fun _=>rfl, .bool true,tM l _,fun _=>⟨Na,fun _ hm=>(nomatch hm)⟩⟩,h2,h3,h4⟩
section
variable {prog:FR} {w:G7} {A:Gg} {E:e7->h8->Prop} {s:h8} {K:Frag}
noncomputable def Ee (h:Heap) (L d:Addr):List (Addr×Obj):=(Gc h.objs.size).filterMap fun a=>if a=L∨a=d then none else (h.get? a).map fun o=>(a,o)
end
end Att
namespace L2
open PySem PySem.Spec PyProof.Rows
section
theorem kw:∀ {vs:List e7} {ns:List Int},N7 vs ns->Vals (ns.map V.int) vs
 | _,_, .nil => .nil
 | _,_, .cons n t h => .cons ⟨t,rfl⟩ (kw h)
def r9 (H:Hp):Prop := ∀ b,H b=none ∨ ∃ o xs,H b=some (.frz o (.lst xs))
theorem wt {P:FR} {w:G7} {K:Frag} {mg mb:Str->Option e7} {CX:CXT} {k:Nat} {fa a:Addr} {fd:ID} {x:Str} {sp:Sp} {s₁:h8} {vs:List e7} {ns:List Int}
 (KX:K.In s₁.heap) (G:s₁.heap.Ns GB mg) (j:s₁.heap.Ns Oi mb) (Y:∀ x:Str,x ≠ "__name__" -> mb x=Hy x) (J:s₁.heap.NoLimit) (hg:s₁.gens = #[])
 (U:s₁.heap.get? a=some { cls := .type "list",data := .seq vs.toArray }) (hi:N7 vs ns) (hl:ns.length<=D0) (hr:Room k Mf)
 (F:∀ base:Heap,K.In base->base.Ns GB mg->dj P w K mg base CX k fa fd [x] sp) (B:∀ (s:h8) (u:e7),N4 s fd ⟨[u],[]⟩ [(x,u)])
 (Z:∀ H:Hp,r9 H->SqL K H a (ns.map V.int)->sp [.ref a] H (fun v _=>v = .bl true) fun _ _ _=>False)
 (Ef:∀ H e s',CX [] H s₁ (fun _ _ _=>False) e s'->False) :
 Iy (model P w) Mf (.call (.ref fa) ⟨[.ref a],[]⟩) (fun r s'=>r = .ok (.ret (.bool true))/\OldK s₁.heap s'.heap/\s'.os=s₁.os/\KD s'.gens) s₁ := by
 have rv:=kw hi;have lenV:=hi.length;have core:∀ H:Hp,r9 H->SqL K H a (ns.map V.int)->HOk P w H s₁.heap->(∀ b,H b≠none->b=a)->(H a≠none->K.lookup a=none) ->
  Iy (model P w) Mf (.call (.ref fa) ⟨[.ref a],[]⟩) (fun r s'=>r = .ok (.ret (.bool true))/\OldK s₁.heap s'.heap/\s'.os=s₁.os/\KD s'.gens) s₁ := by
  intro H hO hS hok hA hK;have base_of:∀ {b:Addr} {o:Obj},s₁.heap.get? b=some o->H b=none->(eK s₁.heap H).get? b=some o:=fun e n=>vX e n;have noA:∀ {b:Addr} {o:Obj} {es:Array I0} {ep:Nat},s₁.heap.get? b=some o->o.data = .dict es ep->H b=none:=fun {b o es ep} e d=>by
   cases q:H b with
   | none=>rfl
   | some u =>
     have e':b=a:=hA b (by rw [q];simp)
     subst e';rw [U] at e;cases e;have d':JR vs.toArray _=Data.dict es ep:=d
     cases d'
  have nsK:∀ {b:Addr} {m:Str->Option e7},s₁.heap.Ns b m->(eK s₁.heap H).Ns b m:=fun {b m} ⟨o,es,ep,e,d,r⟩=>⟨o,es,ep,base_of e (noA e d),d,r⟩;have L:K.In (eK s₁.heap H):=fun b o e=>base_of (KX b o e) (by
   cases q:H b with
   | none=>rfl
   | some u =>
     have e':b=a:=hA b (by rw [q];simp)
     subst e';rw [hK (by rw [q];simp)] at e;cases e)
  have hM:Mod K mg (eK s₁.heap H):=⟨L,nsK G,⟨mb,nsK j,Y⟩,let ⟨mc,h1,h2⟩:=J; ⟨mc,nsK h1,h2⟩⟩;have e0:qX P w K mg (eK s₁.heap H) Mf [] s₁ H:=⟨rfl,hM,fun b o e=>zb e,Nat.le_of_eq (sZ _ _),trivial,fun b j=>absurd (show b∈([]:List Addr) from j) (by simp),hok, .of_eq hg⟩
  refine Ii ((F _ L (nsK G)).run Mf [] s₁ H ⟨[.ref a],[]⟩ [.ref a] [.ref a] _ _ hr e0 (B s₁ (.ref a)) (.cons rfl .nil) (Z H hO hS)) fun r s' h => ?_
  cases r with
  | error e=>exact (Ef H e s' h).elim
  | ok fl =>
    cases fl with
    | next=>exact False.elim h
    | brk=>exact False.elim h
    | cont=>exact False.elim h
    | ret u =>
      obtain ⟨v,H',os,bare,un,O,r',q⟩:=h;have q':v = .bl true:=q;subst q';obtain rfl:u=Ld true:=r';refine ⟨rfl,OldK.of_keep fun b o e => ?_,os,bare⟩
      cases q:H b with
      | none=>exact un.keep b o e q (by intro z;exact absurd (show b∈([]:List Addr) from z) (by simp)) (by simp)
      | some u =>
        rcases hO b with z | ⟨ob,xs,z⟩
        ·rw [q] at z;cases z
        ·have z2:=un.frzs b ob _ z;obtain ⟨e1,_⟩:=hok b _ z;obtain ⟨e2,_⟩:=O b _ z2;rw [e] at e1;cases e1;exact e2
 cases hk:K.lookup a with
 | some o =>
   have e:=KX a o hk;rw [U] at e
   cases e
   refine core (fun _=>none) (fun _ => .inl rfl) (.inr ⟨_,vs.toArray,_,hk,rfl,rfl,rfl,by rw [D1,lenV];exact hl,by simpa using rv⟩) (fun b u z=>by have z':(none:Option HO)=some u:=z;cases z') (fun b z=>absurd rfl z) fun z=>absurd rfl z
 | none =>
   refine core (fun b=>if b=a then some (.frz { cls := .type "list",data := .seq vs.toArray } (.lst (ns.map V.int))) else none) (fun b => ?_) (.inl (.inr ⟨{ cls := .type "list",data := .seq vs.toArray },if_pos rfl⟩)) (fun b u z => ?_) (fun b z => ?_) fun _=>hk
   ·by_cases j:b=a
    ·exact .inr ⟨_,_,if_pos j⟩
    ·exact .inl (if_neg j)
   ·by_cases j:b=a
    ·have z':=(if_pos j).symm.trans z
     cases z'
     subst j;exact ⟨U,by rw [gV];exact hl,vs,_,rv,U⟩
    ·have z':=(if_neg j).symm.trans z
     cases z'
   ·by_cases j:b=a
    ·exact j
    ·exact absurd (if_neg j) z
end
section
theorem walk_of {l:Lv} {n k:Nat} {q:FR} {loose:List Str} {XP:(Str->Option e7)->Heap->Prop} {YP:G7->Heap->Prop} {d:DefRec} {K:Params->Frag} {CX:G7->CXT} {sp:G7->Sp} {x:Str}
 (U:l.most=some n) (z:n<=D0) (B:d.params.defaults=[]) (hr:Room k Mf)
 (Z:∀ (w:G7) (h:Heap),YP w h->(K w.params).In h)
 (F:∀ (w:G7) (mg:Str->Option e7) (fa:Addr) (h:Heap),(K w.params).In h->h.Ns GB mg->mg d.name=some (.ref fa) ->
   ∃ fd:ID,(∀ (s:h8) (u:e7),N4 s fd ⟨[u],[]⟩ [(x,u)]) /\
    ∀ base:Heap,(K w.params).In base->base.Ns GB mg->dj l.prog w (K w.params) mg base (CX w) k fa fd [x] (sp w))
 (J:∀ (w:G7) (H:Hp) (a:Addr) (ns:List Int),ns.length<=n->r9 H->SqL (K w.params) H a (ns.map V.int)->sp w [.ref a] H (fun v _=>v = .bl true) fun _ _ _=>False)
 (L:∀ (w:G7) (H:Hp) (s:h8) (e:e7) (s':h8),CX w [] H s (fun _ _ _=>False) e s'->False) :
 PySem.W.WalkO q loose XP YP l.row.toRowW d [] (fun f vs=>Ou f vs):=by
 refine Att.attach_call U B fun w s₀ s₁ mg mb fa o pm cd doc a vs ns G Y ho hd Ef O j hints hlen hg => ?_;have KX:=Z w _ Y;obtain ⟨fd,hb,hF⟩:=F w mg fa _ KX G.T.g O;exact wt KX G.T.g G.T.b G.T.builtins G.T.nolimit hg j hints (G8 hlen z) hr hF hb (fun H hO hS=>J w H a ns hlen hO hS) fun H e s'=>L w H s₁ e s'
end
section
noncomputable def cV (s:Stmt):Arguments:=match s with
 | .FunctionDef _ a _ _ _ _ _ _ _ _=>a
 | _ => { posonlyargs := [],args := [],vararg:=none,kwonlyargs := [],kw_defaults := [],kwarg:=none,defaults := [] }
noncomputable def bJ (s:Stmt):List Stmt:=match s with
 | .FunctionDef _ _ b _ _ _ _ _ _ _=>b
 | _ => []
noncomputable def ay (s:Stmt):Scope:=match s with
 | .FunctionDef _ _ _ _ _ _ sc _ _ _=>sc
 | _ => { kind := .function,names := [],isGenerator:=false,isCoroutine:=false }
noncomputable abbrev CX0:CXT:=fun _ _ _ _ _ _=>False
noncomputable abbrev E0:XK:=fun _ _ _=>False
theorem yx {X:Cx}:iC CX0 X E0:=fun _ _ _ _ _ _ _ h=>h.elim
structure Fun (K:Frag) (x qual:Str) (st:Stmt) (f:Addr) (fd:ID):Prop where
 ex:∃ (oc:e7) (od:Option Addr) (kV doc pm:e7) (an:Option Addr) (cdv ct:e7) (osl:Array (Option e7)),
  fd=Ij x qual (cV st) (bJ st) (ay st) .none kV doc pm an cdv ct/\K.lookup f=some ⟨oc,od, .func fd,osl⟩/\Ki K cdv qual=true
 kp:IE K (.ref f)=true
section
variable {P:FR} {w:G7} {K:Frag} {mg:Str->Option e7} {base:Heap}
theorem Fun.ok {x qual:Str} {st:Stmt} {f:Addr} {fd:ID} {N ps:List Str} {k:Nat} {sp:Sp} (F:Fun K x qual st f fd) (S:gc N ps (ay st)) (len:∀ vs H Q E,sp vs H Q E->vs.length=ps.length)
 (j:∀ (cdv:e7) (A:Gg) (outer:List Env) (s:h8) (H:Hp) (vs:List V) (Q:VK) (E:XK),Room k (A.deeper (LI qual (ay st) s.heap.objs.size f cdv))->sp vs H Q E ->
   ∃ t,PSs (gO CX0 P w K mg base N qual (ay st) f cdv A outer s H E).nox (bJ st) t/\t { nx:=fun _ H'=>Q .non H',rt:=Q } (cr N vs) H):dj P w K mg base CX0 (k+1) f fd ps sp:=by
 obtain ⟨oc,od,kV,doc,pm,an,cdv,ct,osl,rfl,lk,z⟩:=F.ex;refine CS lk z S len fun A outer s H vs Q E hr B => ?_;obtain ⟨t,h,q⟩:=j cdv A outer s H vs Q E hr B;exact ⟨t,h.nox,q⟩
theorem Fun.binds {x qual:Str} {st:Stmt} {f:Addr} {fd:ID} {ps:List Str} (F:Fun K x qual st f fd)
 (h:∀ (kV doc pm:e7) (an:Option Addr) (cdv ct:e7) (us:List e7),us.length=ps.length->bindArgs (Ij x qual (cV st) (bJ st) (ay st) .none kV doc pm an cdv ct) ⟨us,[]⟩=pure (ps.zip us)):Binds K fd ps []:=by
 obtain ⟨oc,od,kV,doc,pm,an,cdv,ct,osl,rfl,lk,j⟩:=F.ex;exact .all (h kV doc pm an cdv ct)
theorem ag {x qual:Str} {st:Stmt} {f:Addr} {oc:e7} {od an:Option Addr} {osl:Array (Option e7)} {kV doc pm cdv ct:e7} (l:K.lookup f=some ⟨oc,od, .func (Ij x qual (cV st) (bJ st) (ay st) .none kV doc pm an cdv ct),osl⟩)
 (c:Ki K cdv qual=true) (k:IE K (.ref f)=true):Fun K x qual st f (Ij x qual (cV st) (bJ st) (ay st) .none kV doc pm an cdv ct):=⟨⟨oc,od,kV,doc,pm,an,cdv,ct,osl,rfl,l,c⟩,k⟩
end
def Same (H H':Hp):Prop := ∀ b o,H b=some o->H' b=some o
theorem Same.trans {H H1 H2:Hp} (a:Same H H1) (b:Same H1 H2):Same H H2:=fun c o h=>b c o (a c o h)
theorem Same.free {H H':Hp} (e:Same H H') {l:Addr} (h:H' l=Option.none):H l=Option.none:=by
 cases q:H l with
 | none=>rfl
 | some o =>
   rw [e l o q] at h
   cases h
theorem Same.seq {K:Frag} {H H':Hp} {a:Addr} {xs:List V} (e:Same H H') (h:SqL K H a xs):SqL K H' a xs:=by
 rcases h with (h | ⟨o,h⟩) | h
 ·exact .inl (.inl (e _ _ h))
 ·exact .inl (.inr ⟨o,e _ _ h⟩)
 ·exact .inr h
end
end L2
namespace HT
open PySem PySem.Spec PyProof.Rows
section
variable {prog:FR} {w:G7} {A:Gg} {E:e7->h8->Prop} {s:h8}
theorem getItem_tuple_whole {t sl:Addr} {items:Array e7} {vl vu:e7} {lo hi:Option Int} {Q:e7->h8->Prop} (j:IsTup s.heap t items) (hs:s.heap.IsSliceOf sl vl vu .none) (pl:Lg vl lo) (pu:Lg vu hi)
 (hw:sIx items.size 0 lo=0/\sIx items.size items.size hi=items.size) (h:Q (.ref t) s):FG (model prog w) A (Lh (.ref t) (.ref sl)) Q E s:=by
 obtain ⟨os,q,z,G⟩:=id hs;have B:s.TypeIs (.ref sl) "slice" := ⟨os,q,z⟩;unfold Lh
 try with_reducible refine Gz ?_
 first | refine e6 (hQ ?_) | skip
 refine e6 (N6 j.typeIs (by decide) ?_)
 refine e6 (Ga (name:=q7 "__getitem__") j.typeIs Hi
  (Gq Hi j.typeIs Mj ?_ (MN _ _)))
 show FG _ _ (Kk (.ref t) >>= _) _ _ s;refine e6 (tupleItemsOf_ j ?_);refine e6 (Jp B ?_);rw [if_pos (by decide)]
 refine e6 (dl hs pl pu ?_);have F:(((sIx items.size 0 lo:Nat):Int)==0&&(1:Int)==1&&(sIx items.size items.size hi - sIx items.size 0 lo)==items.size)=true:=by
  rw [hw.1,hw.2];simp
 show FG _ _ (if (((sIx items.size 0 lo:Nat):Int)==0&&(1:Int)==1&&(sIx items.size items.size hi - sIx items.size 0 lo)==items.size)=true then _ else _) _ _ s
 rw [if_pos F];refine e6 (m:=Kl (.ref t)) ?_;unfold Kl;refine e6 (Jp j.typeIs (hQ ?_));show FG _ _ (if true=true then _ else _) _ _ s
 rw [if_pos rfl];exact e6 (H9 (hQ ⟨_,rfl,hQ h⟩))
end
end HT
namespace L2
open PySem PySem.Spec PyProof.Rows
section
section
variable {X:Cx}
noncomputable def E4 (K:Frag):V->Option Int->Option Int->Hp->VK->Prop:=fun x lo hi H Q => ∃ a xs,x = .ref a/\SqT K H a xs/\(HT.sIx xs.length 0 lo=0/\HT.sIx xs.length xs.length hi=xs.length)/\Q x H
theorem wu:SlR X (E4 X.K):=by
 intro pins s σ H x v vl vu lo hi sl Q I rx hs pl pu h;obtain ⟨a,xs,rfl,hx,hw,q⟩:=h
 cases rx
 obtain ⟨its,r,j,z⟩:=I.tuple hx;have hlen:=r.length;refine ⟨"tuple",_,slot_tuple_getitem.lookup,j.typeIs, ?_⟩;refine HT.getItem_tuple_whole j hs pl pu (by rw [D1, <- hlen];exact hw) ⟨.ref a,H,I,rfl,q⟩
end
end
section
section
variable {κ:Type} [DecidableEq κ]
noncomputable def b8 (kvs:List (κ × V)) (k : κ):Option V:=(kvs.find? fun kv=>decide (kv.1=k)).map (·.2)
noncomputable def bg (kvs:List (κ × V)) (k : κ) (v:V):List (κ × V) :=
 if (kvs.any fun kv=>decide (kv.1=k))=true then kvs.map (fun kv=>if kv.1=k then (kv.1,v) else kv) else kvs++[(k,v)]
noncomputable def bK (kvs:List (κ × V)) (k : κ):List (κ × V):=kvs.filter fun kv=>decide (kv.1≠k)
theorem eM {p : κ × V} {r:List (κ × V)} {k : κ} (e:p.1=k):b8 (p::r) k=some p.2:=by simp [b8,GP,e]
theorem eN {p : κ × V} {r:List (κ × V)} {k : κ} (e : ¬ p.1=k):b8 (p::r) k=b8 r k:=by simp [b8,GP,e]
theorem mD (k : κ):∀ kvs:List (κ × V),(kvs.any fun kv=>decide (kv.1=k))=(b8 kvs k).isSome
 | [] => rfl
 | p::r=>by
   rw [Hc]
   by_cases e:p.1=k
   ·simp only [eM e,decide_eq_true e,Bool.true_or,MR]
   ·rw [eN e,decide_eq_false e,JN];exact mD k r
theorem dM (kvs:List (κ × V)) (k : κ) (v:V):(bg kvs k v).length<=kvs.length+1:=by
 unfold bg
 split
 ·rw [gV];omega
 ·rw [i5,Gj,Io];omega
theorem RelO.isSome_eq {o:Option V} {u:Option e7} (r:RelO o u):o.isSome=u.isSome:=by
 cases o with
 | none=>cases u with
   | none=>rfl
   | some _=>exact (show False from r).elim
 | some _=>cases u with
   | none=>exact (show False from r).elim
   | some _=>rfl
theorem RelO.getD {o:Option V} {u:Option e7} {d:V} {d':e7} (r:RelO o u) (rd:RelV d d'):RelV (o.getD d) (u.getD d'):=by
 cases o with
 | none=>cases u with
   | none=>exact rd
   | some _=>exact (show False from r).elim
 | some _=>cases u with
   | none=>exact (show False from r).elim
   | some _=>exact r
theorem KV.val {kvs:List (κ × V)} {vs:List (κ × e7)} (r:KV kvs vs) (k : κ):RelO (b8 kvs k) (Lm vs k):=by
 unfold KV at r
 induction r with
 | nil=>exact GQ
 | @cons p q ps qs h t ih =>
  obtain ⟨h1,h2⟩:=h
  by_cases e:p.1=k
  ·have e':q.1=k:=h1.symm.trans e;have b:Lm (q::qs) k=some q.2:=by simp [Lm,GP,e']
   rw [eM e,b];exact h2
  ·have e' : ¬ q.1=k:=fun z=>e (h1.trans z);have b:Lm (q::qs) k=Lm qs k:=by simp [Lm,GP,e']
   rw [eN e,b];exact ih
theorem KV.any {kvs:List (κ × V)} {vs:List (κ × e7)} (r:KV kvs vs) (k : κ):(kvs.any fun kv=>decide (kv.1=k))=vs.any fun kv=>decide (kv.1=k):=by
 unfold KV at r
 induction r with
 | nil=>rfl
 | cons h t ih=>rw [Hc,Hc,ih,h.1]
theorem KV.repl {kvs:List (κ × V)} {vs:List (κ × e7)} (r:KV kvs vs) (k : κ) {y:V} {u:e7} (ry:RelV y u) :
 KV (kvs.map fun kv=>if kv.1=k then (kv.1,y) else kv) (vs.map fun kv=>if kv.1=k then (kv.1,u) else kv):=by
 unfold KV at r ⊢
 induction r with
 | nil=>exact .nil
 | @cons p q ps qs h t ih =>
  rw [FL,FL];refine .cons ?_ ih;obtain ⟨h1,h2⟩:=h
  by_cases e:p.1=k
  ·rw [if_pos e,if_pos (h1.symm.trans e)];exact ⟨h1,ry⟩
  ·rw [if_neg e,if_neg (fun z=>e (h1.trans z))];exact ⟨h1,h2⟩
theorem KV.put {kvs:List (κ × V)} {vs:List (κ × e7)} (r:KV kvs vs) (k : κ) {y:V} {u:e7} (ry:RelV y u):KV (bg kvs k y) (stored vs k u):=by
 unfold bg stored;rw [r.any k]
 by_cases e:(vs.any fun kv=>decide (kv.1=k))=true
 ·rw [if_pos e,if_pos e];exact r.repl k ry
 ·rw [if_neg e,if_neg e];exact Paired.snoc r ⟨rfl,ry⟩
theorem KV.drop {kvs:List (κ × V)} {vs:List (κ × e7)} (r:KV kvs vs) (k : κ):KV (bK kvs k) (without vs k):=by
 unfold KV at r ⊢;unfold bK without
 induction r with
 | nil=>exact .nil
 | @cons p q ps qs h t ih =>
  obtain ⟨h1,h2⟩:=h;rw [Gs,Gs]
  by_cases e:p.1=k
  ·have a : ¬ decide (p.1≠k)=true:=by simp [e]
   have b : ¬ decide (q.1≠k)=true:=by simp [h1.symm.trans e]
   rw [if_neg a,if_neg b];exact ih
  ·have e' : ¬ q.1=k:=fun z=>e (h1.trans z);have a:decide (p.1≠k)=true:=by simp [e]
   have b:decide (q.1≠k)=true:=by simp [e']
   rw [if_pos a,if_pos b];exact .cons ⟨h1,h2⟩ ih
theorem KV.keys {kvs:List (κ × V)} {vs:List (κ × e7)} (r:KV kvs vs):kvs.map (·.1)=vs.map (·.1):=by
 unfold KV at r
 induction r with
 | nil=>rfl
 | cons h t ih=>rw [FL,FL,ih,h.1]
theorem KV.length {kvs:List (κ × V)} {vs:List (κ × e7)} (r:KV kvs vs):kvs.length=vs.length:=IU r
theorem mF (kvs:List (κ × V)) (k : κ):(bK kvs k).length<=kvs.length:=FV _ _
end
theorem eO {P:FR} {w:G7} {k:Key} {u:e7} (r:RelV (kV k) u):(aJ P w).is k u=true:=by
 cases k with
 | inl i=>obtain ⟨t,e⟩:=(show ∃ t,u=KU i t from r);subst e;exact oY P w i t
 | inr x=>obtain ⟨t,e⟩:=(show ∃ t,u=KW x t from r);subst e;exact oZ P w x t
theorem ky {P:FR} {w:G7}:∀ {ks:List Key} {us:List e7},Vals (ks.map kV) us->ItemsAre (aJ P w) ks us
 | [],_,r=>by rw [Jq] at r;cases r;exact .nil
 | k::ks,_,r=>by
   rw [FL] at r
   cases r with
   | cons h t=>exact .cons (eO h) (ky t)
noncomputable abbrev KT (H:Hp):List (List Key×V)->List (List Key×Addr×e7)->Prop:=Gn fun p q=>p.1=q.1/\H q.2.1=some (.tup (p.1.map kV))/\RelV p.2 q.2.2
theorem KT.val {H:Hp} {kvs:List (List Key×V)} {xs:List (List Key×Addr×e7)} (r:KT H kvs xs) (k:List Key):RelO (b8 kvs k) ((NX xs k).map (·.2)):=by
 induction r with
 | nil=>exact GQ
 | @cons p q ps qs h t ih =>
  obtain ⟨h1,_,h2⟩:=h
  by_cases e:p.1=k
  ·have e':q.1=k:=h1.symm.trans e;have b:NX (q::qs) k=some q.2:=by simp [NX,GP,e']
   rw [eM e,b];exact h2
  ·have e' : ¬ q.1=k:=fun z=>e (h1.trans z);have b:NX (q::qs) k=NX qs k:=by simp [NX,GP,e']
   rw [eN e,b];exact ih
theorem KT.repl {H:Hp} {kvs:List (List Key×V)} {xs:List (List Key×Addr×e7)} (r:KT H kvs xs) (k:List Key) {y:V} {u:e7} (ry:RelV y u) :
 KT H (kvs.map fun kv=>if kv.1=k then (kv.1,y) else kv) (xs.map (putAt k u)):=by
 induction r with
 | nil=>exact .nil
 | @cons p q ps qs h t ih =>
  rw [FL,FL];refine .cons ?_ ih;obtain ⟨h1,h2,j⟩:=h;unfold putAt
  by_cases e:p.1=k
  ·rw [if_pos e,if_pos (h1.symm.trans e)];exact ⟨h1,h2,ry⟩
  ·rw [if_neg e,if_neg (fun z=>e (h1.trans z))];exact ⟨h1,h2,j⟩
theorem KT.put {H:Hp} {kvs:List (List Key×V)} {xs:List (List Key×Addr×e7)} (r:KT H kvs xs) (k:List Key) {b:Addr} {y:V} {u:e7} (j:H b=some (.tup (k.map kV))) (ry:RelV y u) :
 KT H (bg kvs k y) (storedH xs k b u):=by
 have e:(kvs.any fun kv=>decide (kv.1=k))=(NX xs k).isSome:=by
  rw [mD,(r.val k).isSome_eq,HP]
 unfold bg storedH;rw [e]
 by_cases q:(NX xs k).isSome=true
 ·rw [if_pos q,if_pos q];exact r.repl k ry
 ·rw [if_neg q,if_neg q];exact Paired.snoc r ⟨rfl,j,ry⟩
theorem KT.keeps {H H':Hp} {kvs:List (List Key×V)} {xs:List (List Key×Addr×e7)} (r:KT H kvs xs) (j:∀ b ys,H b=some (.tup ys)->H' b=some (.tup ys)):KT H' kvs xs :=
 ON r fun _ _ z=>⟨z.1,j _ _ z.2.1,z.2.2⟩
section
variable {P:FR} {w:G7} {H:Hp} {h:Heap} {a:Addr}
theorem yz {u:HO} (ok:HOk P w H h) (e:Rd H a u):ObjOk P w H h a u:=e.ok ok
theorem lK {kvs:List (Key×V)} (ok:HOk P w H h) (e:Rd H a (.dK kvs)):kvs.length<=D0/\(a==H4)=false /\ ∃ vs,KV kvs vs/\h.DictOf (aJ P w) a vs :=
 show ObjOk P w H h a (.dK kvs) from yz ok e
theorem lL {kvs:List (Key×V)} (ok:HOk P w H h) (e:H a=some (.dK kvs)):kvs.length<=D0/\(a==H4)=false /\ ∃ vs,KV kvs vs/\h.DictOf (aJ P w) a vs:=lK ok (.inl e)
theorem iF {ks:List Key} (ok:HOk P w H h) (e:H a=some (.tup (ks.map kV))):(KY (aJ P w)).is h ks a:=by
 obtain ⟨_,its,r,o,h1,h2,n,j⟩:=(show ObjOk P w H h a (.tup (ks.map kV)) from ok a _ e);exact ⟨o,its.toArray,n,h1,h2,j,by simpa using ky r⟩
theorem lM {kvs:List (List Key×V)} (ok:HOk P w H h) (e:Rd H a (.dT kvs)):kvs.length<=D0/\(a==H4)=false /\
 ∃ xs,KT H kvs xs/\h.DictOfH (KY (aJ P w)) a xs:=by
 obtain ⟨z,y,xs,r,o,es,ep,h1,h2,j,B,F⟩:=(show ObjOk P w H h a (.dT kvs) from yz ok e);refine ⟨z,y,xs,r,o,es,ep,h1,h2,j,B,fun x hx => ?_,F⟩;have all:∀ {l:List (List Key×V)} {m:List (List Key×Addr×e7)},KT H l m -> ∀ x∈m,(KY (aJ P w)).is h x.1 x.2.1:=by
  intro l m q
  induction q with
  | nil=>intro x hx;exact nomatch hx
  | @cons p q ps qs hq t ih =>
   intro x hx
   rcases Fx.mp hx with e | hx
   ·subst e;exact iF ok (by rw [<- hq.1];exact hq.2.1)
   ·exact ih x hx
 exact all r x hx
theorem CV {kvs:List (List Key×V)} (ok:HOk P w H h) (e:H a=some (.dT kvs)):kvs.length<=D0/\(a==H4)=false /\
 ∃ xs,KT H kvs xs/\h.DictOfH (KY (aJ P w)) a xs:=lM ok (.inl e)
end
def DGet (H:Hp) (a:Addr) (y:V) (r:Option V):Prop :=
 (∃ kvs k,Rd H a (.dK kvs)/\y=kV k/\r=b8 kvs k) ∨ ∃ kvs k b,Rd H a (.dT kvs)/\y = .ref b/\H b=some (.tup (k.map kV))/\r=b8 kvs k
def DPut (H:Hp) (a:Addr) (y v:V) (H':Hp):Prop :=
 (∃ kvs k,H a=some (.dK kvs)/\y=kV k/\kvs.length < D0/\H'=upd H a (.dK (bg kvs k v))) ∨
 ∃ kvs k b,H a=some (.dT kvs)/\y = .ref b/\H b=some (.tup (k.map kV))/\kvs.length < D0/\H'=upd H a (.dT (bg kvs k v))
theorem DGet.k {H:Hp} {a:Addr} {kvs:List (Key×V)} {k:Key} (e:H a=some (.dK kvs)):DGet H a (kV k) (b8 kvs k) := .inl ⟨kvs,k, .inl e,rfl,rfl⟩
theorem DGet.t {H:Hp} {a b:Addr} {kvs:List (List Key×V)} {k:List Key} (e:H a=some (.dT kvs)) (eb:H b=some (.tup (k.map kV))):DGet H a (.ref b) (b8 kvs k) := .inr ⟨kvs,k,b, .inl e,rfl,eb,rfl⟩
theorem DPut.k {H:Hp} {a:Addr} {kvs:List (Key×V)} {k:Key} {v:V} (e:H a=some (.dK kvs)) (j:kvs.length < D0):DPut H a (kV k) v (upd H a (.dK (bg kvs k v))) := .inl ⟨kvs,k,e,rfl,j,rfl⟩
theorem DPut.t {H:Hp} {a b:Addr} {kvs:List (List Key×V)} {k:List Key} {v:V} (e:H a=some (.dT kvs)) (eb:H b=some (.tup (k.map kV))) (j:kvs.length < D0) :
 DPut H a (.ref b) v (upd H a (.dT (bg kvs k v))) := .inr ⟨kvs,k,b,e,rfl,eb,j,rfl⟩
section
variable {X:Cx} {pins:List (Addr×Obj)} {σ:St} {H:Hp} {s:h8} {a:Addr} {y v:V} {u r:e7} {o:Option V} {A:Gg} {E:e7->h8->Prop}
theorem Inv.big (I:Inv X pins σ H s):H4 < s.heap.objs.size:=by
 have h:GB < s.heap.objs.size:=(I.mod.glob.keeps I.bk).lt;exact Nat.lt_trans (by decide) h
theorem tN {Q:e7->h8->Prop} (q:A.units+1 < Ib) (I:Inv X pins σ H s) (g:DGet H a y (some v)) (ry:RelV y u) (h:∀ w' s',Inv X pins σ H s'->RelV v w'->Q w' s') :
 FG (model X.prog X.w) A (Lh (.ref a) u) Q E s:=by
 rcases g with ⟨kvs,k,e,ey,l⟩ | ⟨kvs,k,b,e,ey,eb,l⟩
 ·subst ey;obtain ⟨z,hd,vs,rel,dd⟩:=lK I.hok e;obtain ⟨w',hw,rw'⟩:=OT (v:=v) (o:=Lm vs k) (by rw [l];exact rel.val k)
  exact wpAny_getItem_of (eO ry) dd.mapOf hw (h w' _ (I.tok _) rw')
 ·subst ey
  cases (show u=G2 b from ry)
  obtain ⟨z,hd,xs,rel,dd⟩:=lM I.hok e;obtain ⟨w',hw,rw'⟩:=OT (v:=v) (o:=(NX xs k).map (·.2)) (by rw [l];exact rel.val k)
  obtain ⟨p,B,j⟩:=HA.mp hw;refine wpAny_getItem_heap (Km q) (iF I.hok eb) dd B ?_;rw [j];exact h w' _ (I.tok _) rw'
theorem E5 {Q:e7->h8->Prop} (j:A.units+1 < Ib) (I:Inv X pins σ H s) (g:DGet H a y o) (ry:RelV y u) (h:∀ s',Inv X pins σ H s'->Q (.bool o.isSome) s') :
 FG (model X.prog X.w) A (GA .In u (.ref a)) Q E s:=by
 rcases g with ⟨kvs,k,e,ey,l⟩ | ⟨kvs,k,b,e,ey,eb,l⟩
 ·subst ey;obtain ⟨z,hd,vs,rel,dd⟩:=lK I.hok e;refine wpAny_in_of (eO ry) hd dd.mapOf ?_;rw [<- (rel.val k).isSome_eq, <- l];exact h _ (I.tok _)
 ·subst ey
  cases (show u=G2 b from ry)
  obtain ⟨z,hd,xs,rel,dd⟩:=lM I.hok e;refine wpAny_in_heap (Km j) (iF I.hok eb) hd dd ?_;have q:=(rel.val k).isSome_eq;rw [HP] at q;rw [<- q, <- l];exact h _ (I.tok _)
theorem dR {h':Heap} {t':Nat} {ob:HO} (I:Inv X pins σ H s) (mu:Mut (H a)) (hs:GZ a s.heap h') (he:∃ q,h'.get? a=some q) (new:ObjOk X.prog X.w (upd H a ob) h' a ob) :
 Inv X pins σ (upd H a ob) { s with heap:=h',toks:=t' } :=
 I.write (x:=a) (e:=a) mu (.inl rfl) (fun b q j z=>(hs.2 b j).trans z) he new
theorem iG {P:FR} {w:G7} {H':Hp} {h':Heap} {kvs:List (Key×V)} {vs:List (Key×e7)} (z:kvs.length<=D0) (hd:(a==H4)=false) (rel:KV kvs vs) (dd:h'.DictOf (aJ P w) a vs) :
 ObjOk P w H' h' a (.dK kvs):=⟨z,hd,vs,rel,dd⟩
theorem tO {H':Hp} {Q:Unit->h8->Prop} (G:A.units+1 < Ib) (I:Inv X pins σ H s) (g:DPut H a y v H') (ry:RelV y u) (rv:RelV v r) (h:∀ s',Inv X pins σ H' s'->Q () s') :
 FG (model X.prog X.w) A (setItem (.ref a) u r) Q E s:=by
 rcases g with ⟨kvs,k,e,ey,l,eH⟩ | ⟨kvs,k,b,e,ey,eb,l,eH⟩
 ·subst ey eH;obtain ⟨z,hd,vs,rel,dd⟩:=lL I.hok e;have B:vs.length<=D0:=by rw [<- rel.length];exact z
  have F:(bg kvs k v).length<=D0:=by have:=dM kvs k v;omega
  refine wpAny_setItem_pairs (hsz:=B) (eO ry) dd fun h' dd' hs=>h _ ?_;have he:∃ q,h'.get? a=some q:=let ⟨q,_,_,j,_⟩:=dd'; ⟨q,j⟩;exact dR I (by rw [e];exact GQ) hs he (iG F hd (rel.put k rv) dd')
 ·subst ey eH
  cases (show u=G2 b from ry)
  obtain ⟨z,hd,xs,rel,dd⟩:=CV I.hok e;have B:xs.length<=D0:=by rw [<- IU rel];exact z
  have F:(bg kvs k v).length<=D0:=by have:=dM kvs k v;omega
  refine wpAny_setItem_heap (hsz:=B) (Km G) (iF I.hok eb) dd fun h' dd' hs=>h _ ?_;obtain ⟨q,es,ep,j,h2,J,L,_,O⟩:=dd';refine dR I (by rw [e];exact GQ) hs ⟨q,j⟩ ⟨F,hd,_,(rel.put k eb rv).keeps fun c ys ec => ?_,q,es,ep,j,h2,J,L,O⟩
  rw [ai (CC ec e (fun z=>nomatch z))];exact ec
end
section
variable {X:Cx} {pins:List (Addr×Obj)} {σ:St} {H:Hp} {s:h8} {a:Addr} {kvs:List (Key×V)} {k:Key} {u:e7} {A:Gg} {E:e7->h8->Prop}
theorem tP {Q:Unit->h8->Prop} (I:Inv X pins σ H s) (e:H a=some (.dK kvs)) (ry:RelV (kV k) u) (l:(b8 kvs k).isSome=true) (h:∀ s',Inv X pins σ (upd H a (.dK (bK kvs k))) s'->Q () s') :
 FG (model X.prog X.w) A (delItem (.ref a) u) Q E s:=by
 obtain ⟨z,hd,vs,rel,dd⟩:=lL I.hok e;refine wpAny_delItem_slot dd.typeIs (by decide) Kx
  (call_meetsIn Kx dd.typeIs PySem.F.entry_dict_delitem (PySem.F.args_dict_delitem_2 _ _) (meets_dict_delitem_pairs (aJ X.prog X.w) a (eO ry)) ⟨vs,dd,by rw [<- rel.length];exact z,by rw [<- (rel.val k).isSome_eq];exact l,fun h' dd' hs=>h _ ?_⟩)
 have he:∃ q,h'.get? a=some q:=let ⟨q,_,_,j,_⟩:=dd'; ⟨q,j⟩;exact dR I (by rw [e];exact GQ) hs he (iG (G8 (mF kvs k) z) hd (rel.drop k) dd')
theorem CW {v:V} {more:List e7} {Q:e7->h8->Prop} (I:Inv X pins σ H s) (e:H a=some (.dK kvs)) (ry:RelV (kV k) u) (l:b8 kvs k=some v) (hm:more=[] ∨ ∃ x,more=[x])
 (h:∀ w' s',Inv X pins σ (upd H a (.dK (bK kvs k))) s'->RelV v w'->Q w' s'):FG (model X.prog X.w) A (call (.builtin "dict.pop") (.ref a::u::more)) Q E s:=by
 obtain ⟨z,hd,vs,rel,dd⟩:=lL I.hok e;obtain ⟨w',hw,rw'⟩:=OT (v:=v) (o:=Lm vs k) (by rw [<- l];exact rel.val k)
 have j:(keyPart u).isSome=true:=by
  cases k with
  | inl i=>obtain ⟨t,q⟩:=(show ∃ t,u=KU i t from ry);subst q;rfl
  | inr x=>obtain ⟨t,q⟩:=(show ∃ t,u=KW x t from ry);subst q;rfl
 have B:argsOk "dict.pop" ⟨.ref a::u::more,[]⟩:=by
  rcases hm with q | ⟨x,q⟩
  ·subst q;exact PySem.F.args_dict_pop_2 _ _
  ·subst q;exact PySem.F.args_dict_pop_3 _ _ _
 refine call_meetsIn LA dd.typeIs PySem.F.entry_dict_pop B (meets_dict_pop_there (aJ X.prog X.w) a (eO ry) more hm j)
  ⟨vs,w',dd,by rw [<- rel.length];exact z,hw,fun h' dd' hs=>h w' _ ?_ rw'⟩
 have he:∃ q,h'.get? a=some q:=let ⟨q,_,_,G,_⟩:=dd'; ⟨q,G⟩;exact dR I (by rw [e];exact GQ) hs he (iG (G8 (mF kvs k) z) hd (rel.drop k) dd')
end
noncomputable def CY (td ty:TE):TS:=fun D σ H=>td σ H fun x H1=>ty σ H1 fun y H2 => ∃ a kvs k,x = .ref a/\H2 a=some (.dK kvs)/\y=kV k/\(b8 kvs k).isSome=true/\D.nx σ (upd H2 a (.dK (bK kvs k)))
section
variable {X:Cx} {o i e value:Expr} {pos pos' tpos:Pos} {td ty tv:TE}
theorem zt (ho:PE X o td) (hi:PE X i ty):PS X (.Delete [.Subscript o i tpos] pos) (CY td ty):=by
 intro pins s σ H D I h;refine wpAny_Delete (wpAny_deleteEach_cons (wpAny_delete_Subscript (thn (ho pins s σ H _ I h) fun u s1 ⟨x,H1,j,rx,q⟩=>thn (hi pins s1 σ H1 _ j q) fun iv s2 ⟨y,H2,z,ry,a,kvs,k,ex,e,ey,l,B⟩ => ?_)));subst ex ey;obtain rfl:u=G2 a:=rx;exact tP z e ry l fun s3 F=>wpAny_deleteEach_nil ⟨σ,_,F,B⟩
end
theorem mG {P:FR} {w:G7} {H:Hp} (h:Heap) (j:H4 < h.objs.size):ObjOk P w H (h.push { cls := .type "dict",data := .dict #[] }) h.objs.size (.dK []) :=
 ⟨GW _,beq_eq_false_iff_ne.mpr (Ne.symm (G0 j)),[], .nil,Heap.DictOf.new h⟩
theorem wv {P:FR} {w:G7} {H:Hp} (h:Heap) (j:H4 < h.objs.size):ObjOk P w H (h.push { cls := .type "dict",data := .dict #[] }) h.objs.size (.dT []) :=
 ⟨GW _,beq_eq_false_iff_ne.mpr (Ne.symm (G0 j)),[], .nil,_, #[],0,FF _ rfl,⟨rfl,rfl,rfl⟩,rfl,rfl,Kn⟩
noncomputable def Bo:TE:=fun _ H Q => ∀ p,H p=none->Q (.ref p) (upd H p (.dK []))
noncomputable def Bp:TE:=fun _ H Q => ∀ p,H p=none->Q (.ref p) (upd H p (.dT []))
section
variable {X:Cx} {pos:Pos}
theorem ww:PE X (.Dict [] [] pos) Bo:=fun pins s σ H Q I h =>
 NA ⟨.ref s.heap.objs.size,_,I.laid (a:=s.heap.objs.size) (o := .dK []) (t':=s.toks) (fun _ _ q=>h7 _ q) (Fy _) (mG s.heap I.big),rfl,h _ (I.hok.fresh (Fy _))⟩
theorem wx:PE X (.Dict [] [] pos) Bp:=fun pins s σ H Q I h =>
 NA ⟨.ref s.heap.objs.size,_,I.laid (a:=s.heap.objs.size) (o := .dT []) (t':=s.toks) (fun _ _ q=>h7 _ q) (Fy _) (wv s.heap I.big),rfl,h _ (I.hok.fresh (Fy _))⟩
end
structure M1 (X:Cx) (o:Expr) (m:Str) (apos:Pos) (e:Expr) (cpos:Pos):Prop where
 base:KN o m X.env (eval o X.env)=eval o X.env
 few:((IC cpos (FP [e] X.env)).all (fun x => !x.1)&&(Ot cpos (LJ [] X.env)).all (fun x=>x.1.isSome)
  && decide (([e]:List Expr).length+([]:List K8).length+(if ([]:List K8).isEmpty then 0 else 1) < 30))=true
 line:(apos.endLine==cpos.line)=true
 trees:IC cpos (FP [e] X.env)=[(false,eval e X.env)]
structure M2 (X:Cx) (o:Expr) (m:Str) (apos:Pos) (e f:Expr) (cpos:Pos):Prop where
 base:KN o m X.env (eval o X.env)=eval o X.env
 few:((IC cpos (FP [e,f] X.env)).all (fun x => !x.1)&&(Ot cpos (LJ [] X.env)).all (fun x=>x.1.isSome)
  && decide (([e,f]:List Expr).length+([]:List K8).length+(if ([]:List K8).isEmpty then 0 else 1) < 30))=true
 line:(apos.endLine==cpos.line)=true
 trees:IC cpos (FP [e,f] X.env)=[(false,eval e X.env),(false,eval f X.env)]
def IsD (H:Hp) (a:Addr):Prop:=(∃ kvs,Rd H a (.dK kvs)) ∨ ∃ kvs,Rd H a (.dT kvs)
theorem mH {X:Cx} {pins:List (Addr×Obj)} {σ:St} {H:Hp} {s:h8} {a:Addr} (I:Inv X pins σ H s) (d:IsD H a) :
 s.TypeIs (.ref a) "dict" /\ (∀ b,G2 a = .ref b -> ∃ ob,s.heap.get? b=some ob/\ob.dict=none)/\(a==H4)=false:=by
 rcases d with ⟨kvs,e⟩ | ⟨kvs,e⟩
 ·obtain ⟨_,hd,vs,_,dd⟩:=lK I.hok e;refine ⟨dd.typeIs,fun b q => ?_,hd⟩
  cases q
  obtain ⟨ob,_,_,h1,h2,_⟩:=dd;exact ⟨ob,h1,h2.2.1⟩
 ·obtain ⟨_,hd,xs,_,dd⟩:=lM I.hok e;refine ⟨dd.typeIs,fun b q => ?_,hd⟩
  cases q
  obtain ⟨ob,_,_,h1,h2,_⟩:=dd;exact ⟨ob,h1,h2.2.1⟩
noncomputable def Bq (td ty:TE):TE:=fun σ H Q=>td σ H fun x H1 => ∃ a,x = .ref a/\IsD H1 a/\ty σ H1 fun y H2 => ∃ kvs k v,H2 a=some (.dK kvs)/\y=kV k/\b8 kvs k=some v/\Q v (upd H2 a (.dK (bK kvs k)))
section
variable {X:Cx} {o e f:Expr} {apos cpos:Pos} {td ty tx:TE}
theorem wy (ho:PE X o td) (he:PE X e ty) (m:M1 X o "pop" apos e cpos):PE X (.Call (.Attribute o "pop" apos) [e] [] cpos) (Bq td ty):=by
 intro pins s σ H Q I h;refine wpAny_Call_method m.base m.few m.line PySem.F.plainAttrs_dict LA PySem.F.type_dict_pop (thn (ho pins s σ H _ I h) fun u s1 ⟨x,H1,j,rx,a,ex,d,q⟩ => ?_);subst ex;obtain rfl:u=G2 a:=rx;obtain ⟨t1,z,_⟩:=mH j d;refine ⟨t1,z, ?_⟩;rw [m.trees];refine Ll rfl (LK (Ja (thn (he pins s1 σ H1 _ j q) fun iv s2 ⟨y,H2,B,ry,kvs,k,v,ea,ey,l,G⟩=>Jm ?_)));subst ey;exact CW B ea ry l (.inl rfl) fun w' s3 J rw'=>⟨v,_,J,rw',G⟩
end
end
section
noncomputable def aW (elt:Expr) (gens:List FO) (scope:Scope) (pos:Pos) (d:Nat) (acc:e7) (env:Env) (k:Sem Fin):Sem Fin :=
 match gens[d+1]? with
 | some g'=>eval g'.iter env >>= fun x=>Iw g'.iter.pos >>= fun _=>GI g'.iter env x >>= fun x=>holding [x] (KJ x) >>= fun it' =>
    runOwn (.compStart (.ListComp elt gens scope pos) (d+1) it' acc env) env >>= fun _=>k
 | none=>(eval elt env >>= fun x=>call (.builtin "list.append") [acc,x] >>= fun _=>pure ()) >>= fun _=>k
noncomputable def aG (ifs:List Expr) (env:Env):Sem Bool :=
 forIn ifs true fun c r=>if r=true then do let ok <- isTrue c env (eval c env);pure (Ip ok) else pure (Ip r)
theorem mJ (elt target iter:Expr) (ifs:List Expr) (gens:List FO) (scope:Scope) (pos:Pos) (d:Nat) (it acc:e7) (env:Env)
 (hd:gens[d]? = some ⟨target,iter,ifs,0⟩) (j:∀ g',gens[d+1]? = some g'->g'.is_async=0) :
 LL (.ListComp elt gens scope pos) d it acc env=(Iw iter.pos >>= fun _=>J8 it >>= fun r=>match r with
  | none=>pure (.done .next)
  | some v=>J2 target it v >>= fun _=>assign target env v >>= fun _=>aG ifs env >>= fun ok =>
    (if ok=true then aW elt gens scope pos d acc env (again (.compLoop (.ListComp elt gens scope pos) d it acc env)) else again (.compLoop (.ListComp elt gens scope pos) d it acc env))):=by
 unfold LL;simp only [hd];unfold aW aG
 cases hn:gens[d+1]? with
 | none=>rfl
 | some g' =>
   obtain ⟨t',i',f',a'⟩:=g';have e:a'=0:=j _ hn;subst e;rfl
noncomputable abbrev TC:=St->Hp->(St->Hp->Prop)->Prop
def bc (J:It) (g:TG) (tb:TC) (N:St->Hp->Prop) (σ:St) (H:Hp):Prop :=
 ∃ W:Nat->Nat->St->Hp->Prop,(∃ m,W 0 m σ H) /\ ∀ i m σ H,W i m σ H ->
  (J.stop i H/\N σ H)∨(J.go i H /\ ∃ N':St->Hp->Prop,(∀ σ' H',N' σ' H' -> ∃ m',m' < m/\W (i+1) m' σ' H') /\ ∀ x H',J.yld i H x H'->g x σ H' fun σ2 H2=>tb σ2 H2 N')
def PB (X:Cx) (F:Sem Fin->Sem Fin) (t:TC):Prop :=
 ∀ (pins:List (Addr×Obj)) (s:h8) (σ:St) (H:Hp) (N:St->Hp->Prop) (k:Sem Fin) (Q:Fin->h8->Prop) (E:e7->h8->Prop),Inv X pins σ H s->t σ H N ->
  (∀ s' σ' H',Inv X pins σ' H' s'->N σ' H'->FG (model X.prog X.w) X.A k Q E s')->FG (model X.prog X.w) X.A (F k) Q E s
section
variable {X:Cx}
theorem nox {α:Type} {m:Sem α} {Q : α -> h8->Prop} {E:e7->h8->Prop} {s:h8} (hx:∀ e s,X.xe e s->False) (h:FG (model X.prog X.w) X.A m Q X.xe s):FG (model X.prog X.w) X.A m Q E s :=
 H8 h (fun _ _ q=>q) fun e s' q=>(hx e s' q).elim
noncomputable def iH (ts:List TT) (tb:TC):TC:=match ts with
 | [] => tb
 | t::r=>fun σ H N=>t σ H fun b H1=>if b=true then iH r tb σ H1 N else N σ H1
theorem iI {env:Env} {M:JP} {A:Gg} {Q:Bool->h8->Prop} {E:e7->h8->Prop} {s:h8} (h:Q false s):∀ ifs:List Expr,
 FG M A (forIn ifs false fun c r=>if r=true then do let ok <- isTrue c env (eval c env);pure (Ip ok) else pure (Ip r)) Q E s
 | [] => hQ h
 | c::r=>by
   rw [Iq];simp only [Hl,if_false];exact e6 (hQ (iI h r))
theorem mK (hx:∀ e s,X.xe e s->False) {tb:TC} {N:St->Hp->Prop}:∀ {ifs:List Expr} {ts:List TT},Gn (fun c t=>PT X c t) ifs ts ->
 ∀ (pins:List (Addr×Obj)) (s:h8) (σ:St) (H:Hp) (E:e7->h8->Prop),Inv X pins σ H s->iH ts tb σ H N ->
 FG (model X.prog X.w) X.A (aG ifs X.env) (fun ok s' => ∃ H',Inv X pins σ H' s'/\if ok=true then tb σ H' N else N σ H') E s
 | _,_, .nil=>fun pins s σ H E I h=>hQ ⟨H,I,by rw [if_pos rfl];exact h⟩
 | c::ifs,_, .cons (b:=t) z hr=>by
   intro pins s σ H E I h;have ih:=mK hx hr (tb:=tb) (N:=N) pins;unfold aG at ih ⊢;rw [Iq];simp only [if_true];refine e6 (e6 (nox hx (thn (z pins s σ H _ I h) fun b s1 ⟨H1,q,j⟩=>hQ ?_)))
   cases b with
   | false =>
     rw [if_neg i4] at j;exact iI ⟨H1,q,by rw [if_neg i4];exact j⟩ ifs
   | true =>
     rw [if_pos rfl] at j;exact ih s1 σ H1 E q j
theorem gQ (hx:∀ e s,X.xe e s->False) {F:Sem Fin->Sem Fin} {tb:TC} (z:PB X F tb) {ifs:List Expr} {ts:List TT} (B:Gn (fun c t=>PT X c t) ifs ts) :
 PB X (fun k=>aG ifs X.env >>= fun ok=>if ok=true then F k else k) (iH ts tb):=by
 intro pins s σ H N k Q E I h hk;refine e6 (thn (mK hx B pins s σ H E I h) fun ok s1 ⟨H1,q,j⟩ => ?_)
 cases ok with
 | false =>
   rw [if_neg i4] at j ⊢;exact hk s1 σ H1 q j
 | true =>
   rw [if_pos rfl] at j ⊢;exact z pins s1 σ H1 N k Q E q j hk
noncomputable def yA (p:Addr) (te:TE):TC:=fun σ H N=>te σ H fun x H1 => ∃ xs,H1 p=some (.lst xs)/\xs.length < D0/\N σ (upd H1 p (.lst (xs++[x])))
theorem jB (hx:∀ e s,X.xe e s->False) {elt:Expr} {gens:List FO} {scope:Scope} {pos:Pos} {d:Nat} {p:Addr} {te:TE} (he:PE X elt te) (hd:gens[d+1]? = none) :
 PB X (aW elt gens scope pos d (.ref p) X.env) (yA p te):=by
 intro pins s σ H N k Q E I h j;unfold aW;rw [hd];refine e6 (e6 (nox hx (thn (he pins s σ H _ I h) fun u s1 ⟨x,H1,q,r1,xs,z,l1,B⟩ => ?_)));refine e6 (nox hx (thn (ku (X:=X) pins s1 σ H1 (.ref p) [x] (.ref p) [u] (fun _ H2=>N σ H2) q rfl (.cons r1 .nil) ⟨p,xs,x,rfl,rfl,z,l1,B⟩) fun v s2 ⟨_,H2,F,_,G⟩ => ?_));exact hQ (j s2 σ H2 F G)
theorem kz (hx:∀ e s,X.xe e s->False) (U:X.calm=true) {elt target iter:Expr} {ifs:List Expr} {gens:List FO} {scope:Scope} {pos:Pos} {d:Nat} {acc:e7}
 (hd:gens[d]? = some ⟨target,iter,ifs,0⟩) (ha:∀ g',gens[d+1]? = some g'->g'.is_async=0) {g:TG} (hg:PG X target g) {tb:TC}
 (j:PB X (fun k=>aG ifs X.env >>= fun ok=>if ok=true then aW elt gens scope pos d acc X.env k else k) tb)
 {pins:List (Addr×Obj)} {s:h8} {σ:St} {H:Hp} {N:St->Hp->Prop} {it:Addr} {fp:List Addr} {tn:Nat->Heap->Prop} {J:It} (I:Inv X pins σ H s) (T:fv X.prog X.w X.K target J fp it tn)
 (t0:tn 0 s.heap) (f2:∀ b∈fp,bo X pins H b) (h:bc J g tb N σ H) :
 Iy (model X.prog X.w) X.A (.compLoop (.ListComp elt gens scope pos) d (.ref it) acc X.env) (fun r s'=>match r with | .ok _ => ∃ σ' H',Inv X pins σ' H' s'/\N σ' H' | .error _=>False) s:=by
 obtain ⟨W,⟨m0,w0⟩,turn⟩:=h;have stat:∀ {H':Hp},(∀ b∈fp,H' b=none) -> ∀ b∈fp,bo X pins H' b:=fun hn b j=>⟨hn b j,(f2 b j).2⟩;refine codeAny_loop rfl (fun n s' => ∃ i σ' H',Inv X pins σ' H' s'/\tn i s'.heap/\(∀ b∈fp,H' b=none)/\W i n σ' H') ?_ m0 ⟨0, σ,H,I,t0,fun b j=>(f2 b j).1,w0⟩;rintro n s3 ⟨i, σ3,F,Y,z,B,w3⟩;show FG _ _ ((LL (.ListComp elt gens scope pos) d (.ref it) acc X.env).onRaise (fun x=>do NB x X.env;theTreesLotGoes x)) _ _ s3
 refine wpAny_noted ?_;rw [mJ elt target iter ifs gens scope pos d (.ref it) acc X.env hd ha];refine e6 (GX (e6 ?_));show FG (model X.prog X.w) X.A _ _ _ s3
 rcases turn i n σ3 F w3 with ⟨stop,qn⟩ | ⟨go,N',hN,step⟩
 ·refine thn (T.done X rfl rfl rfl U i pins s3 σ3 F _ Y (stat B) z stop) fun r s4 ⟨hr,I4⟩ => ?_;subst hr;exact hQ ⟨σ3,F,I4,qn⟩
 ·refine thn (T.item X rfl rfl rfl U i pins s3 σ3 F _ Y (stat B) z go) fun r s4 ⟨u,hr,h4⟩ => ?_;subst hr;refine e6 (thn h4 fun _ s5 ⟨x,Z,I5,r5,y5,q,G⟩ => ?_);have L:=I5.pinned (stat G) (T.obj _ _ q);refine e6 (nox hx (thn (hg _ s5 σ3 Z x u _ L r5 (step x Z y5)) fun _ s6 ⟨σ6,H6,I6,q6⟩ => ?_));refine j _ s6 σ6 H6 N' (again (.compLoop (.ListComp elt gens scope pos) d (.ref it) acc X.env)) _ _ I6 q6 fun s7 σ7 H7 O n7 => ?_;obtain ⟨m',hm,w7⟩:=hN σ7 H7 n7;refine hQ ⟨rfl,m',hm,i+1, σ7,H7,O.unpinned,T.keep _ _ _ q fun b j o e=>(O.pin (b,o) (FE _ (FE _ (bI j e)))).1,fun b j => ?_,w7⟩;obtain ⟨o,e,dd⟩:=T.obj _ _ q b j;exact (O.pin (b,o) (FE _ (FE _ (bI j e)))).2.1
theorem iJ {elt target iter:Expr} {ifs:List Expr} {gens:List FO} {scope:Scope} {pos:Pos} {d:Nat} {it acc:e7} {env:Env} {prog:FR} {w:G7} {A:Gg} {R:Nx->h8->Prop} {s:h8}
 (hd:gens[d]? = some ⟨target,iter,ifs,0⟩)
 (h0:Iy (model prog w) A (.compLoop (.ListComp elt gens scope pos) d it acc env) R s)
 (h:FG (model prog w) A (KJ it) (fun it' s'=>Iy (model prog w) A (.compLoop (.ListComp elt gens scope pos) d it' acc env) R s')
   (notedBy (model prog w) A env fun x s'=>R (.error x) s') s) :
 Iy (model prog w) A (.compStart (.ListComp elt gens scope pos) d it acc env) R s:=by
 refine codeAny_of_tree ?_;show FG _ _ ((ND (.ListComp elt gens scope pos) d it acc env).onRaise (fun x=>do NB x env;Iw theWindowsPlace)) _ _ s
 refine wpAny_notedAt ?_;unfold ND;have j:(clausesOf (.ListComp elt gens scope pos))[d]? = some ⟨target,iter,ifs,0⟩:=hd;rw [j];show FG _ _ (ask >>= _) _ _ s;refine e6 (NF (wpAny_ite ?_))
 split
 ·first
   | exact e6 (hQ (hQ (Jh rfl h0)))
   | exact hQ (Jh rfl h0)
 ·first
   | exact e6 (H9 (e6 (GX (e6 (H8 h (fun it' s' h'=>hQ (Jh rfl h')) fun _ _ x=>x)))))
   | (refine e6 (H9 ?_);show FG _ _ (Iw iter.pos >>= _) _ _ s;exact e6 (GX (e6 (H8 h (fun it' s' h'=>hQ (Jh rfl h')) fun _ _ x=>x))))
theorem kA (hx:∀ e s,X.xe e s->False) (q:X.calm=true) {elt target iter:Expr} {ifs:List Expr} {gens:List FO} {scope:Scope} {pos:Pos} {d:Nat} {acc:e7}
 (hd:gens[d+1]? = some ⟨target,iter,ifs,0⟩) (z:∀ g',gens[d+1+1]? = some g'->g'.is_async=0) {wi:TI} (hi:PI X target iter wi) {g:TG} (B:PG X target g) {tb:TC}
 (F:PB X (fun k=>aG ifs X.env >>= fun ok=>if ok=true then aW elt gens scope pos (d+1) acc X.env k else k) tb)
 (hs:∀ x,GI iter X.env x=pure x) :
 PB X (aW elt gens scope pos d acc X.env) (fun σ H N=>wi σ H fun J H1=>bc J g tb N σ H1):=by
 intro pins s σ H N k Q E I h hk;unfold aW;rw [hd];refine e6 (nox hx (thn (hi pins s σ H _ I h) fun v s1 h1 => ?_));refine e6 (GX (e6 (Ic (hs v) ?_)));refine e6 (Gz (nox hx (thn h1 fun itv s2 h2 => ?_)));obtain ⟨it,fp,tn,J,H2,e,G,T,j,f2,hw⟩:=h2;subst e;have loop:=kz (acc:=acc) hx q hd z B F G T j f2 hw;refine e6 (wpAny_runOwn (Ii (iJ (R:=fun r s'=>match r with | .ok _ => ∃ σ' H',Inv X pins σ' H' s'/\N σ' H' | .error _=>False) hd loop (T.self _ 0 _ _ _ j loop)) fun r s3 hr => ?_))
 cases r with
 | error e=>exact hr.elim
 | ok f =>
   obtain ⟨σ3,L,O,U⟩:=hr;exact hk s3 σ3 L O U
noncomputable def aQ (cells:List (Str×Addr)):List (Str×HZ)->List (Str×Addr)->List (Str×Addr)
 | [],acc=>acc
 | (n,k)::r,acc=>if k == .free then (match cells.lookup n with | some c=>aQ cells r ((n,c)::acc) | none=>aQ cells r acc) else aQ cells r acc
theorem gG {env:Env}:∀ (names:List (Str×HZ)) (acc:List (Str×Addr)),(∀ x∈names,x.2 = .free->(env.cells.lookup x.1).isSome=true) ->
 (forIn names acc fun (x:Str×HZ) (r:List (Str×Addr))=>(match x with | (name,kind)=>if (kind==FZ)=true then do let c <- cellOf env name;pure (Ip ((name,c)::r)) else pure (Ip r):Sem (ForInStep (List (Str×Addr)))))=(pure (aQ env.cells names acc):Sem (List (Str×Addr)))
 | [],acc,_=>rfl
 | (n,k)::r,acc,h=>by
  rw [Iq];have ih:=fun acc'=>gG r acc' fun x hx=>h x (FJ _ hx);unfold aQ
  by_cases hk:(k==FZ)=true
  ·obtain ⟨c,q⟩:=Hm.mp (h (n,k) Gv (beq_iff_eq.mp hk));have j:env.cells.lookup n=some c:=q;have z:cellOf env n=pure c:=by unfold cellOf;rw [j]
   simp only [hk,if_true,z,j,pure_bind];exact ih _
  ·simp only [hk,if_false,pure_bind];exact ih _
theorem eP {scope:Scope} {env:Env} (h:∀ x∈scope.names,x.2 = .free->(env.cells.lookup x.1).isSome=true):closureFor scope env=pure (aQ env.cells scope.names []):=by
 unfold closureFor;have e:=gG (env:=env) scope.names [] h;simp only [bind_pure];exact e
theorem cL {cells:List (Str×Addr)} {y:Str} {c:Addr}:∀ {names:List (Str×HZ)} {acc:List (Str×Addr)},(y,c)∈aQ cells names acc->(y,c)∈acc∨(cells.lookup y=some c/\(y,FZ)∈names)
 | [],acc,h => .inl h
 | (n,k)::r,acc,h=>by
  unfold aQ at h
  by_cases hk:(k==FZ)=true
  ·rw [if_pos hk] at h;have B:k = .free:=beq_iff_eq.mp hk;subst B
   cases F:cells.lookup n with
   | none =>
     rw [F] at h
     rcases cL h with z | ⟨j,q⟩
     ·exact .inl z
     ·exact .inr ⟨j,FJ _ q⟩
   | some c' =>
     rw [F] at h
     rcases cL h with z | ⟨j,q⟩
     ·rcases Fx.mp z with e | z
      ·cases e
       exact .inr ⟨F,Gv⟩
      ·exact .inl z
     ·exact .inr ⟨j,FJ _ q⟩
  ·rw [if_neg hk] at h
   rcases cL h with z | ⟨j,q⟩
   ·exact .inl z
   ·exact .inr ⟨j,FJ _ q⟩
theorem cM {cells:List (Str×Addr)} {y:Str} {c:Addr} (j:cells.lookup y=some c):∀ {names:List (Str×HZ)} {acc:List (Str×Addr)},((y,c)∈acc∨(y,FZ)∈names)->(y,c)∈aQ cells names acc
 | [],acc,h=>by
  rcases h with h | h
  ·exact h
  ·simp at h
 | (n,k)::r,acc,h=>by
  unfold aQ
  by_cases hk:(k==FZ)=true
  ·rw [if_pos hk];have q:k = .free:=beq_iff_eq.mp hk;subst q
   cases hl:cells.lookup n with
   | none =>
     refine cM j ?_
     rcases h with h | h
     ·exact .inl h
     ·rcases Fx.mp h with e | h
      ·cases e;rw [hl] at j;cases j
      ·exact .inr h
   | some c' =>
     refine cM j ?_
     rcases h with h | h
     ·exact .inl (FJ _ h)
     ·rcases Fx.mp h with e | h
      ·cases e;rw [hl] at j;cases j;exact .inl Gv
      ·exact .inr h
  ·rw [if_neg hk];refine cM j ?_
   rcases h with h | h
   ·exact .inl h
   ·rcases Fx.mp h with e | h
    ·cases e;exact absurd rfl hk
    ·exact .inr h
theorem cH:∀ (names:List (Str×HZ)) (n:Nat) (acc acc':List (Str×Addr)),Hs n names (acc++acc')=Hs n names acc++acc'
 | [],_,_,_=>rfl
 | (x,k)::r,n,acc,acc'=>by
  unfold Hs
  by_cases j:(k==Ho)=true
  ·rw [if_pos j,if_pos j];exact cH r (n+1) ((x,n)::acc) acc'
  ·rw [if_neg j,if_neg j];exact cH r n acc acc'
theorem cI:∀ {names:List (Str×HZ)} {n:Nat} {acc:List (Str×Addr)} {y:Str} {c:Addr},(y,c)∈Hs n names acc->(y,c)∈acc∨(n<=c/\(y,Ho)∈names)
 | [],_,_,_,_,h => .inl h
 | (x,k)::r,n,acc,y,c,h=>by
  unfold Hs at h
  by_cases hk:(k==Ho)=true
  ·rw [if_pos hk] at h;have j:k = .cell:=beq_iff_eq.mp hk;subst j
   rcases cI h with z | ⟨q,B⟩
   ·rcases Fx.mp z with e | z
    ·cases e;exact .inr ⟨Fy _,Gv⟩
    ·exact .inl z
   ·exact .inr ⟨Nat.le_of_succ_le q,FJ _ B⟩
  ·rw [if_neg hk] at h
   rcases cI h with z | ⟨q,B⟩
   ·exact .inl z
   ·exact .inr ⟨q,FJ _ B⟩
structure aH (sc osc:Scope) (oN N':List Str) (fr:List (Option Nat)):Prop where
 kind:sc.kind = .function
 nd:(sc.names.map (·.1)).Nodup
 ndN:N'.Nodup
 free:∀ x∈sc.names,x.2 = .free->osc.names.lookup x.1=some .cell∨osc.names.lookup x.1=some .free
 len:fr.length=N'.length
 fr:∀ (i j:Nat) (x:Str),N'[i]? = some x->fr[i]? = some (some j)->oN[j]? = some x/\(x,FZ)∈sc.names
noncomputable def inh (fr:List (Option Nat)) (σ:St):St:=fr.map fun o=>o.bind fun j=>(σ[j]?).join
noncomputable def aX (X:Cx) (sc:Scope) (L:Addr):Env :=
 { scope:=relabel sc X.env,locals:=L,globals:=X.env.globals,cells:=Hs (L+1) sc.names (aQ X.env.cells sc.names []),qual:=X.env.qual,func:=none,code:=X.env.code,frame:=X.env.frame,builtins:=X.env.builtins }
noncomputable def al (X:Cx) (sc:Scope) (N':List Str) (s:h8) (H:Hp) (fp:List Addr):Cx :=
 { X with N:=N',s₀ := s,H₀ := H,env:=aX X sc s.heap.objs.size,outer:=X.stack,stack:=X.stack,ex:=fp,fn:=fun x=>sc.names.lookup x==some .cell,pn := [],xe:=fun _ _=>False }
theorem aS:∀ {l:List (Str×HZ)} {x:Str} {k:HZ},(l.map (·.1)).Nodup->(x,k)∈l->l.lookup x=some k
 | (y,k')::r,x,k,nd,h=>by
  have nd':(y::r.map (·.1)).Nodup:=nd;obtain ⟨q,z⟩:=Hw.mp nd';rw [HC]
  rcases Fx.mp h with e | hm
  ·cases e;simp
  ·have j:(x==y)=false:=by
    refine beq_eq_false_iff_ne.mpr fun e => ?_;subst e;exact q (FI.mpr ⟨(x,k),hm,rfl⟩)
   rw [j];exact aS z hm
theorem cc {env:Env}:∀ {names:List (Str×HZ)} {x:Str},
 (names.map fun (n,k)=>if (k==FZ&&env.scope.kind == .function&&env.kindOf n==some .cell) then (n,Ho) else (n,k)).lookup x =
   (names.lookup x).map fun k=>if (k==FZ&&env.scope.kind == .function&&env.kindOf x==some .cell) then Ho else k
 | [],_=>rfl
 | (n,k)::r,x=>by
  have ih:=cc (env:=env) (names:=r) (x:=x);show List.lookup x ((if (k==FZ&&env.scope.kind == .function&&env.kindOf n==some .cell)=true then (n,Ho) else (n,k))::_)=_
  rw [HC (a:=x) (b:=k)]
  by_cases hx:x=n
  ·subst hx;simp only [beq_self_eq_true];show _=some (if (k==FZ&&env.scope.kind == .function&&env.kindOf x==some .cell)=true then Ho else k)
   by_cases j:(k==FZ&&env.scope.kind == .function&&env.kindOf x==some .cell)=true
   ·rw [if_pos j,if_pos j,HC];simp only [beq_self_eq_true]
   ·rw [if_neg j,if_neg j,HC];simp only [beq_self_eq_true]
  ·have q:(x==n)=false:=beq_eq_false_iff_ne.mpr hx;rw [q]
   by_cases j:(k==FZ&&env.scope.kind == .function&&env.kindOf n==some .cell)=true
   ·rw [if_pos j,HC,q];exact ih
   ·rw [if_neg j,HC,q];exact ih
section
variable {pins:List (Addr×Obj)} {σ:St} {H:Hp} {s:h8} {sc:Scope} {N':List Str} {fr:List (Option Nat)} {fp:List Addr}
theorem dD (I:Inv X pins σ H s) (B:aH sc X.env.scope X.N N' fr):∀ x∈sc.names,x.2 = .free->(X.env.cells.lookup x.1).isSome=true:=fun x hx e=>by
 obtain ⟨c,j⟩:=I.ok.has x.1 (B.free x hx e);rw [j];rfl
theorem kB (I:Inv X pins σ H s) (f2:∀ b∈fp,bo X pins H b) (Ef:∀ b∈fp,b < s.heap.objs.size) (B:aH sc X.env.scope X.N N' fr) :
 Inv (al X sc N' s H fp) [] (inh fr σ) H { s with heap:=Mg (s.heap.push { cls := .type "dict",data := .dict #[] }) sc.names }:=by
 have G:∀ b o,s.heap.get? b=some o->(Mg (s.heap.push { cls := .type "dict",data := .dict #[] }) sc.names).get? b=some o:=fun b o e=>JW _ _ b o (h7 _ e);have ok:=cellsFrom_ok sc.names (s.heap.push { cls := .type "dict",data := .dict #[] }) (s.heap.objs.size+1) [] ⟨fun _ _ hm=>(nomatch hm),Na⟩ (by rw [Gx];exact Fy _)
 rw [Gx] at ok;have capp:Hs (s.heap.objs.size+1) sc.names (aQ X.env.cells sc.names [])=Hs (s.heap.objs.size+1) sc.names []++aQ X.env.cells sc.names []:=cH sc.names _ [] _;have cof:∀ x c,(aX X sc s.heap.objs.size).cells.lookup x=some c->((x,c)∈Hs (s.heap.objs.size+1) sc.names []/\s.heap.objs.size < c)∨(X.env.cells.lookup x=some c/\(x,FZ)∈sc.names):=fun x c e=>by
  have m:=GR e;have m':(x,c)∈Hs (s.heap.objs.size+1) sc.names (aQ X.env.cells sc.names []):=m;rw [capp] at m'
  rcases FC.mp m' with z | z
  ·exact .inl ⟨z,(ok.empty x c z).2⟩
  ·rcases cL z with q | q
   ·simp at q
   ·exact .inr q
 have cOld:∀ x c,X.env.cells.lookup x=some c->c < s.heap.objs.size:=fun x c e=>by
  obtain ⟨v,q⟩:=I.cell x c e;exact q.lt
 have kindF:∀ x,(x,FZ)∈sc.names->(aX X sc s.heap.objs.size).kindOf x=some .cell∨(aX X sc s.heap.objs.size).kindOf x=some .free:=fun x hx=>by
  have e1:sc.names.lookup x=some .free:=aS B.nd hx;have O:(aX X sc s.heap.objs.size).kindOf x=_:=cc (env:=X.env) (names:=sc.names) (x:=x);rw [e1] at O;rw [O]
  by_cases J:(FZ==FZ&&X.env.scope.kind == .function&&X.env.kindOf x==some .cell)=true
  ·exact .inl (by simp only [J4,if_pos J])
  ·exact .inr (by simp only [J4,if_neg J])
 have cellF:∀ x c,(x,FZ)∈sc.names->X.env.cells.lookup x=some c->(aX X sc s.heap.objs.size).cells.lookup x=some c:=fun x c hx J=>by
  have m:=cM (acc := []) J (.inr hx);have m2:(x,c)∈(aX X sc s.heap.objs.size).cells:=by
   show (x,c)∈Hs (s.heap.objs.size+1) sc.names (aQ X.env.cells sc.names []);rw [capp];exact FE _ m
  cases F:(aX X sc s.heap.objs.size).cells.lookup x with
  | none =>
    exfalso
    have:∀ {l:List (Str×Addr)},(x,c)∈l->l.lookup x=none->False:=by
     intro l
     induction l with
     | nil=>intro h;simp at h
     | cons a r ih =>
       intro h e;obtain ⟨y,d⟩:=a;rw [HC] at e
       rcases Fx.mp h with z | z
       ·cases z;simp at e
       ·by_cases hxy:(x==y)=true
        ·rw [hxy] at e;cases e
        ·simp only [JG] at hxy;rw [hxy] at e;exact ih z e
    exact this m2 F
  | some c' =>
    rcases cof x c' F with ⟨z,_⟩ | ⟨z,_⟩
    ·rcases cI z with q | ⟨_,q⟩
     ·simp at q
     ·have a1:=aS B.nd hx;have a2:=aS B.nd q;rw [a1] at a2;cases a2
    ·rw [J] at z;rw [z]
 have kindC:∀ x,(aX X sc s.heap.objs.size).kindOf x=some .cell->(x,Ho)∈sc.names∨(x,FZ)∈sc.names:=fun x e=>by
  have O:(aX X sc s.heap.objs.size).kindOf x=_:=cc (env:=X.env) (names:=sc.names) (x:=x);rw [O] at e
  cases F:sc.names.lookup x with
  | none=>rw [F] at e;cases e
  | some k =>
    rw [F] at e;have m:=GR F
    cases k with
    | cell=>exact .inl m
    | free=>exact .inr m
    | «local» => simp at e
    | globalImplicit=>simp at e
    | globalExplicit=>simp at e
 have kindFr:∀ x,(aX X sc s.heap.objs.size).kindOf x=some .free->(x,FZ)∈sc.names:=fun x e=>by
  have O:(aX X sc s.heap.objs.size).kindOf x=_:=cc (env:=X.env) (names:=sc.names) (x:=x);rw [O] at e
  cases F:sc.names.lookup x with
  | none=>rw [F] at e;cases e
  | some k =>
    rw [F] at e;have m:=GR F
    cases k with
    | free=>exact m
    | cell=>simp at e
    | «local» => simp at e
    | globalImplicit=>simp at e
    | globalExplicit=>simp at e
 refine ⟨⟨I.ok.mod,B.kind,I.ok.glob,I.ok.blt,Fy _,fun y z c h1 h2 => ?_,fun y hy => ?_,fun y c hf h => ?_,I.ok.hd,I.ok.frames, .inl rfl,fun b U=>⟨?_,fun x c e => ?_⟩,fun b o e=>I.bs b o e, ?_,fun b o e U => ?_,fun b U => ?_,I.stack,I.stkFree⟩,
  rfl,I.bare,Un.kept G,⟨_,(Heap.Ns.new s.heap (.type "dict")).keeps (JW _ _),fun i x v h1 h2 h3 => ?_⟩,fun y c h => ?_,I.hok.fresh (Fy _),fun y c h => ?_,fun p hp=>absurd (show p∈([]:List (Addr×Obj)) from hp) (by simp),I.hok.kept G, ?_⟩
 ·rcases cof y c h1 with ⟨a1,a2⟩ | ⟨a1,a2⟩
  ·rcases cof z c h2 with ⟨Z,b2⟩ | ⟨Z,b2⟩
   ·exact name_of_addr ok.apart a1 Z
   ·exact absurd (cOld z c Z) (Ov.mpr (II a2))
  ·rcases cof z c h2 with ⟨Z,b2⟩ | ⟨Z,b2⟩
   ·exact absurd (cOld y c a1) (Ov.mpr (II b2))
   ·exact I.ok.inj y z c a1 Z
 ·have Ei:(y,Ho)∈sc.names∨(y,FZ)∈sc.names:=by
   rcases hy with hy | hy
   ·exact kindC y hy
   ·exact .inr (kindFr y hy)
  rcases Ei with q | q
  ·exact Hm.mp (Jn sc.names _ _ (.inl (aS B.nd q)))
  ·obtain ⟨c,J⟩:=Hm.mp (dD I B _ q rfl);exact ⟨c,cellF y c q J⟩
 ·have Ej:(sc.names.lookup y==some .cell)=true:=hf;have Eg:sc.names.lookup y=some .cell:=by simpa using Ej
  rcases cof y c h with ⟨_,a2⟩ | ⟨_,a2⟩
  ·exact II a2
  ·rw [aS B.nd a2] at Eg;cases Eg
 ·exact G0 (Ef b U)
 ·rcases cof x c e with ⟨_,a2⟩ | ⟨a1,_⟩
  ·exact Ih (Nat.lt_trans (Ef b U) a2)
  ·exact (f2 b U).2.2.2.2.1 x c a1
 ·exact G8 I.ok.bsz I.sz
 ·obtain ⟨f0,f1,f3,f4,f5,f6⟩:=f2 b U
  rcases f4 with z | z
  ·exact I.ok.noex b o e z
  ·exact absurd (FY (FY (Fz e) I.ok.bsz) z) (Gy _)
 ·obtain ⟨f0,f1,f3,f4,f5,f6⟩:=f2 b U;exact fun z=>(Fx.mp (I.stkSub b z)).elim f1 f3
 ·have hi:∃ j,fr[i]? = some (some j) /\ σ[j]? = some (some v):=by
   unfold inh at h2;rw [FK] at h2
   cases e:fr[i]? with
   | none=>rw [e] at h2;cases h2
   | some o =>
     rw [e] at h2
     cases o with
     | none=>cases h2
     | some j =>
       refine ⟨j,rfl, ?_⟩;have L:some ((σ[j]?).join)=some (some v):=h2
       cases e' : σ[j]? with
       | none=>rw [e'] at L;cases L
       | some w=>rw [e'] at L;cases L;rfl
  obtain ⟨j,e1,O⟩:=hi;obtain ⟨n1,n2⟩:=B.fr i j x h1 e1;obtain ⟨m,hn,F⟩:=I.loc;have hv:Vis X.env.scope x := .inr (B.free (x, .free) n2 rfl);obtain ⟨u,ru,lk⟩:=F j x v n1 O hv;refine ⟨u,ru, .inr ⟨kindF x n2, ?_⟩⟩
  rcases lk with ⟨k1,_⟩ | ⟨_,c,J,Y⟩
  ·have Eh:X.env.scope.names.lookup x=some .local:=k1
   rcases B.free (x, .free) n2 rfl with z | z
   ·rw [Eh] at z;cases z
   ·rw [Eh] at z;cases z
  ·exact ⟨c,cellF x c n2 J,Y.keeps G⟩
 ·rcases cof y c h with ⟨a1,a2⟩ | ⟨a1,a2⟩
  ·exact ⟨_,(ok.empty y c a1).1⟩
  ·obtain ⟨v,q⟩:=I.cell y c a1;exact ⟨v,q.keeps G⟩
 ·rcases cof y c h with ⟨a1,a2⟩ | ⟨a1,a2⟩
  ·exact I.hok.fresh (II a2)
  ·exact I.freeC y c a1
 ·show (inh fr σ).length=N'.length;unfold inh;rw [gV];exact B.len
theorem fD {σ':St} {H':Hp} {s':h8} {h':Heap} (I:Inv X pins σ H s) (f2:∀ b∈fp,bo X pins H b) (J:Inv (al X sc N' s H fp) [] σ' H' s') (hs:GZ s.heap.objs.size s'.heap h') :
 Inv X pins σ H' { s' with heap:=h' }:=by
 have u:Un (frs X.stack) fp H H' s.heap s'.heap:=J.base;have ne:∀ b o,s.heap.get? b=some o->b≠s.heap.objs.size:=fun b o e=>G0 (Fz e);refine I.call' (s' := { s' with heap:=h' }) (ch:=fp) J.os ⟨fun b o e n j hx => ?_,fun b o e n j hx => ?_,u.free,fun b o e hx => ?_,u.tups,u.frzs,u.tbls⟩ (fun b v e => ?_) J.bare fun b j => ?_
 ·exact (hs.2 b (ne b o e)).trans (u.keep b o e n j hx)
 ·obtain ⟨sl,q⟩:=u.slot b o e n j hx;exact ⟨sl,(hs.2 b (ne b o e)).trans q⟩
 ·obtain ⟨o',q⟩:=u.there b o e hx;exact ⟨o',(hs.2 b (ne b o e)).trans q⟩
 ·refine (J.hok b v e).stay (fun c w F q=>(hs.2 c ?_).trans q) (fun _ q=>q) fun _ _ q=>q;have fr:H' s.heap.objs.size=none:=J.free
  rcases F with z | z
  ·rw [z];intro B;rw [B,fr] at e;cases e
  ·intro B;rw [B,fr] at z;cases z
 ·obtain ⟨f0,f1,O,f4,G,L⟩:=f2 b j;exact ⟨f4,f1,G,L⟩
theorem fu {Q:Env->h8->Prop} {E:e7->h8->Prop} {M:JP} {A:Gg}
 (h:Q { scope:=sc,locals:=s.heap.objs.size,globals:=X.env.globals,cells:=Hs (s.heap.objs.size+1) sc.names (aQ X.env.cells sc.names []),qual:=X.env.qual,func:=none,code:=X.env.code,frame:=X.env.frame,builtins:=X.env.builtins }
   { s with heap:=Mg (s.heap.push { cls := .type "dict",data := .dict #[] }) sc.names }) :
 FG M A (Ko sc X.env.globals (aQ X.env.cells sc.names []) [] X.env.qual none .none (some X.env)) Q E s:=by
 simp only [Ko,MR,if_true];refine e6 (wpAny_alloc ?_);refine e6 (wpAny_layCells _ (fun name kind cells=>by cases hkc:kind==Ho <;> simp [hkc]) _ _ _ _ ?_)
 rw [show ({ s with heap:=s.heap.push { cls := .type "dict",data := .dict #[] } }:h8).heap.objs.size=s.heap.objs.size+1 from Gx ..]
 exact e6 (hQ (hQ h))
theorem mL (hc:X.calm=true) {elt target iter:Expr} {ifs:List Expr} {rest:List FO} {pos:Pos} {E:e7->h8->Prop}
 (hx:∀ e s,X.xe e s->False) (B:aH sc X.env.scope X.N N' fr) (ha:∀ g',rest[0]? = some g'->g'.is_async=0) {wi:TI} (hi:PI X target iter wi) {g:TG} {tb:Addr->TC}
 (hg:∀ s H fp,PG (al X sc N' s H fp) target g)
 (j:∀ s H fp p,PB (al X sc N' s H fp) (fun k=>aG ifs (al X sc N' s H fp).env >>= fun ok=>if ok=true then aW elt (⟨target,iter,ifs,0⟩::rest) sc pos 0 (.ref p) (al X sc N' s H fp).env k else k) (tb p))
 {Nn:Addr->St->Hp->Prop} {RR:e7->Addr->Nx->h8->Prop} (I:Inv X pins σ H s)
 (h:wi σ H fun J H1 => ∀ p,H1 p=none->bc J g (tb p) (Nn p) (inh fr σ) (upd H1 p (.lst [])))
 (hR:∀ p fp s3 L s' σ' H' f,Inv X pins σ L s3->(∀ b∈fp,bo X pins L b)->Inv (al X sc N' s3 L fp) [] σ' H' s'->Nn p σ' H'->RR (.ref p) s3.heap.objs.size (.ok f) s') :
 FG (model X.prog X.w) X.A (eval iter X.env) (fun x s₁ => FG (model X.prog X.w) X.A (KJ x) (fun it s₂ => FG (model X.prog X.w) X.A (newList []) (fun acc s₃ =>
  FG (model X.prog X.w) X.A (Ko sc X.env.globals (aQ X.env.cells sc.names []) [] X.env.qual none .none (some X.env)) (fun cenv s₄ =>
   Iy (model X.prog X.w) X.A (.compStart (.ListComp elt (⟨target,iter,ifs,0⟩::rest) sc pos) 0 it acc { cenv with scope:=relabel sc X.env }) (RR acc cenv.locals) s₄) E s₃) E s₂) E s₁) E s:=by
 refine nox hx (thn (hi pins s σ H _ I h) fun v s1 h1=>nox hx (thn h1 fun itv s2 h2 => ?_));obtain ⟨it,fp,tn,J,H2,e,Z,T,q,f2,hw⟩:=h2;subst e;have hf:H2 s2.heap.objs.size=none:=Z.hok.fresh (Fy _);refine KO ?_;have I3:Inv X pins σ (upd H2 s2.heap.objs.size (.lst [])) { s2 with heap:=s2.heap.push { cls := .type "list",dict:=none,data := .seq ([]:List e7).toArray } } :=
  Z.laid (t':=s2.toks) (fun b u e=>h7 _ e) (Fy _) ⟨GW _,[],0, .nil,FF _ rfl⟩
 have fneq:∀ b∈fp,b≠s2.heap.objs.size:=fun b j z=>by
  obtain ⟨o,e,_⟩:=T.obj _ _ q b j;exact absurd (Fz e) (by rw [z];exact Gy _)
 have O:∀ b∈fp,bo X pins (upd H2 s2.heap.objs.size (.lst [])) b:=fun b j=>⟨by rw [ai (fneq b j)];exact (f2 b j).1,(f2 b j).2⟩
 have U:∀ b∈fp,b < (s2.heap.push { cls := .type "list",dict:=none,data := .seq ([]:List e7).toArray }).objs.size:=fun b j=>by
  obtain ⟨o,e,_⟩:=T.obj _ _ q b j;rw [Gx];exact KG (Fz e)
 have Y:tn 0 (s2.heap.push { cls := .type "list",dict:=none,data := .seq ([]:List e7).toArray }):=T.keep _ _ _ q fun b _ o e=>h7 _ e;refine fu ?_;have G:=kB (N':=N') I3 O U B;have F:=T.keep _ (h':=Mg (({ s2 with heap:=s2.heap.push { cls := .type "list",dict:=none,data := .seq ([]:List e7).toArray } }:h8).heap.push { cls := .type "dict",data := .dict #[] }) sc.names) _ Y fun b _ o e=>JW _ _ b o (h7 _ e)
 have f4:∀ b∈fp,bo (al X sc N' { s2 with heap:=s2.heap.push { cls := .type "list",dict:=none,data := .seq ([]:List e7).toArray } } (upd H2 s2.heap.objs.size (.lst [])) fp) [] (upd H2 s2.heap.objs.size (.lst [])) b:=fun b j =>
  ⟨(O b j).1,(G.ok.exf b j).1,G.ok.exfs b j, .inl j,(G.ok.exf b j).2,fun p hp=>absurd (show p∈([]:List (Addr×Obj)) from hp) (by simp)⟩
 have loop:=kz (X:=al X sc N' { s2 with heap:=s2.heap.push { cls := .type "list",dict:=none,data := .seq ([]:List e7).toArray } } (upd H2 s2.heap.objs.size (.lst [])) fp) (fun _ _ z=>z) hc
  (elt:=elt) (pos:=pos) (scope:=sc) (gens:=⟨target,iter,ifs,0⟩::rest) (d := 0) (acc := .ref s2.heap.objs.size) rfl (fun g' e=>ha g' (by simpa using e)) (hg _ _ _) (j _ _ _ _) G T F f4 (hw _ hf)
 refine Ii (iJ (R:=fun r s'=>match r with | .ok _ => ∃ σ' H',Inv (al X sc N' { s2 with heap:=s2.heap.push { cls := .type "list",dict:=none,data := .seq ([]:List e7).toArray } } (upd H2 s2.heap.objs.size (.lst [])) fp) [] σ' H' s'/\Nn s2.heap.objs.size σ' H' | .error _=>False)
  (gens:=⟨target,iter,ifs,0⟩::rest) (d := 0) rfl loop (T.self _ 0 _ _ _ F loop)) fun r s5 hr => ?_
 cases r with
 | error e=>exact hr.elim
 | ok f =>
   obtain ⟨σ5,H5,I5,n5⟩:=hr;exact hR _ fp _ _ s5 σ5 H5 f I3 O I5 n5
noncomputable def rf (wi:TI) (g:TG) (tb:Addr->TC) (fr:List (Option Nat)):TE:=fun σ H Q=>wi σ H fun J H1 => ∀ p,H1 p=none->bc J g (tb p) (fun _ H2=>Q (.ref p) H2) (inh fr σ) (upd H1 p (.lst []))
theorem fE (B:aH sc X.env.scope X.N N' fr):∀ x∈sc.names,x.2 = .local->sc.names.lookup x.1=some .local:=fun x hx e=>by
 obtain ⟨n,k⟩:=x;have e':k = .local:=e;subst e';exact aS B.nd hx
theorem gH (z:X.calm=true) {elt target iter:Expr} {ifs:List Expr} {rest:List FO} {pos:Pos}
 (hx:∀ e s,X.xe e s->False) (B:aH sc X.env.scope X.N N' fr) (F:∀ g',rest[0]? = some g'->g'.is_async=0) {wi:TI} (hi:PI X target iter wi) {g:TG} {tb:Addr->TC}
 (G:∀ s H fp,PG (al X sc N' s H fp) target g)
 (L:∀ s H fp p,PB (al X sc N' s H fp) (fun k=>aG ifs (al X sc N' s H fp).env >>= fun ok=>if ok=true then aW elt (⟨target,iter,ifs,0⟩::rest) sc pos 0 (.ref p) (al X sc N' s H fp).env k else k) (tb p))
 (hs:∀ x,GI iter X.env x=pure x) :
 PE X (.ListComp elt (⟨target,iter,ifs,0⟩::rest) sc pos) (rf wi g tb fr):=by
 intro pins s σ H Q I h;rw [eval_ListComp];refine IZ (use:=none) rfl hs (eP (dD I B)) B.kind (fE B) (mL (Nn:=fun p _ H2=>Q (.ref p) H2) (RR:=fun acc C=>compPost (model X.prog X.w) X.A X.xe none (EP X pins σ Q) acc C) z hx B F hi G L I h ?_);intro p fp s3 Z s' σ' H' f O U J q;obtain ⟨m,Y,_⟩:=J.loc;exact ⟨m,Y,fun h' j=>⟨.ref p,H',fD O U J j,rfl,q⟩⟩
theorem iK (hc:X.calm=true) {elt target iter:Expr} {ifs:List Expr} {rest:List FO} {pos pos' spos:Pos} {x:Str} {i:Nat}
 (hx:∀ e s,X.xe e s->False) (B:aH sc X.env.scope X.N N' fr) (ha:∀ g',rest[0]? = some g'->g'.is_async=0) {wi:TI} (hi:PI X target iter wi) {g:TG} {tb:Addr->TC}
 (hg:∀ s H fp,PG (al X sc N' s H fp) target g)
 (F:∀ s H fp p,PB (al X sc N' s H fp) (fun k=>aG ifs (al X sc N' s H fp).env >>= fun ok=>if ok=true then aW elt (⟨target,iter,ifs,0⟩::rest) sc pos 0 (.ref p) (al X sc N' s H fp).env k else k) (tb p))
 (hs:∀ x,GI iter X.env x=pure x) (G:PG X (.Name x pos') (iy i))
 (L:Jd (.ListComp elt (⟨target,iter,ifs,0⟩::rest) sc pos) (some (.Name x pos')) spos.line X.env=pure true) :
 PS X (.Assign [.Name x pos'] (.ListComp elt (⟨target,iter,ifs,0⟩::rest) sc pos) spos) (qQ (rf wi g tb fr) (iy i)):=by
 intro pins s σ H D I h;rw [exec_Assign_Name_used _ _ _ _ L];refine e6 (GX (e6 ?_));show FG _ X.A (do let _ <- comprehension (.ListComp elt (⟨target,iter,ifs,0⟩::rest) sc pos) sc X.env _ (newList []) false (eval iter X.env) (some (assign (.Name x pos') X.env))) _ _ s
 refine e6 (H8 (IZ (use:=some (assign (.Name x pos') X.env)) (Q:=fun _ s'=>SP X pins D .next s') rfl hs (eP (dD I B)) B.kind (fE B)
  (mL (Nn:=fun p _ H2=>D.nx (σ.set i (some (.ref p))) H2) (RR:=fun acc C=>compPost (model X.prog X.w) X.A X.xe (some (assign (.Name x pos') X.env)) (fun _ s'=>SP X pins D .next s') acc C) hc hx B ha hi hg F I h ?_)) (fun _ s' hq=>hQ (hQ hq)) fun _ _ e=>e)
 intro p fp s3 H3 s' σ' H' f j f3 J q;obtain ⟨m,⟨o,es,ep,ho,hd,hk,hm⟩,_⟩:=J.loc;have I4:Inv X pins σ H' s':=fD (h':=s'.heap) j f3 J ⟨rfl,fun _ _=>rfl⟩;have hL:(al X sc N' s3 H3 fp).env.locals=s3.heap.objs.size:=rfl;rw [hL] at ho;have O:H' s3.heap.objs.size=none:=J.free;have neL:s3.heap.objs.size≠X.env.locals:=Ih j.lt;have nfs:s3.heap.objs.size∉X.fs:=j.nofs (Fy _);have I5:Inv X (pins++[(s3.heap.objs.size,o)]) σ H' s':=I4.pins_of fun pr U=>by
  rcases FC.mp U with z | z
  ·exact I4.pin pr (FE _ z)
  ·have e:pr=(s3.heap.objs.size,o):=by simpa using z
   subst e;exact ⟨ho,O,neL,nfs,fun v z=>by rw [hd] at z;cases z⟩
 show FG _ X.A (assign (.Name x pos') X.env (.ref p)) _ _ _;refine thn (G _ s' σ H' (.ref p) (.ref p) D.nx I5 rfl q) fun _ s6 ⟨σ6,H6,I6,q6⟩ => ?_;obtain ⟨Y,Z,_⟩:=I6.pin (s3.heap.objs.size,o) (FE _ (FE _ (by simp)))
 refine ⟨m,⟨o,es,ep,Y,hd,hk,hm⟩,fun h' Ef=>⟨σ6,H6, ?_,q6⟩⟩;refine (I6.unpinned).turned (t':=s6.toks) (it:=s3.heap.objs.size) (fun b o F e=>(Ef.2 b F).trans e) Z neL (.inr j.sz) (fun y c e z => ?_) fun pr U z => ?_
 ·obtain ⟨v,q⟩:=j.cell y c e;exact absurd q.lt (by rw [z];exact Gy _)
 ·exact absurd (Fz (j.pin pr U).1) (by rw [z];exact Gy _)
end
end
end
section
noncomputable def yB (kx vx:Expr) (acc:e7) (env:Env) (k:Sem Fin):Sem Fin :=
 (eval kx env >>= fun kv=>holding [kv] (eval vx env) >>= fun vv=>match acc with
   | .ref d=>Iw { line:=kx.pos.line,col:=kx.pos.col,endLine:=vx.pos.endLine,endCol:=vx.pos.endCol } >>= fun _=>holding [kv,vv] (dictSet d kv vv)
   | _=>unsupported "internal:dictcomp") >>= fun _=>k
noncomputable def aZ (kx vx:Expr) (gens:List FO) (scope:Scope) (pos:Pos) (d:Nat) (acc:e7) (env:Env) (k:Sem Fin):Sem Fin :=
 match gens[d+1]? with
 | some g'=>eval g'.iter env >>= fun x=>Iw g'.iter.pos >>= fun _=>GI g'.iter env x >>= fun x=>holding [x] (KJ x) >>= fun it' =>
    runOwn (.compStart (.DictComp kx vx gens scope pos) (d+1) it' acc env) env >>= fun _=>k
 | none=>yB kx vx acc env k
theorem lD (kx vx target iter:Expr) (ifs:List Expr) (gens:List FO) (scope:Scope) (pos:Pos) (d:Nat) (it acc:e7) (env:Env)
 (hd:gens[d]? = some ⟨target,iter,ifs,0⟩) (j:∀ g',gens[d+1]? = some g'->g'.is_async=0) :
 LL (.DictComp kx vx gens scope pos) d it acc env=(Iw iter.pos >>= fun _=>J8 it >>= fun r=>match r with
  | none=>pure (.done .next)
  | some v=>J2 target it v >>= fun _=>assign target env v >>= fun _=>aG ifs env >>= fun ok =>
    (if ok=true then aZ kx vx gens scope pos d acc env (again (.compLoop (.DictComp kx vx gens scope pos) d it acc env)) else again (.compLoop (.DictComp kx vx gens scope pos) d it acc env))):=by
 unfold LL;simp only [hd];unfold aZ aG
 cases hn:gens[d+1]? with
 | none=>rfl
 | some g' =>
   obtain ⟨t',i',f',a'⟩:=g';have e:a'=0:=j _ hn;subst e;rfl
section
variable {X:Cx}
noncomputable def tQ (p:Addr) (tk tv:TE):TC:=fun σ H N=>tk σ H fun y H1=>tv σ H1 fun v H2 => ∃ kvs k,H2 p=some (.dK kvs)/\y=kV k/\kvs.length < D0/\N σ (upd H2 p (.dK (bg kvs k v)))
theorem CZ {A:Gg} {E:e7->h8->Prop} {pins:List (Addr×Obj)} {σ:St} {H:Hp} {s:h8} {a:Addr} {kvs:List (Key×V)} {k:Key} {v:V} {u r:e7} {Q:Unit->h8->Prop} (I:Inv X pins σ H s) (e:H a=some (.dK kvs)) (l:kvs.length < D0) (ry:RelV (kV k) u) (rv:RelV v r) (h:∀ s',Inv X pins σ (upd H a (.dK (bg kvs k v))) s'->Q () s') :
 FG (model X.prog X.w) A (dictSet a u r) Q E s:=by
 obtain ⟨z,hd,vs,rel,dd⟩:=lL I.hok e;have j:vs.length<=D0:=by rw [<- rel.length];exact z
 have B:(bg kvs k v).length<=D0:=by have:=dM kvs k v;lia
 refine wpAny_dictSet_pairs (hsz:=j) (eO ry) dd fun h' dd' hs=>h _ ?_;have he:∃ q,h'.get? a=some q:=let ⟨q,_,_,F,_⟩:=dd'; ⟨q,F⟩;exact dR I (by rw [e];exact GQ) hs he (iG B hd (rel.put k rv) dd')
theorem wz (hx:∀ e s,X.xe e s->False) {kx vx:Expr} {gens:List FO} {scope:Scope} {pos:Pos} {d:Nat} {p:Addr} {tk tv:TE} (j:PE X kx tk) (q:PE X vx tv) (hd:gens[d+1]? = none):PB X (aZ kx vx gens scope pos d (.ref p) X.env) (tQ p tk tv):=by
 intro pins s σ H N k Q E I h hq;unfold aZ;rw [hd];unfold yB;refine e6 (e6 (nox hx (thn (j pins s σ H _ I h) fun u s1 ⟨y,H1,z,r1,B⟩ => ?_)));refine e6 (Gz (nox hx (thn (q pins s1 σ H1 _ z B) fun r s2 ⟨v,H2,F,r2,kvs,k',G,ey,l2,J⟩ => ?_)));subst ey;show FG _ _ (Iw _ >>= _) _ _ _;refine e6 (GX (Gz (CZ F G l2 r1 r2 fun s3 L => ?_)));exact hq s3 σ _ L J
theorem iL (hx:∀ e s,X.xe e s->False) (U:X.calm=true) {kx vx target iter:Expr} {ifs:List Expr} {gens:List FO} {scope:Scope} {pos:Pos} {d:Nat} {acc:e7}
 (hd:gens[d]? = some ⟨target,iter,ifs,0⟩) (ha:∀ g',gens[d+1]? = some g'->g'.is_async=0) {g:TG} (hg:PG X target g) {tb:TC}
 (j:PB X (fun k=>aG ifs X.env >>= fun ok=>if ok=true then aZ kx vx gens scope pos d acc X.env k else k) tb)
 {pins:List (Addr×Obj)} {s:h8} {σ:St} {H:Hp} {N:St->Hp->Prop} {it:Addr} {fp:List Addr} {tn:Nat->Heap->Prop} {J:It} (I:Inv X pins σ H s) (T:fv X.prog X.w X.K target J fp it tn)
 (t0:tn 0 s.heap) (f2:∀ b∈fp,bo X pins H b) (h:bc J g tb N σ H) :
 Iy (model X.prog X.w) X.A (.compLoop (.DictComp kx vx gens scope pos) d (.ref it) acc X.env) (fun r s'=>match r with | .ok _ => ∃ σ' H',Inv X pins σ' H' s'/\N σ' H' | .error _=>False) s:=by
 obtain ⟨W,⟨m0,w0⟩,turn⟩:=h;have stat:∀ {H':Hp},(∀ b∈fp,H' b=none) -> ∀ b∈fp,bo X pins H' b:=fun hn b j=>⟨hn b j,(f2 b j).2⟩;refine codeAny_loop rfl (fun n s' => ∃ i σ' H',Inv X pins σ' H' s'/\tn i s'.heap/\(∀ b∈fp,H' b=none)/\W i n σ' H') ?_ m0 ⟨0, σ,H,I,t0,fun b j=>(f2 b j).1,w0⟩;rintro n s3 ⟨i, σ3,F,Y,z,B,w3⟩;show FG _ _ ((LL (.DictComp kx vx gens scope pos) d (.ref it) acc X.env).onRaise (fun x=>do NB x X.env;theTreesLotGoes x)) _ _ s3
 refine wpAny_noted ?_;rw [lD kx vx target iter ifs gens scope pos d (.ref it) acc X.env hd ha];refine e6 (GX (e6 ?_));show FG (model X.prog X.w) X.A _ _ _ s3
 rcases turn i n σ3 F w3 with ⟨stop,qn⟩ | ⟨go,N',hN,step⟩
 ·refine thn (T.done X rfl rfl rfl U i pins s3 σ3 F _ Y (stat B) z stop) fun r s4 ⟨hr,I4⟩ => ?_;subst hr;exact hQ ⟨σ3,F,I4,qn⟩
 ·refine thn (T.item X rfl rfl rfl U i pins s3 σ3 F _ Y (stat B) z go) fun r s4 ⟨u,hr,h4⟩ => ?_;subst hr;refine e6 (thn h4 fun _ s5 ⟨x,Z,I5,r5,y5,q,G⟩ => ?_);have L:=I5.pinned (stat G) (T.obj _ _ q);refine e6 (nox hx (thn (hg _ s5 σ3 Z x u _ L r5 (step x Z y5)) fun _ s6 ⟨σ6,H6,I6,q6⟩ => ?_));refine j _ s6 σ6 H6 N' (again (.compLoop (.DictComp kx vx gens scope pos) d (.ref it) acc X.env)) _ _ I6 q6 fun s7 σ7 H7 O n7 => ?_;obtain ⟨m',hm,w7⟩:=hN σ7 H7 n7;refine hQ ⟨rfl,m',hm,i+1, σ7,H7,O.unpinned,T.keep _ _ _ q fun b j o e=>(O.pin (b,o) (FE _ (FE _ (bI j e)))).1,fun b j => ?_,w7⟩;obtain ⟨o,e,dd⟩:=T.obj _ _ q b j;exact (O.pin (b,o) (FE _ (FE _ (bI j e)))).2.1
theorem gI {kx vx target iter:Expr} {ifs:List Expr} {gens:List FO} {scope:Scope} {pos:Pos} {d:Nat} {it acc:e7} {env:Env} {prog:FR} {w:G7} {A:Gg} {R:Nx->h8->Prop} {s:h8}
 (hd:gens[d]? = some ⟨target,iter,ifs,0⟩)
 (h0:Iy (model prog w) A (.compLoop (.DictComp kx vx gens scope pos) d it acc env) R s)
 (h:FG (model prog w) A (KJ it) (fun it' s'=>Iy (model prog w) A (.compLoop (.DictComp kx vx gens scope pos) d it' acc env) R s')
   (notedBy (model prog w) A env fun x s'=>R (.error x) s') s) :
 Iy (model prog w) A (.compStart (.DictComp kx vx gens scope pos) d it acc env) R s:=by
 refine codeAny_of_tree ?_;show FG _ _ ((ND (.DictComp kx vx gens scope pos) d it acc env).onRaise (fun x=>do NB x env;Iw theWindowsPlace)) _ _ s
 refine wpAny_notedAt ?_;unfold ND;have j:(clausesOf (.DictComp kx vx gens scope pos))[d]? = some ⟨target,iter,ifs,0⟩:=hd;rw [j];show FG _ _ (ask >>= _) _ _ s;refine e6 (NF (wpAny_ite ?_))
 split
 ·first
   | exact e6 (hQ (hQ (Jh rfl h0)))
   | exact hQ (Jh rfl h0)
 ·first
   | exact e6 (H9 (e6 (GX (e6 (H8 h (fun it' s' h'=>hQ (Jh rfl h')) fun _ _ x=>x)))))
   | (refine e6 (H9 ?_);show FG _ _ (Iw iter.pos >>= _) _ _ s;exact e6 (GX (e6 (H8 h (fun it' s' h'=>hQ (Jh rfl h')) fun _ _ x=>x))))
theorem rj (hx:∀ e s,X.xe e s->False) (q:X.calm=true) {kx vx target iter:Expr} {ifs:List Expr} {gens:List FO} {scope:Scope} {pos:Pos} {d:Nat} {acc:e7}
 (hd:gens[d+1]? = some ⟨target,iter,ifs,0⟩) (z:∀ g',gens[d+1+1]? = some g'->g'.is_async=0) {wi:TI} (hi:PI X target iter wi) {g:TG} (B:PG X target g) {tb:TC}
 (F:PB X (fun k=>aG ifs X.env >>= fun ok=>if ok=true then aZ kx vx gens scope pos (d+1) acc X.env k else k) tb)
 (hs:∀ x,GI iter X.env x=pure x) :
 PB X (aZ kx vx gens scope pos d acc X.env) (fun σ H N=>wi σ H fun J H1=>bc J g tb N σ H1):=by
 intro pins s σ H N k Q E I h hk;unfold aZ;rw [hd];refine e6 (nox hx (thn (hi pins s σ H _ I h) fun v s1 h1 => ?_));refine e6 (GX (e6 (Ic (hs v) ?_)));refine e6 (Gz (nox hx (thn h1 fun itv s2 h2 => ?_)));obtain ⟨it,fp,tn,J,H2,e,G,T,j,f2,hw⟩:=h2;subst e;have loop:=iL (acc:=acc) hx q hd z B F G T j f2 hw;refine e6 (wpAny_runOwn (Ii (gI (R:=fun r s'=>match r with | .ok _ => ∃ σ' H',Inv X pins σ' H' s'/\N σ' H' | .error _=>False) hd loop (T.self _ 0 _ _ _ j loop)) fun r s3 hr => ?_))
 cases r with
 | error e=>exact hr.elim
 | ok f =>
   obtain ⟨σ3,L,O,U⟩:=hr;exact hk s3 σ3 L O U
end
section
variable {X:Cx} {pins:List (Addr×Obj)} {σ:St} {H:Hp} {s:h8} {sc:Scope} {N':List Str} {fr:List (Option Nat)} {fp:List Addr}
theorem jC {M:JP} {A:Gg} {Q:e7->h8->Prop} {E:e7->h8->Prop} {s:h8} (h:Q (.ref s.heap.objs.size) { s with heap:=s.heap.push { cls := .type "dict",data := .dict #[] } }):FG M A newDict Q E s:=by
 unfold newDict;exact e6 (wpAny_alloc (hQ h))
theorem tR (hc:X.calm=true) {kx vx target iter:Expr} {ifs:List Expr} {rest:List FO} {pos:Pos} {E:e7->h8->Prop}
 (hx:∀ e s,X.xe e s->False) (B:aH sc X.env.scope X.N N' fr) (ha:∀ g',rest[0]? = some g'->g'.is_async=0) {wi:TI} (hi:PI X target iter wi) {g:TG} {tb:Addr->TC}
 (hg:∀ s H fp,PG (al X sc N' s H fp) target g)
 (j:∀ s H fp p,PB (al X sc N' s H fp) (fun k=>aG ifs (al X sc N' s H fp).env >>= fun ok=>if ok=true then aZ kx vx (⟨target,iter,ifs,0⟩::rest) sc pos 0 (.ref p) (al X sc N' s H fp).env k else k) (tb p))
 {Nn:Addr->St->Hp->Prop} {RR:e7->Addr->Nx->h8->Prop} (I:Inv X pins σ H s)
 (h:wi σ H fun J H1 => ∀ p,H1 p=none->bc J g (tb p) (Nn p) (inh fr σ) (upd H1 p (.dK [])))
 (hR:∀ p fp s3 L s' σ' H' f,Inv X pins σ L s3->(∀ b∈fp,bo X pins L b)->Inv (al X sc N' s3 L fp) [] σ' H' s'->Nn p σ' H'->RR (.ref p) s3.heap.objs.size (.ok f) s') :
 FG (model X.prog X.w) X.A (eval iter X.env) (fun x s₁ => FG (model X.prog X.w) X.A (KJ x) (fun it s₂ => FG (model X.prog X.w) X.A newDict (fun acc s₃ =>
  FG (model X.prog X.w) X.A (Ko sc X.env.globals (aQ X.env.cells sc.names []) [] X.env.qual none .none (some X.env)) (fun cenv s₄ =>
   Iy (model X.prog X.w) X.A (.compStart (.DictComp kx vx (⟨target,iter,ifs,0⟩::rest) sc pos) 0 it acc { cenv with scope:=relabel sc X.env }) (RR acc cenv.locals) s₄) E s₃) E s₂) E s₁) E s:=by
 refine nox hx (thn (hi pins s σ H _ I h) fun v s1 h1=>nox hx (thn h1 fun itv s2 h2 => ?_));obtain ⟨it,fp,tn,J,H2,e,O,T,q,f2,hw⟩:=h2;subst e;have hf:H2 s2.heap.objs.size=none:=O.hok.fresh (Fy _);refine jC ?_;have I3:Inv X pins σ (upd H2 s2.heap.objs.size (.dK [])) { s2 with heap:=s2.heap.push { cls := .type "dict",data := .dict #[] } } :=
  O.laid (t':=s2.toks) (fun b u e=>h7 _ e) (Fy _) (mG s2.heap O.big)
 have fneq:∀ b∈fp,b≠s2.heap.objs.size:=fun b j z=>by
  obtain ⟨o,e,_⟩:=T.obj _ _ q b j;exact absurd (Fz e) (by rw [z];exact Gy _)
 have U:∀ b∈fp,bo X pins (upd H2 s2.heap.objs.size (.dK [])) b:=fun b j=>⟨by rw [ai (fneq b j)];exact (f2 b j).1,(f2 b j).2⟩
 have Y:∀ b∈fp,b < (s2.heap.push { cls := .type "dict",data := .dict #[] }).objs.size:=fun b j=>by
  obtain ⟨o,e,_⟩:=T.obj _ _ q b j;rw [Gx];exact KG (Fz e)
 have Z:tn 0 (s2.heap.push { cls := .type "dict",data := .dict #[] }):=T.keep _ _ _ q fun b _ o e=>h7 _ e;refine fu ?_;have G:=kB (N':=N') I3 U Y B;have F:=T.keep _ (h':=Mg (({ s2 with heap:=s2.heap.push { cls := .type "dict",data := .dict #[] } }:h8).heap.push { cls := .type "dict",data := .dict #[] }) sc.names) _ Z fun b _ o e=>JW _ _ b o (h7 _ e)
 have f4:∀ b∈fp,bo (al X sc N' { s2 with heap:=s2.heap.push { cls := .type "dict",data := .dict #[] } } (upd H2 s2.heap.objs.size (.dK [])) fp) [] (upd H2 s2.heap.objs.size (.dK [])) b:=fun b j =>
  ⟨(U b j).1,(G.ok.exf b j).1,G.ok.exfs b j, .inl j,(G.ok.exf b j).2,fun p hp=>absurd (show p∈([]:List (Addr×Obj)) from hp) (by simp)⟩
 have loop:=iL (X:=al X sc N' { s2 with heap:=s2.heap.push { cls := .type "dict",data := .dict #[] } } (upd H2 s2.heap.objs.size (.dK [])) fp) (fun _ _ z=>z) hc
  (kx:=kx) (vx:=vx) (pos:=pos) (scope:=sc) (gens:=⟨target,iter,ifs,0⟩::rest) (d := 0) (acc := .ref s2.heap.objs.size) rfl (fun g' e=>ha g' (by simpa using e)) (hg _ _ _) (j _ _ _ _) G T F f4 (hw _ hf)
 refine Ii (gI (R:=fun r s'=>match r with | .ok _ => ∃ σ' H',Inv (al X sc N' { s2 with heap:=s2.heap.push { cls := .type "dict",data := .dict #[] } } (upd H2 s2.heap.objs.size (.dK [])) fp) [] σ' H' s'/\Nn s2.heap.objs.size σ' H' | .error _=>False)
  (gens:=⟨target,iter,ifs,0⟩::rest) (d := 0) rfl loop (T.self _ 0 _ _ _ F loop)) fun r s5 hr => ?_
 cases r with
 | error e=>exact hr.elim
 | ok f =>
   obtain ⟨σ5,H5,I5,n5⟩:=hr;exact hR _ fp _ _ s5 σ5 H5 f I3 U I5 n5
noncomputable def tT (wi:TI) (g:TG) (tb:Addr->TC) (fr:List (Option Nat)):TE:=fun σ H Q=>wi σ H fun J H1 => ∀ p,H1 p=none->bc J g (tb p) (fun _ H2=>Q (.ref p) H2) (inh fr σ) (upd H1 p (.dK []))
theorem lF {env:Env} (k v:Expr) (gens:List FO) (scope:Scope) (pos:Pos):eval (.DictComp k v gens scope pos) env=comprehension (.DictComp k v gens scope pos) scope env (firstIterPos gens pos) (newDict) (firstAsync gens) (firstIter gens env):=by
 rw [eval]
theorem p9 (z:X.calm=true) {kx vx target iter:Expr} {ifs:List Expr} {rest:List FO} {pos:Pos}
 (hx:∀ e s,X.xe e s->False) (B:aH sc X.env.scope X.N N' fr) (F:∀ g',rest[0]? = some g'->g'.is_async=0) {wi:TI} (hi:PI X target iter wi) {g:TG} {tb:Addr->TC}
 (G:∀ s H fp,PG (al X sc N' s H fp) target g)
 (L:∀ s H fp p,PB (al X sc N' s H fp) (fun k=>aG ifs (al X sc N' s H fp).env >>= fun ok=>if ok=true then aZ kx vx (⟨target,iter,ifs,0⟩::rest) sc pos 0 (.ref p) (al X sc N' s H fp).env k else k) (tb p))
 (hs:∀ x,GI iter X.env x=pure x) :
 PE X (.DictComp kx vx (⟨target,iter,ifs,0⟩::rest) sc pos) (tT wi g tb fr):=by
 intro pins s σ H Q I h;rw [lF];refine IZ (use:=none) rfl hs (eP (dD I B)) B.kind (fE B) (tR (Nn:=fun p _ H2=>Q (.ref p) H2) (RR:=fun acc C=>compPost (model X.prog X.w) X.A X.xe none (EP X pins σ Q) acc C) z hx B F hi G L I h ?_);intro p fp s3 Z s' σ' H' f O U J q;obtain ⟨m,Y,_⟩:=J.loc;exact ⟨m,Y,fun h' j=>⟨.ref p,H',fD O U J j,rfl,q⟩⟩
end
end
end L2
namespace L2
namespace Zp
open PySem PySem.Spec PyProof.Rows
def At (t:Bool) (h:Heap) (i l:Addr) (k:Nat):Prop:=match t with | true=>h.IsTupleIter i l k | false=>h.IsListIter i l k
def Sq (t:Bool) (h:Heap) (l:Addr) (xs:Array e7):Prop:=match t with | true=>h.IsTuple l xs | false=>h.IsList l xs
theorem At.up {t:Bool} {h h':Heap} {i l:Addr} {k:Nat} (x:At t h i l k) (e:∀ o,h.get? i=some o->h'.get? i=some o):At t h' i l k:=by
 cases t <;> (obtain ⟨o,ho,r⟩:=x;exact ⟨o,e o ho,r⟩)
theorem Sq.up {t:Bool} {h h':Heap} {l:Addr} {xs:Array e7} (x:Sq t h l xs) (e:∀ o,h.get? l=some o->h'.get? l=some o):Sq t h' l xs:=by
 cases t <;> (obtain ⟨o,ho,r⟩:=x;exact ⟨o,e o ho,r⟩)
theorem At.lt {t:Bool} {h:Heap} {i l:Addr} {k:Nat} (x:At t h i l k):∃ o,h.get? i=some o /\ ∀ v,o.data ≠ .cell v:=by
 cases t <;> (obtain ⟨o,ho,j,hd⟩:=x;exact ⟨o,ho,fun v z=>by rw [hd] at z;cases z⟩)
section
variable {prog:FR} {w:G7} {A:Gg} {E:e7->h8->Prop} {s:h8}
open Builtin.SmallTypes in
theorem wB {i l:Addr} {k:Nat} {xs:Array e7} {x:e7} {Q:e7->h8->Prop} (hi:s.heap.IsTupleIter i l k) (L:s.heap.IsTuple l xs) (hx:xs[k]? = some x)
 (q:∀ h',h'.IsTupleIter i l (k+1)->GZ i s.heap h'->Q x { s with heap:=h' }):FG (model prog w) A (nextOf (.ref i)) Q E s:=by
 obtain ⟨ob,z,B,j⟩:=id hi;obtain ⟨oq,G,_,nq,J⟩:=L;unfold nextOf;refine e6 (Ga (name:=q7 "__next__") hi.typeIs HF (Gq HF hi.typeIs K9 ?_ (JX _)));refine e6 (m:=field (.ref i) 0) (Gm z j (x := .ref l) rfl ?_);refine (if_neg (c:=(G2 l==HU)=true) i4) ▸ ?_;refine e6 (m:=field (.ref i) 1) (Gm z j (x := .int k 0) rfl ?_);refine e6 (m:=seqItems? (.ref l)) (HG G J ?_);simp only [Ht,hx];refine e6 (wpAny_setField z j (by simp) (hQ ⟨x,rfl,hQ (q _ ⟨_,Lz _ z (Obj.isFreed_of_fields (MU j _)),(Obj.cls_mapFields ..).trans B, ?_⟩ (Mk ..))⟩))
 rw [MU j];simp [Lf]
open Builtin.SmallTypes in
theorem zu {i l:Addr} {k:Nat} {xs:Array e7} {Q:e7->h8->Prop} (J:A.handled=none) (hi:s.heap.IsTupleIter i l k) (L:s.heap.IsTuple l xs) (hx:xs[k]? = none)
 (q:∀ h' e,NY i s.heap h'->(∃ o,h'.get? e=some o/\o.cls = .type "StopIteration")->E (.ref e) { s with heap:=h' }):FG (model prog w) A (nextOf (.ref i)) Q E s:=by
 obtain ⟨ob,j,O,z⟩:=id hi;obtain ⟨oq,B,_,nq,G⟩:=L;unfold nextOf;refine e6 (Ga (name:=q7 "__next__") hi.typeIs HF (Gq HF hi.typeIs K9 ?_ (JX _)));refine e6 (m:=field (.ref i) 0) (Gm j z (x := .ref l) rfl ?_);refine (if_neg (c:=(G2 l==HU)=true) i4) ▸ ?_;refine e6 (m:=field (.ref i) 1) (Gm j z (x := .int k 0) rfl ?_);refine e6 (m:=seqItems? (.ref l)) (HG B G ?_);simp only [Ht,hx];refine e6 (H9 (e6 (wpAny_setField j z (by simp) ?_)))
 refine e6 (m:=newExc (.type "StopIteration") []) ?_;simp only [newExc,newTuple];refine e6 (GU ?_ (by size_fits))
 refine e6 (m:=Kq _ _) (Ic (a:=HU) (by first | rfl | (simp only [Kq];rfl)) (GU ?_ (by size_fits)))
 simp only [raiseNew];refine e6 (wpAny_handled ?_)
 first | rw [show A.in1.handled=none from J] | rw [J]
 exact e6 (hQ (wpAny_throw (q _ _ (((Mk ..).extBut.push _).push _) ⟨_,FF _ rfl,rfl⟩)))
open Builtin.SmallTypes in
theorem cW {t:Bool} {i l:Addr} {k:Nat} {xs:Array e7} {x:e7} {Q:e7->h8->Prop} (hi:At t s.heap i l k) (j:Sq t s.heap l xs) (hx:xs[k]? = some x)
 (q:∀ h',At t h' i l (k+1)->GZ i s.heap h'->Q x { s with heap:=h' }):FG (model prog w) A (nextOf (.ref i)) Q E s:=by
 cases t with
 | true=>exact wB hi j hx q
 | false=>exact wpAny_nextOf_list_item hi j hx q
open Builtin.SmallTypes in
theorem nx_end {t:Bool} {i l:Addr} {k:Nat} {xs:Array e7} {Q:e7->h8->Prop} (j:A.handled=none) (hi:At t s.heap i l k) (z:Sq t s.heap l xs) (hx:xs[k]? = none)
 (q:∀ h' e,NY i s.heap h'->(∃ o,h'.get? e=some o/\o.cls = .type "StopIteration")->E (.ref e) { s with heap:=h' }):FG (model prog w) A (nextOf (.ref i)) Q E s:=by
 cases t with
 | true=>exact zu j hi z hx q
 | false=>exact wpAny_nextOf_list_end j hi z hx q
open Builtin.SmallTypes in
theorem Br {z T O i j a b:Addr} {t u:Bool} {k:Nat} {xs ys:Array e7} {x y p r:e7} {Q:e7->h8->Prop} (D:LM z T O i j a b)
 (G:KH s.heap z T O .none) (hT:HX s.heap T (.ref i) (.ref j)) (hO:HX s.heap O p r)
 (hi:At t s.heap i a k) (hj:At u s.heap j b k) (ha:Sq t s.heap a xs) (hb:Sq u s.heap b ys) (hx:xs[k]? = some x) (hy:ys[k]? = some y)
 (q:∀ h',KH h' z T O (Lf s.heap.objs.size)->HX h' O x y->At t h' i a (k+1)->At u h' j b (k+1)->HX h' s.heap.objs.size x y ->
   (∀ c o,c≠z->c≠O->c≠i->c≠j->s.heap.get? c=some o->h'.get? c=some o)->Q (.ref s.heap.objs.size) { s with heap:=h' }) :
 FG (model prog w) A (IA.«zip.__next__» ⟨[.ref z],[]⟩) (fun fin s' => ∃ v,fin = .done (.ret v)/\Q v s') E s:=by
 refine e6 (m:=field (.ref z) 2) (Gm G rfl (x := .bool false) rfl ?_);refine e6 (m:=field (.ref z) 3) (Gm G rfl (x := .ref T) rfl ?_);refine e6 (HG hT rfl ?_);refine e6 (m:=ownedTupleIsFree (.ref z)) ?_;unfold ownedTupleIsFree;refine e6 (Gm G rfl (x := .none) rfl (hQ ?_));simp only [if_true];refine e6 (H9 (e6 (Gm G rfl (x := .ref O) rfl (e6 (Gd G (by simp) fun g1 z1 s1 => ?_)))))
 have Z1:KH g1 z T O .ellipsis:=z1;clear z1;refine e6 ?_;simp only [L4,Od,Iq,LN];refine e6 (e6 (KP (e6 (m:=nextOf (.ref i)) ?_)));refine cW (hi.up fun o e=>s1.extBut _ o D.i1z e) (ha.up fun o e=>s1.extBut _ o D.l1z e) hx fun g2 U s2=>hQ ?_;have O2:HX g2 O p r:=s2.extBut _ _ D.TOi1 (s1.extBut _ _ D.TOz hO);refine e6 (HG O2 rfl (e6 (JS O2 fun g3 o3 s3 => ?_)));have O3:HX g3 O x r:=o3;clear o3;refine e6 (LO (hQ (e6 (e6 (KP (e6 (m:=nextOf (.ref j)) ?_))))));refine cW (hj.up fun o e=>s3.extBut _ o D.TOi2.symm (s2.extBut _ o D.i12.symm (s1.extBut _ o D.i2z e))) (hb.up fun o e=>s3.extBut _ o D.l2TO (s2.extBut _ o D.l2i1 (s1.extBut _ o D.l2z e))) hy fun g4 Y s4=>hQ ?_;have O4:HX g4 O x r:=s4.extBut _ _ D.TOi2 O3;refine e6 (HG O4 rfl (e6 (JS O4 fun B o5 s5 => ?_)));have O5:HX B O x y:=o5;clear o5;refine e6 (LO (hQ (hQ (e6 (HG O5 rfl (e6 (LP ?_)))))));have sz:B.objs.size=s.heap.objs.size:=by rw [s5.1,s4.1,s3.1,s2.1,s1.1]
 have k5:∀ c o,c≠z->c≠O->c≠i->c≠j->s.heap.get? c=some o->B.get? c=some o:=fun c o F J Z c4 e =>
  s5.extBut _ _ J (s4.extBut _ _ c4 (s3.extBut _ _ J (s2.extBut _ _ Z (s1.extBut _ _ F e))))
 have Z5:KH B z T O .ellipsis:=s5.extBut _ _ D.TOz.symm (s4.extBut _ _ D.i2z.symm (s3.extBut _ _ D.TOz.symm (s2.extBut _ _ D.i1z.symm Z1)));have I5:At t B i a (k+1):=U.up fun o e=>s5.extBut _ o D.TOi1.symm (s4.extBut _ o D.i12 (s3.extBut _ o D.TOi1.symm e));have J5:At u B j b (k+1):=Y.up fun o e=>s5.extBut _ o D.TOi2.symm e;have zl:z < B.objs.size:=Fz Z5;refine e6 (m:=ownedTupleHandOut (.ref z) (.ref B.objs.size)) ?_;unfold ownedTupleHandOut;refine e6 (Gd (h7 _ Z5) (by simp) fun g7 z7 s7 => ?_)
 have Z7:KH g7 z T O (Lf B.objs.size):=z7;clear z7;refine Gd Z7 (by simp) fun L z8 s8 => ?_
 have Z8:KH L z T O (Lf B.objs.size):=z8;clear z8;have up:∀ c o,c≠z->B.get? c=some o->L.get? c=some o:=fun c o F e=>s8.extBut _ _ F (s7.extBut _ _ F (h7 _ e));have P8:HX L B.objs.size x y:=s8.extBut _ _ (Ih zl) (s7.extBut _ _ (Ih zl) (FF _ rfl));rw [sz] at Z8 P8;refine hQ ⟨_,rfl, ?_⟩;show Q (.ref B.objs.size) _;rw [sz];exact q L Z8 (up _ _ D.TOz O5) (I5.up fun o e=>up _ o D.i1z e) (J5.up fun o e=>up _ o D.i2z e) P8 fun c o F J Z c4 e=>up c o F (k5 c o F J Z c4 e)
open Builtin.SmallTypes in
theorem D3 {z T O i j a b:Addr} {t u:Bool} {k:Nat} {xs ys:Array e7} {p r:e7} {Q:Fin->h8->Prop} (hn:A.handled=none) (D:LM z T O i j a b)
 (G:KH s.heap z T O .none) (hT:HX s.heap T (.ref i) (.ref j)) (hO:HX s.heap O p r)
 (hi:At t s.heap i a k) (hj:At u s.heap j b k) (ha:Sq t s.heap a xs) (hb:Sq u s.heap b ys) (J:xs[k]? = none∨ys[k]? = none)
 (q:∀ h' e,(∀ c o,c≠z->c≠O->c≠i->c≠j->s.heap.get? c=some o->h'.get? c=some o)->(∃ o,h'.get? e=some o/\o.cls = .type "StopIteration")->E (.ref e) { s with heap:=h' }) :
 FG (model prog w) A (IA.«zip.__next__» ⟨[.ref z],[]⟩) Q E s:=by
 refine e6 (m:=field (.ref z) 2) (Gm G rfl (x := .bool false) rfl ?_);refine e6 (m:=field (.ref z) 3) (Gm G rfl (x := .ref T) rfl ?_);refine e6 (HG hT rfl ?_);refine e6 (m:=ownedTupleIsFree (.ref z)) ?_;unfold ownedTupleIsFree;refine e6 (Gm G rfl (x := .none) rfl (hQ ?_));simp only [if_true];refine e6 (H9 (e6 (Gm G rfl (x := .ref O) rfl (e6 (Gd G (by simp) fun g1 z1 s1 => ?_)))))
 have Z1:KH g1 z T O .ellipsis:=z1;clear z1;refine e6 ?_;simp only [L4,Od,Iq,LN];refine e6 (e6 (KP (e6 (m:=nextOf (.ref i)) ?_)));have L:At t g1 i a k:=hi.up fun o e=>s1.extBut _ o D.i1z e;have U:Sq t g1 a xs:=ha.up fun o e=>s1.extBut _ o D.l1z e
 cases hx:xs[k]? with
 | none =>
   refine nx_end hn L U hx fun g2 e s2 he => ?_;obtain ⟨oe,B,F⟩:=he;have Z2:KH g2 z T O .ellipsis:=s2 _ _ D.i1z.symm Z1;have ez:e≠z:=fun x=>by subst x;rw [Z2] at B;cases B;simp at F
   exact Gd Z2 (by simp) fun g3 _ s3=>q g3 e (fun c o Y _ Z _ x=>s3.extBut _ _ Y (s2 _ _ Z (s1.extBut _ _ Y x))) ⟨oe,s3.extBut _ _ ez B,F⟩
 | some x =>
   have hy:ys[k]? = none:=J.elim (fun z=>by rw [hx] at z;cases z) id
   refine cW L U hx fun g2 Ef s2=>hQ ?_;have O2:HX g2 O p r:=s2.extBut _ _ D.TOi1 (s1.extBut _ _ D.TOz hO);refine e6 (HG O2 rfl (e6 (JS O2 fun g3 o3 s3 => ?_)));refine e6 (LO (hQ (e6 (e6 (KP (e6 (m:=nextOf (.ref j)) ?_))))));refine nx_end hn (hj.up fun o e=>s3.extBut _ o D.TOi2.symm (s2.extBut _ o D.i12.symm (s1.extBut _ o D.i2z e))) (hb.up fun o e=>s3.extBut _ o D.l2TO (s2.extBut _ o D.l2i1 (s1.extBut _ o D.l2z e))) hy fun g4 e s4 he => ?_;obtain ⟨oe,B,F⟩:=he;have Z4:KH g4 z T O .ellipsis:=s4 _ _ D.i2z.symm (s3.extBut _ _ D.TOz.symm (s2.extBut _ _ D.i1z.symm Z1));have ez:e≠z:=fun x=>by subst x;rw [Z4] at B;cases B;simp at F
   exact Gd Z4 (by simp) fun g5 _ s5=>q g5 e (fun c o Y c2 Z c4 x=>s5.extBut _ _ Y (s4 _ _ c4 (s3.extBut _ _ c2 (s2.extBut _ _ Z (s1.extBut _ _ Y x))))) ⟨oe,s5.extBut _ _ ez B,F⟩
theorem nxt_item {z T O i j a b:Addr} {t u:Bool} {k:Nat} {xs ys:Array e7} {x y p r:e7} {Q:Option e7->h8->Prop} (D:LM z T O i j a b)
 (B:KH s.heap z T O .none) (G:HX s.heap T (.ref i) (.ref j)) (J:HX s.heap O p r)
 (hi:At t s.heap i a k) (L:At u s.heap j b k) (U:Sq t s.heap a xs) (Y:Sq u s.heap b ys) (hx:xs[k]? = some x) (Z:ys[k]? = some y)
 (q:∀ h',KH h' z T O (Lf s.heap.objs.size)->HX h' O x y->At t h' i a (k+1)->At u h' j b (k+1)->HX h' s.heap.objs.size x y ->
   (∀ c o,c≠z->c≠O->c≠i->c≠j->s.heap.get? c=some o->h'.get? c=some o)->Q (some (.ref s.heap.objs.size)) { s with heap:=h' }) :
 FG (model prog w) A (J8 (.ref z)) Q E s:=by
 have ty:s.TypeIs (.ref z) "zip" := ⟨_,B,rfl⟩;unfold J8;exact e6 (J0 (Ga (name:=q7 "__next__") ty JY (Gq JY ty NG
  (Br D B G J hi L U Y hx Z fun h' a1 a2 a3 a4 a5 a6=>hQ (q h' a1 a2 a3 a4 a5 a6)) (Nb _))))
theorem nxt_end {z T O i j a b:Addr} {t u:Bool} {k:Nat} {xs ys:Array e7} {p r:e7} {Q:Option e7->h8->Prop} (J:A.handled=none) (D:LM z T O i j a b)
 (G:KH s.heap z T O .none) (L:HX s.heap T (.ref i) (.ref j)) (U:HX s.heap O p r)
 (hi:At t s.heap i a k) (Y:At u s.heap j b k) (Z:Sq t s.heap a xs) (hb:Sq u s.heap b ys) (B:xs[k]? = none∨ys[k]? = none)
 (q:∀ h',(∀ c o,c≠z->c≠O->c≠i->c≠j->s.heap.get? c=some o->h'.get? c=some o)->Q none { s with heap:=h' }):FG (model prog w) A (J8 (.ref z)) Q E s:=by
 have ty:s.TypeIs (.ref z) "zip" := ⟨_,G,rfl⟩;unfold J8;refine e6 (J0 (Ga (name:=q7 "__next__") ty JY (Gq JY ty NG
  (D3 J D G L U hi Y Z hb B fun h' e hk he => ?_) (Nb _))))
 obtain ⟨o,ho,hc⟩:=he;exact e6 (JH (T := "StopIteration") (b:=true) ⟨o,ho,hc⟩ LQ (hQ (q _ hk)))
noncomputable def itO (t:Bool) (l:Addr):Obj:=match t with | true => { cls := .type "tuple_iterator",data := .fields #[.ref l, .int 0 0] } | false => { cls := .type "list_iterator",data := .fields #[.ref l, .int 0 0] }
noncomputable def zH1 (h:Heap) (t:Bool) (a:Addr):Heap:=h.push (itO t a)
noncomputable def zH2 (h:Heap) (t u:Bool) (a b:Addr):Heap:=(zH1 h t a).push (itO u b)
noncomputable def zH3 (h:Heap) (t u:Bool) (a b:Addr):Heap:=(zH2 h t u a b).push { cls := .type "tuple",data := .seq #[.ref h.objs.size, .ref (zH1 h t a).objs.size] }
noncomputable def zH4 (h:Heap) (t u:Bool) (a b:Addr):Heap:=(zH3 h t u a b).push { cls := .type "tuple",data := .seq #[.none, .none] }
noncomputable def zH5 (h:Heap) (t u:Bool) (a b:Addr):Heap:=(zH4 h t u a b).push { cls := .type "zip",data := .fields #[.none, .bool false, .bool false, .ref (zH2 h t u a b).objs.size, .ref (zH3 h t u a b).objs.size] }
theorem tU (t u:Bool) (a b:Addr) (xs ys:Array e7) :
 Meets (IA.«zip.__new__» ⟨[.type "zip", .ref a, .ref b],[]⟩) (fun _ R s=>Sq t s.heap a xs/\Sq u s.heap b ys/\R (.ok (.ret (.ref (zH4 s.heap t u a b).objs.size))) { s with heap:=zH5 s.heap t u a b }) :=
 .of_wp fun prog w A R s h=>by
  obtain ⟨j,g,d,tk,os⟩:=s;obtain ⟨B,F,h⟩:=h;have hs:=sub_zip
  cases t <;> cases u
  ·have q:LR (Ie ⟨j,g,d,tk,os⟩) a xs:=B;have z:LR (Ie ⟨j.push { cls := .type "list_iterator",data := .fields #[.ref a, .int 0 0] },g,d,tk,os⟩) b ys:=NH F _
   wp_walk using Hu q,Hu z
   exact ⟨_,rfl,h⟩
  ·have q:LR (Ie ⟨j,g,d,tk,os⟩) a xs:=B;have z:Ka (Ie ⟨j.push { cls := .type "list_iterator",data := .fields #[.ref a, .int 0 0] },g,d,tk,os⟩) b ys:=Nc F _
   wp_walk using Hu q,Ha z
   exact ⟨_,rfl,h⟩
  ·have q:Ka (Ie ⟨j,g,d,tk,os⟩) a xs:=B;have z:LR (Ie ⟨j.push { cls := .type "tuple_iterator",data := .fields #[.ref a, .int 0 0] },g,d,tk,os⟩) b ys:=NH F _
   wp_walk using Ha q,Hu z
   exact ⟨_,rfl,h⟩
  ·have q:Ka (Ie ⟨j,g,d,tk,os⟩) a xs:=B;have z:Ka (Ie ⟨j.push { cls := .type "tuple_iterator",data := .fields #[.ref a, .int 0 0] },g,d,tk,os⟩) b ys:=Nc F _
   wp_walk using Ha q,Ha z
   exact ⟨_,rfl,h⟩
theorem at_new {t:Bool} {h:Heap} {i l:Addr} (e:h.get? i=some (itO t l)):At t h i l 0:=by
 cases t <;> exact ⟨_,e,rfl,rfl⟩
theorem call_zip {t u:Bool} {a b:Addr} {xs ys:Array e7} {Q:e7->h8->Prop} (ha:Sq t s.heap a xs) (hb:Sq u s.heap b ys)
 (q:∀ h',KH h' (s.heap.objs.size+4) (s.heap.objs.size+2) (s.heap.objs.size+3) .none->HX h' (s.heap.objs.size+2) (.ref s.heap.objs.size) (.ref (s.heap.objs.size+1)) ->
   HX h' (s.heap.objs.size+3) .none .none->At t h' s.heap.objs.size a 0->At u h' (s.heap.objs.size+1) b 0->h'.objs.size=s.heap.objs.size+5 ->
   (∀ c o,s.heap.get? c=some o->h'.get? c=some o)->Q (.ref (s.heap.objs.size+4)) { s with heap:=h' }) :
 FG (model prog w) A (call (.type "zip") [.ref a, .ref b]) Q E s:=by
 refine callType_new F.called_zip (by decide) (F.typeCall_zip_2 _ _) (F.newCall_zip_2 _ _) (fun obj=>F.args_object_init_3 obj _ _) F.entry_zip_new (tU t u a b xs ys) ⟨ha,hb, ?_⟩
 have B:(zH1 s.heap t a).objs.size=s.heap.objs.size+1:=Gx ..;have G:(zH2 s.heap t u a b).objs.size=s.heap.objs.size+2:=by unfold zH2;rw [Gx,B]
 have J:(zH3 s.heap t u a b).objs.size=s.heap.objs.size+3:=by unfold zH3;rw [Gx,G]
 have L:(zH4 s.heap t u a b).objs.size=s.heap.objs.size+4:=by unfold zH4;rw [Gx,J]
 have z5:(zH5 s.heap t u a b).objs.size=s.heap.objs.size+5:=by unfold zH5;rw [Gx,L]
 have j:∀ {c o},(zH4 s.heap t u a b).get? c=some o->(zH5 s.heap t u a b).get? c=some o:=fun e=>h7 _ e;have z:∀ {c o},(zH3 s.heap t u a b).get? c=some o->(zH4 s.heap t u a b).get? c=some o:=fun e=>h7 _ e;have O:∀ {c o},(zH2 s.heap t u a b).get? c=some o->(zH3 s.heap t u a b).get? c=some o:=fun e=>h7 _ e;have Y:∀ {c o},(zH1 s.heap t a).get? c=some o->(zH2 s.heap t u a b).get? c=some o:=fun e=>h7 _ e;have k1:∀ {c o},s.heap.get? c=some o->(zH1 s.heap t a).get? c=some o:=fun e=>h7 _ e;have f:∀ t l,(itO t l).isFreed=false:=fun t l=>by cases t <;> rfl
 have U:(zH5 s.heap t u a b).get? (zH4 s.heap t u a b).objs.size=some _:=FF _ rfl;have Z:(zH5 s.heap t u a b).get? (zH3 s.heap t u a b).objs.size=some _:=j (FF _ rfl);have g3:(zH5 s.heap t u a b).get? (zH2 s.heap t u a b).objs.size=some _:=j (z (FF _ rfl));have g2:(zH5 s.heap t u a b).get? (zH1 s.heap t a).objs.size=some _:=j (z (O (FF _ (f u b))));have g1:(zH5 s.heap t u a b).get? s.heap.objs.size=some _:=j (z (O (Y (FF _ (f t a)))));show _/\_;rw [G,J,L] at U;rw [B,G] at g3;rw [J] at Z;rw [B] at g2;rw [L];exact ⟨⟨_,U,rfl⟩,q _ U g3 Z (at_new g1) (at_new g2) z5 fun c o x=>j (z (O (Y (k1 x))))⟩
end
end Zp
end L2
namespace L2
open PySem PySem.Spec PyProof.Rows
section
section
variable {X:Cx} {pins:List (Addr×Obj)} {σ:St} {H:Hp} {s:h8} {h':Heap}
theorem Inv.turnedL {t':Nat} {fp:List Addr} (I:Inv X pins σ H s) (hf:∀ b∈fp,bo X pins H b) (k:∀ b o,b∉fp->s.heap.get? b=some o->h'.get? b=some o):Inv X pins σ H { s with heap:=h',toks:=t' }:=by
 have nit:∀ b u,H b=some u->b∉fp:=fun b u e z=>by rw [(hf b z).1] at e;cases e
 refine I.step (g':=s.gens) (d':=s.drawn) (ch:=fp) (fun b B => ?_) (fun b o _ _ j e _=>k b o j e) (fun b o _ _ j e _=>⟨o.slots,k b o j e⟩) (fun _ _ _ _ n=>n)
  (fun b o j e=>⟨o,k b o j e⟩) (fun _ _ e=>e) (fun _ _ _ e=>e) (fun b ps e=>⟨#[],by rw [e];simp⟩) (fun m hm => ?_) (fun b u e => ?_) I.bare
 ·obtain ⟨_,f1,_,F,f4,G⟩:=hf b B;exact ⟨F,f1,f4,G⟩
 ·obtain ⟨o,es,ep,ho,r⟩:=hm;exact ⟨o,es,ep,k _ o (fun z=>(hf _ z).2.1 rfl) ho,r⟩
 ·refine (I.hok b u e).stay (fun c v j q=>k c v ?_ q) (fun _ q=>q) fun _ _ q=>q
  rcases j with z | z
  ·rw [z];exact nit b u e
  ·exact nit c _ z
end
def SqV (K:Frag) (t:Bool) (H:Hp) (a:Addr) (xs:List V):Prop:=match t with | true=>SqT K H a xs | false=>SqL K H a xs
theorem Inv.sqv {X:Cx} {pins:List (Addr×Obj)} {σ:St} {H:Hp} {s:h8} {t:Bool} {a:Addr} {xs:List V} (I:Inv X pins σ H s) (h:SqV X.K t H a xs):∃ its:List e7,Vals xs its/\Zp.Sq t s.heap a its.toArray:=by
 cases t with
 | true=>obtain ⟨its,r,p,_⟩:=I.tuple h;exact ⟨its,r,p⟩
 | false=>obtain ⟨its,r,p,_⟩:=I.list h;exact ⟨its,r,p.isList⟩
theorem Inv.sqv_inj {X:Cx} {pins:List (Addr×Obj)} {σ:St} {H:Hp} {s:h8} {t:Bool} {a:Addr} {xs ys:List V} (I:Inv X pins σ H s) (h:SqV X.K t H a xs) (h':SqV X.K t H a ys):xs=ys:=by
 cases t with
 | true=>exact I.tuple_inj h h'
 | false=>exact I.list_inj h h'
noncomputable def Itz (K:Frag) (t u:Bool) (a b:Addr):It :=
 ⟨fun i H => ∃ xs ys x y,SqV K t H a xs/\SqV K u H b ys/\xs[i]? = some x/\ys[i]? = some y,
  fun i H v H' => ∃ p x y,H p=none/\v = .ref p/\H'=upd H p (.tup [x,y]) /\ ∀ xs ys,SqV K t H a xs->SqV K u H b ys->xs[i]? = some x/\ys[i]? = some y,
  fun i H => ∃ xs ys,SqV K t H a xs/\SqV K u H b ys/\(xs.length<=i∨ys.length<=i)⟩
theorem wD {P:FR} {w:G7} {K:Frag} {elts:List Expr} {cx} {pos:Pos} {t u:Bool} {z T O i j a b:Addr} (D:LM z T O i j a b) :
 fv P w K (.Tuple elts cx pos) (Itz K t u a b) [z,T,O,i,j] z (fun k h=>KH h z T O .none/\HX h T (.ref i) (.ref j)/\(∃ p r,HX h O p r)/\Zp.At t h i a k/\Zp.At u h j b k) where
 mem:=by simp
 obj:=fun k h ⟨B,F,⟨p,r,G⟩,hi,J⟩ c q=>by
  simp only [Fx,FW,or_false] at q
  rcases q with rfl | rfl | rfl | rfl | rfl
  ·exact ⟨_,B,fun v e=>by cases e⟩
  ·exact ⟨_,F,fun v e=>by cases e⟩
  ·exact ⟨_,G,fun v e=>by cases e⟩
  ·exact hi.lt
  ·exact J.lt
 keep:=fun k h h' ⟨B,F,⟨p,r,G⟩,hi,J⟩ kk=>⟨kk z (by simp) _ B,kk T (by simp) _ F,⟨p,r,kk O (by simp) _ G⟩,hi.up fun o e=>kk i (by simp) o e,J.up fun o e=>kk j (by simp) o e⟩
 item:=by
  intro X Y hw Z q k pins s σ H E I hf st hg;subst Y hw Z;obtain ⟨B,F,⟨p,r,G⟩,hi,J⟩:=st;obtain ⟨xs,ys,x,y,qx,qy,ex,ey⟩:=hg;obtain ⟨is,rx,px⟩:=I.sqv qx;obtain ⟨js,ry,py⟩:=I.sqv qy;obtain ⟨ux,Ef,rux⟩:=rx.get ex;obtain ⟨uy,Eg,ruy⟩:=ry.get ey;refine Zp.nxt_item D B F G hi J px py (by simpa using Ef) (by simpa using Eg) fun h1 z1 o1 i1 j1 p1 U=>⟨_,rfl, ?_⟩
  refine wpAny_letOwnedTupleGo_zip (s := { s with heap:=h1 }) z1 fun h2 z2 s2 => ?_
  have lt:∀ {c o},s.heap.get? c=some o->c≠s.heap.objs.size:=fun e=>G0 (Fz e);have nz:s.heap.objs.size≠z:=(lt B).symm;have Eh:∃ o,s.heap.get? i=some o:=hi.lt.imp fun _ h=>h.1;have Ei:∃ o,s.heap.get? j=some o:=J.lt.imp fun _ h=>h.1;have up:∀ c o,c≠z->h1.get? c=some o->h2.get? c=some o:=fun c o n e=>s2.extBut _ _ n e;have IL:Inv X pins σ (upd H s.heap.objs.size (.tup [x,y])) { s with heap:=s.heap.push { cls := .type "tuple",data := .seq #[ux,uy] },toks:=s.toks } :=
   I.laid (fun b o e=>h7 _ e) (Fy _) ⟨by rw [hH];simp,[ux,uy], .cons rux (.cons ruy .nil),Kf _ _⟩
  have fr:∀ c∈[z,T,O,i,j],c≠s.heap.objs.size:=fun c q=>by
   simp only [Fx,FW,or_false] at q
   rcases q with rfl | rfl | rfl | rfl | rfl
   ·exact lt B
   ·exact lt F
   ·exact lt G
   ·obtain ⟨o,e⟩:=Eh;exact lt e
   ·obtain ⟨o,e⟩:=Ei;exact lt e
  have un:∀ c∈[z,T,O,i,j],upd H s.heap.objs.size (.tup [x,y]) c=none:=fun c q=>by
   rw [ai (fr c q)];exact (hf c q).1
  have kk:∀ c o,c∉[z,T,O,i,j]->(s.heap.push { cls := .type "tuple",data := .seq #[ux,uy] }).get? c=some o->h2.get? c=some o:=fun c o q e=>by
   simp only [Fx,FW,or_false,not_or] at q
   rcases LU e with ⟨rfl,rfl⟩ | e
   ·exact up _ _ nz p1
   ·exact up _ _ q.1 (U c o q.1 q.2.2.1 q.2.2.2.1 q.2.2.2.2 e)
  have I2:Inv X pins σ (upd H s.heap.objs.size (.tup [x,y])) { s with heap:=h2,toks:=s.toks } :=
   (Inv.turnedL (s := { s with heap:=s.heap.push { cls := .type "tuple",data := .seq #[ux,uy] },toks:=s.toks }) (h':=h2) (t':=s.toks) (fp := [z,T,O,i,j]) IL (fun c q=>⟨un c q,(hf c q).2⟩) kk)
  refine ⟨.ref s.heap.objs.size,_,I2,rfl,⟨_,x,y,I.hok.fresh (Fy _),rfl,rfl,fun xs' ys' q1 q2 => ?_⟩,⟨z2,up _ _ D.TIz (U _ _ D.TIz D.TITO D.TIi1 D.TIi2 F),⟨_,_,up _ _ D.TOz o1⟩,i1.up fun o e=>up _ o D.i1z e,j1.up fun o e=>up _ o D.i2z e⟩,un⟩;rw [I.sqv_inj q1 qx,I.sqv_inj q2 qy];exact ⟨ex,ey⟩
 done:=by
  intro X Y hw Z q k pins s σ H E I hf st hg;subst Y hw Z;obtain ⟨B,F,⟨p,r,G⟩,hi,J⟩:=st;obtain ⟨xs,ys,qx,qy,L⟩:=hg;obtain ⟨is,rx,px⟩:=I.sqv qx;obtain ⟨js,ry,py⟩:=I.sqv qy;have lx:=rx.length;have ly:=ry.length;refine Zp.nxt_end (I.ok.hd q) D B F G hi J px py (L.imp (fun e=>by simp;lia) (fun e=>by simp;lia)) fun h1 U=>⟨rfl,I.turnedL (t':=s.toks) hf fun c o q e => ?_⟩
  simp only [Fx,FW,or_false,not_or] at q;exact U c o q.1 q.2.2.1 q.2.2.2.1 q.2.2.2.2 e
 self:=fun A k s Q E st h=>NI st.1 h
section
variable {X:Cx}
noncomputable def E6 (K:Frag) (ta:TA):TI:=fun σ H R=>ta σ H fun vs H1 => ∃ a b t u xs ys,vs=[.ref a, .ref b]/\SqV K t H1 a xs/\SqV K u H1 b ys/\R (Itz K t u a b) H1
theorem Bs {elts:List Expr} {cx} {pos p pos':Pos} {a b:Expr} {ta:TA} (G:Gl X "zip") (hm:X.mg "zip" = none) (J:PA X [a,b] ta) (hs:FP [a,b] X.env=[(false,eval a X.env),(false,eval b X.env)]) (j:FP [b] X.env=[(false,eval b X.env)]) :
 PI X (.Tuple elts cx pos) (.Call (.Name "zip" p) [a,b] [] pos') (E6 X.K ta):=by
 intro pins s σ H R I h;refine Call_ (cA I G hm (u := .type "zip") (by decide +kernel) (GH (thn (J pos' pins s σ H _ I h) fun us s1 ⟨vs,H1,z,r1,L⟩ => ?_) (by rw [hs,j]) (by rw [j];rfl)))
 obtain ⟨a',b',t,u,xs,ys,rfl,qx,qy,q⟩:=L
 cases r1 with
 | cons r rr =>
   cases rr with
   | cons r' rr =>
     cases rr
     cases r
     cases r'
     obtain ⟨is,rx,px⟩:=z.sqv qx;obtain ⟨js,ry,py⟩:=z.sqv qy;refine Zp.call_zip px py fun h1 B t1 O U Y sz Z => ?_;refine NI B ?_;have la:a' < s1.heap.objs.size:=by cases t <;> (obtain ⟨o,e,_⟩:=px;exact Fz e)
     have lb:b' < s1.heap.objs.size:=by cases u <;> (obtain ⟨o,e,_⟩:=py;exact Fz e)
     have D:LM (s1.heap.objs.size+4) (s1.heap.objs.size+2) (s1.heap.objs.size+3) s1.heap.objs.size (s1.heap.objs.size+1) a' b':=by constructor <;> (intro e;subst_vars;first | lia | (simp only [Addr] at *;lia))
     refine ⟨_,_,_,_,H1,rfl,z.kept (t':=s1.toks) Z,wD (t:=t) (u:=u) D,⟨B,t1,⟨_,_,O⟩,U,Y⟩,fun c F => ?_,q⟩;have hle:s1.heap.objs.size<=c:=by
      simp only [Fx,FW,or_false] at F
      rcases F with rfl | rfl | rfl | rfl | rfl <;> lia
     exact z.fpOk hle (z.hok.fresh hle)
end
end
end L2
namespace L2
namespace Zp
open PySem PySem.Spec PyProof.Rows
end Zp
open PySem PySem.Spec PyProof.Rows
end L2
namespace L2
namespace En
open PySem PySem.Spec PyProof.Rows
section
variable {prog:FR} {w:G7} {A:Gg} {E:e7->h8->Prop} {s:h8}
open Builtin.SmallTypes Zp in
theorem Bt {z i a:Addr} {t:Bool} {k:Nat} {xs:Array e7} {x old:e7} {Q:e7->h8->Prop} (U:Ln s.heap z i k old) (hi:At t s.heap i a k) (ha:Sq t s.heap a xs) (hx:xs[k]? = some x) (j:z≠i)
 (q:∀ h',NJ h' z i ((k:Int)+1) x s.heap.objs.size->At t h' i a (k+1)->h'.get? s.heap.objs.size=some { cls := .type "tuple",data := .seq #[.int k s.toks,x] } ->
   (∀ b o,b≠z->b≠i->s.heap.get? b=some o->h'.get? b=some o)->Q (.ref s.heap.objs.size) { s with heap:=h',toks:=s.toks+1 }) :
 FG (model prog w) A (IA.«enumerate.__next__» ⟨[.ref z],[]⟩) (fun fin s' => ∃ v,fin = .done (.ret v)/\Q v s') E s:=by
 obtain ⟨B,g,d,tk,os⟩:=s;refine e6 (m:=field (.ref z) 2) (Gm U rfl (x := .ref i) rfl (e6 (cW hi ha hx fun g1 i1 s1 => ?_)));have S1:GZ i B g1:=s1;clear s1;have Y:Ln g1 z i k old:=(S1.2 z j).trans U;refine e6 (m:=field (.ref z) 3) (Gm (s:=⟨g1,g,d,tk,os⟩) Y rfl (x:=Lf k) rfl ?_);refine e6 (m:=field (.ref z) 4) (Gm (s:=⟨g1,g,d,tk,os⟩) Y rfl (x := .none) rfl ?_);refine e6 (m:=mkInt k) (wpAny_mkInt ?_);refine e6 (m:=setField (.ref z) 3 (Lf ((k:Int)+1))) (Gd (s:=⟨g1,g,d,tk+1,os⟩) Y (by simp) fun g2 z2 s2 => ?_)
 have Z:GZ z g1 g2:=s2;have Z2:Ln g2 z i ((k:Int)+1) old:=z2;clear s2 z2;refine e6 (m:=setField (.ref z) 4 .none) (Gd (s:=⟨g2,g,d,tk+1,os⟩) Z2 (by simp) fun g3 z3 s3 => ?_)
 have S3:GZ z g2 g3:=s3;have Z3:Ln g3 z i ((k:Int)+1) old:=z3;clear s3 z3;refine e6 (m:=newTuple [.int k tk,x]) (LP ?_);have G:Ln (g3.push { cls := .type "tuple",data := .seq #[.int k tk,x] }) z i ((k:Int)+1) old:=h7 _ Z3;have sz:g3.objs.size=B.objs.size:=by rw [S3.1,Z.1,S1.1]
 have zl:z < B.objs.size:=Fz U;have T4:(g3.push { cls := .type "tuple",data := .seq #[.int k tk,x] }).get? B.objs.size=some { cls := .type "tuple",data := .seq #[.int k tk,x] }:=by rw [<- sz];exact FF _ rfl
 have K4:∀ b o,b≠z->b≠i->B.get? b=some o->(g3.push { cls := .type "tuple",data := .seq #[.int k tk,x] }).get? b=some o:=fun b o bz bi e =>
  h7 _ (S3.extBut b o bz (Z.extBut b o bz (S1.extBut b o bi e)))
 have I4:At t (g3.push { cls := .type "tuple",data := .seq #[.int k tk,x] }) i a (k+1):=i1.up fun o e=>h7 _ (S3.extBut i o j.symm (Z.extBut i o j.symm e));rw [sz];generalize g3.push { cls := .type "tuple",data := .seq #[.int k tk,x] }=F at G T4 K4 I4;refine e6 (m:=ownedTupleIsFree (.ref z)) ?_;unfold ownedTupleIsFree;refine e6 (Gm (s:=⟨F,g,d,tk+1,os⟩) G rfl (x := .none) rfl (hQ ?_));simp only [if_true];refine e6 (H9 (e6 (Gm (s:=⟨F,g,d,tk+1,os⟩) G rfl (x:=old) rfl (e6 (Gd (s:=⟨F,g,d,tk+1,os⟩) G (by simp) fun J z5 s5 => ?_)))))
 have S5:GZ z F J:=s5;have Z5:Ln J z i ((k:Int)+1) x:=z5;clear s5 z5;refine e6 (m:=ownedTupleHandOut (.ref z) (.ref B.objs.size)) ?_;unfold ownedTupleHandOut;refine e6 (Gd (s:=⟨J,g,d,tk+1,os⟩) Z5 (by simp) fun L z6 s6 => ?_)
 have S6:GZ z J L:=s6;have Z6:NJ L z i ((k:Int)+1) x B.objs.size:=z6;clear s6 z6;refine Gd (s:=⟨L,g,d,tk+1,os⟩) Z6 (by simp) fun O z7 s7 => ?_
 have S7:GZ z L O:=s7;have Z7:NJ O z i ((k:Int)+1) x B.objs.size:=z7;clear s7 z7;have up:∀ b o,b≠z->F.get? b=some o->O.get? b=some o:=fun b o bz e=>S7.extBut b o bz (S6.extBut b o bz (S5.extBut b o bz e));exact e6 (LO (hQ ⟨_,rfl,q O Z7 (I4.up fun o e=>up i o j.symm e) (up _ _ (Ih zl) T4) fun b o bz bi e=>up b o bz (K4 b o bz bi e)⟩))
theorem nxt_item {z i a:Addr} {t:Bool} {k:Nat} {xs:Array e7} {x old:e7} {Q:Option e7->h8->Prop} (B:Ln s.heap z i k old) (hi:Zp.At t s.heap i a k) (G:Zp.Sq t s.heap a xs) (hx:xs[k]? = some x) (j:z≠i)
 (q:∀ h',NJ h' z i ((k:Int)+1) x s.heap.objs.size->Zp.At t h' i a (k+1)->h'.get? s.heap.objs.size=some { cls := .type "tuple",data := .seq #[.int k s.toks,x] } ->
   (∀ b o,b≠z->b≠i->s.heap.get? b=some o->h'.get? b=some o)->Q (some (.ref s.heap.objs.size)) { s with heap:=h',toks:=s.toks+1 }) :
 FG (model prog w) A (J8 (.ref z)) Q E s:=by
 have ty:s.TypeIs (.ref z) "enumerate" := ⟨_,B,rfl⟩;unfold J8;exact e6 (J0 (Ga (name:=q7 "__next__") ty Iv (Gq Iv ty Lo
  (Bt B hi G hx j fun h' a1 a2 J L=>hQ (q h' a1 a2 J L)) (L5 _))))
theorem nxt_end {z i a:Addr} {t:Bool} {k:Nat} {xs:Array e7} {old:e7} {Q:Option e7->h8->Prop} (B:A.handled=none) (j:Ln s.heap z i k old) (hi:Zp.At t s.heap i a k) (G:Zp.Sq t s.heap a xs) (hx:xs[k]? = none)
 (q:∀ h',NY i s.heap h'->Q none { s with heap:=h' }):FG (model prog w) A (J8 (.ref z)) Q E s:=by
 have ty:s.TypeIs (.ref z) "enumerate" := ⟨_,j,rfl⟩;unfold J8;refine e6 (J0 (Ga (name:=q7 "__next__") ty Iv (Gq Iv ty Lo ?_ (L5 _))));refine e6 (m:=field (.ref z) 2) (Gm j rfl (x := .ref i) rfl (e6 (Zp.nx_end B hi G hx fun h' x he hs => ?_)));obtain ⟨o,ho,J⟩:=hs;exact e6 (JH (T := "StopIteration") (b:=true) ⟨o,ho,J⟩ LQ (hQ (q _ he)))
open AutoSeq1 (wpAny_loadPart') in
theorem zw (l:Addr) (items:Array e7) (n:Nat) (dct:Option Addr) (sl:Array (Option e7)) :
 Meets (IA.«enumerate.__new__» ⟨[.type "enumerate", .ref l],[]⟩) (fun _ R s=>s.heap.get? l=some { cls := .type "tuple",dict:=dct,data := .seq items n,slots:=sl } /\
  R (.ok (.ret (.ref (s.heap.push (Zp.itO true l)).objs.size))) { s with heap:=(s.heap.push (Zp.itO true l)).push { cls := .type "enumerate",data := .fields #[.none, .bool false, .ref s.heap.objs.size,Lf 0, .none, .none] } }) :=
 .of_wp fun prog w A R s h=>by
  obtain ⟨B,g,d,tk,os⟩:=s;obtain ⟨j,h⟩:=h;have q:=sub_enumerate;have z:Ka (Ie ⟨B,g,d,tk,os⟩) l items:=⟨_,j,rfl,n,rfl⟩
  wp_walk using Ir j
  refine wpAny_stack_any fun st=>hQ ?_
  split
  ·rename_i c _ _ _ _ _
   cases (c==GF "enumerate") <;> (wp_walk using Ir j,Ha z;exact ⟨_,rfl,h⟩)
  ·wp_walk using Ir j,Ha z
   exact ⟨_,rfl,h⟩
theorem call_enum {t:Bool} {l:Addr} {items:Array e7} {Q:e7->h8->Prop} (B:Zp.Sq t s.heap l items)
 (q:∀ h',Ln h' (s.heap.objs.size+1) s.heap.objs.size 0 .none->Zp.At t h' s.heap.objs.size l 0->(∀ b o,s.heap.get? b=some o->h'.get? b=some o)->Q (.ref (s.heap.objs.size+1)) { s with heap:=h' }) :
 FG (model prog w) A (call (.type "enumerate") [.ref l]) Q E s:=by
 cases t with
 | false=>exact call_enumerate_list B fun h' a b _ k=>q h' a b k
 | true =>
   obtain ⟨⟨c,dct,dt,sl⟩,J,L,n,hd⟩:=B;have j:c = .type "tuple" := L;have z:dt = .seq items n:=hd;subst j z;refine callType_new F.called_enumerate (by decide) (F.typeCall_enumerate_1 _) (F.newCall_enumerate_1 _) (fun obj=>F.args_object_init_2 obj _) F.entry_enumerate_new (zw l items n dct sl) ⟨J, ?_⟩
   have G:(s.heap.push (Zp.itO true l)).objs.size=s.heap.objs.size+1:=Gx ..;have e:((s.heap.push (Zp.itO true l)).push { cls := .type "enumerate",data := .fields #[.none, .bool false, .ref s.heap.objs.size,Lf 0, .none, .none] }).get? (s.heap.push (Zp.itO true l)).objs.size=some _:=FF _ rfl;rw [G] at e;show _/\_;rw [G];exact ⟨⟨_,e,rfl⟩,q _ e (Zp.at_new (h7 _ (FF _ rfl))) fun b o x=>h7 _ (h7 _ x)⟩
end
end En
open PySem PySem.Spec PyProof.Rows
noncomputable def Ite (K:Frag) (t:Bool) (a:Addr):It :=
 ⟨fun i H => ∃ xs x,SqV K t H a xs/\xs[i]? = some x,
  fun i H v H' => ∃ p x,H p=none/\v = .ref p/\H'=upd H p (.tup [.int (i:Nat),x]) /\ ∀ xs,SqV K t H a xs->xs[i]? = some x,
  fun i H => ∃ xs,SqV K t H a xs/\xs.length<=i⟩
theorem tV {P:FR} {w:G7} {K:Frag} {elts:List Expr} {cx} {pos:Pos} {t:Bool} {z i a:Addr} (B:z≠i) :
 fv P w K (.Tuple elts cx pos) (Ite K t a) [z,i] z (fun k h=>(∃ old,Ln h z i k old)/\Zp.At t h i a k) where
 mem:=by simp
 obj:=fun k h ⟨⟨old,q⟩,hi⟩ c j=>by
  simp only [Fx,FW,or_false] at j
  rcases j with rfl | rfl
  ·exact ⟨_,q,fun v e=>by cases e⟩
  ·exact hi.lt
 keep:=fun k h h' ⟨⟨old,q⟩,hi⟩ kk=>⟨⟨old,kk z (by simp) _ q⟩,hi.up fun o e=>kk i (by simp) o e⟩
 item:=by
  intro X F hw G j k pins s σ H E I hf st hg;subst F hw G;obtain ⟨⟨old,q⟩,hi⟩:=st;obtain ⟨xs,x,qx,ex⟩:=hg;obtain ⟨is,rx,px⟩:=I.sqv qx;obtain ⟨ux,J,rux⟩:=rx.get ex;refine En.nxt_item q hi px (by simpa using J) B fun h1 Y Z p1 L=>⟨_,rfl, ?_⟩
  refine wpAny_letOwnedTupleGo_enum (s := { s with heap:=h1,toks:=s.toks+1 }) Y fun h2 z2 s2 => ?_
  have lt:∀ {c o},s.heap.get? c=some o->c≠s.heap.objs.size:=fun e=>G0 (Fz e);have nz:s.heap.objs.size≠z:=(lt q).symm;have O:∃ o,s.heap.get? i=some o:=hi.lt.imp fun _ h=>h.1;have up:∀ c o,c≠z->h1.get? c=some o->h2.get? c=some o:=fun c o n e=>s2.extBut _ _ n e;have IL:Inv X pins σ (upd H s.heap.objs.size (.tup [.int (k:Nat),x])) { s with heap:=s.heap.push { cls := .type "tuple",data := .seq #[.int k s.toks,ux] },toks:=s.toks+1 } :=
   I.laid (fun b o e=>h7 _ e) (Fy _) ⟨by rw [hH];simp,[.int k s.toks,ux], .cons ⟨_,rfl⟩ (.cons rux .nil),Kf _ _⟩
  have fr:∀ c∈[z,i],c≠s.heap.objs.size:=fun c j=>by
   simp only [Fx,FW,or_false] at j
   rcases j with rfl | rfl
   ·exact lt q
   ·obtain ⟨o,e⟩:=O;exact lt e
  have un:∀ c∈[z,i],upd H s.heap.objs.size (.tup [.int (k:Nat),x]) c=none:=fun c j=>by
   rw [ai (fr c j)];exact (hf c j).1
  have kk:∀ c o,c∉[z,i]->(s.heap.push { cls := .type "tuple",data := .seq #[.int k s.toks,ux] }).get? c=some o->h2.get? c=some o:=fun c o j e=>by
   simp only [Fx,FW,or_false,not_or] at j
   rcases LU e with ⟨rfl,rfl⟩ | e
   ·exact up _ _ nz p1
   ·exact up _ _ j.1 (L c o j.1 j.2 e)
  have I2:Inv X pins σ (upd H s.heap.objs.size (.tup [.int (k:Nat),x])) { s with heap:=h2,toks:=s.toks+1 } :=
   Inv.turnedL (s := { s with heap:=s.heap.push { cls := .type "tuple",data := .seq #[.int k s.toks,ux] },toks:=s.toks+1 }) (h':=h2) (t':=s.toks+1) (fp := [z,i]) IL (fun c j=>⟨un c j,(hf c j).2⟩) kk
  refine ⟨.ref s.heap.objs.size,_,I2,rfl,⟨_,x,I.hok.fresh (Fy _),rfl,rfl,fun xs' q1 => ?_⟩,⟨⟨ux,by simpa using z2⟩,Z.up fun o e=>up _ o B.symm e⟩,un⟩
  rw [I.sqv_inj q1 qx];exact ex
 done:=by
  intro X F hw G j k pins s σ H E I hf st hg;subst F hw G;obtain ⟨⟨old,q⟩,hi⟩:=st;obtain ⟨xs,qx,U⟩:=hg;obtain ⟨is,rx,px⟩:=I.sqv qx;have lx:=rx.length;refine En.nxt_end (I.ok.hd j) q hi px (by simp;lia) fun h1 L=>⟨rfl,I.turnedL (t':=s.toks) hf fun c o j e => ?_⟩
  simp only [Fx,FW,or_false,not_or] at j;exact L c o j.2 e
 self:=fun A k s Q E ⟨⟨old,q⟩,_⟩ h=>Nf q h
section
variable {X:Cx}
noncomputable def D4 (K:Frag) (ta:TA):TI:=fun σ H R=>ta σ H fun vs H1 => ∃ a t xs,vs=[.ref a]/\SqV K t H1 a xs/\R (Ite K t a) H1
theorem zx {elts:List Expr} {cx} {pos p pos':Pos} {a:Expr} {ta:TA} (F:Gl X "enumerate") (hm:X.mg "enumerate" = none) (G:PA X [a] ta) (hs:FP [a] X.env=[(false,eval a X.env)]) :
 PI X (.Tuple elts cx pos) (.Call (.Name "enumerate" p) [a] [] pos') (D4 X.K ta):=by
 intro pins s σ H R I h;refine Call_ (cA I F hm (u := .type "enumerate") boot_enumerate (GH (thn (G pos' pins s σ H _ I h) fun us s1 ⟨vs,H1,j,r1,J⟩ => ?_) hs rfl));obtain ⟨a',t,xs,rfl,qx,q⟩:=J
 cases r1 with
 | cons r rr =>
   cases rr
   cases r
   obtain ⟨is,rx,px⟩:=j.sqv qx;refine En.call_enum px fun h1 z L O => ?_;refine Nf z ?_;refine ⟨_,_,_,_,H1,rfl,j.kept (t':=s1.toks) O,tV (t:=t) (a:=a') (by simp),⟨⟨_,z⟩,L⟩,fun c B => ?_,q⟩
   have hle:s1.heap.objs.size<=c:=by
    simp only [Fx,FW,or_false] at B
    rcases B with rfl | rfl <;> lia
   exact j.fpOk hle (j.hok.fresh hle)
end
end L2
namespace L2
namespace Rv
open PySem PySem.Spec PyProof.Rows
end Rv
open PySem PySem.Spec PyProof.Rows
end L2
namespace L2
open PySem PySem.Spec PyProof.Rows
section
noncomputable abbrev NK:=List (Int ⊕ List Int)
noncomputable def D5 (ks:List Int):Int:=reduceHash (Kz (ks.map hashInt))
noncomputable def D6:Int ⊕ List Int->Int
 | .inl i=>hashInt i
 | .inr ks=>D5 ks
noncomputable def D7 (ks:NK):Int:=reduceHash (Kz (ks.map D6))
noncomputable def yC (a:Addr) (xs:List (NK×Addr×e7)):Heap->Prop:=fun h=>xs.length<=D0/\(a==H4)=false /\
 ∃ o es ep,h.get? a=some o/\o.ExactDict/\o.data = .dict es ep/\es.toList=xs.map (fun x=>(⟨D7 x.1, .ref x.2.1,x.2.2⟩:I0))/\(xs.map (·.1)).Nodup
noncomputable def Kt1 (H:Hp):Int ⊕ List Int->V->Prop
 | .inl i,v=>v = .int i
 | .inr ks,v => ∃ b,v = .ref b/\H b=some (.tup (ks.map V.int))
def Kt (H:Hp) (k:NK) (b:Addr):Prop := ∃ vs,H b=some (.tup vs)/\Gn (Kt1 H) k vs
theorem Kt.keeps {H H':Hp} {k:NK} {b:Addr} (x:Kt H k b) (j:∀ b ys,H b=some (.tup ys)->H' b=some (.tup ys)):Kt H' k b:=by
 obtain ⟨vs,e,p⟩:=x;refine ⟨vs,j _ _ e,ON p fun q v z => ?_⟩
 cases q with
 | inl i=>exact z
 | inr ks=>obtain ⟨c,e,q⟩:=z;exact ⟨c,e,j _ _ q⟩
end
end L2
namespace L2
namespace Mi
open PySem PySem.Spec PyProof.Rows
section
inductive D where
 | non | bl (b:Bool) | int (i:Int) | str (x:Str) | tup (ds:List D) | con (ds:List D) | ref (a:Addr) | fn (x:Str)
inductive O where
 | lst (ds:List D)
 | dct (t:Bool) (kvs:List (D×D))
 | fdc (kvs:List (D×D))
 | dcn (kvs:List (NK×D))
 | fdn (kvs:List (NK×D))
noncomputable abbrev Mem:=Addr->Option O
noncomputable def fz:Option O->Bool
 | some (.lst _)=>false
 | some (.dct _ _)=>false
 | some (.dcn _)=>false
 | _=>true
noncomputable abbrev ak:=List (Option D)
noncomputable def ad (M:Mem) (a:Addr) (o:O):Mem:=fun b=>if b=a then some o else M b
theorem aa {M:Mem} {a:Addr} {o:O}:ad M a o a=some o:=by unfold ad;rw [if_pos rfl]
theorem ab {M:Mem} {a b:Addr} {o:O} (h:b≠a):ad M a o b=M b:=by unfold ad;rw [if_neg h]
def SqF (K:Frag) (H:Hp) (a:Addr) (xs:List V):Prop :=
 (∃ o,H a=some (.frz o (.lst xs))) ∨
  ∃ (o:Obj) (its:Array e7) (n:Nat),K.lookup a=some o/\o.cls = .type "list" /\ o.dict=none/\o.data = .seq its n/\its.size<=D0/\Vals xs its.toList
theorem SqF.sq {K:Frag} {H:Hp} {a:Addr} {xs:List V} (h:SqF K H a xs):SqL K H a xs:=by
 rcases h with ⟨o,h⟩ | h
 ·exact .inl (.inr ⟨o,h⟩)
 ·exact .inr h
noncomputable def fk2:Bool:=true
noncomputable def fk3:Bool:=true
noncomputable def fk:List D->Bool
 | [.int _, .int _, .int _] => true
 | [.tup _,_] => true
 | [.int _,_] => fk2
 | [] => false
 | _=>fk3
def TupR (K:Frag) (H:Hp) (ds:List D) (a:Addr) (vs:List V):Prop:=H a=some (.tup vs)∨(fk ds=false/\SqT K H a vs)
theorem TupR.sq {K:Frag} {H:Hp} {ds:List D} {a:Addr} {vs:List V} (h:TupR K H ds a vs):SqT K H a vs:=h.elim SqT.of (·.2)
mutual
noncomputable def RD (K:Frag) (H:Hp):D->V->Prop
 | .non,v=>v = .non
 | .bl b,v=>v = .bl b
 | .int i,v=>v = .int i
 | .str x,v=>v = .str x
 | .tup ds,v => ∃ a vs,v = .ref a/\TupR K H ds a vs/\RDs K H ds vs
 | .con ds,v => ∃ a vs,v = .ref a/\SqF K H a vs/\RDs K H ds vs
 | .ref a,v=>v = .ref a
 | .fn x,v => ∃ f,v = .ref f/\Jr K GB x=some (some (.ref f))
noncomputable def RDs (K:Frag) (H:Hp):List D->List V->Prop
 | [],vs=>vs=[]
 | d::ds,vs => ∃ v r,vs=v::r/\RD K H d v/\RDs K H ds r
end
structure Stab (H H':Hp):Prop where
 tup:∀ a xs,H a=some (.tup xs)->H' a=some (.tup xs)
 frz:∀ a o u,H a=some (.frz o u)->H' a=some (.frz o u)
theorem Stab.sqT {K:Frag} {H H':Hp} (st:Stab H H') {a:Addr} {xs:List V} (h:SqT K H a xs):SqT K H' a xs:=by
 rcases h with (h | ⟨o,h⟩) | h
 ·exact .inl (.inl (st.tup _ _ h))
 ·exact .inl (.inr ⟨o,st.frz _ _ _ h⟩)
 ·exact .inr h
theorem Stab.sqF {K:Frag} {H H':Hp} (st:Stab H H') {a:Addr} {xs:List V} (h:SqF K H a xs):SqF K H' a xs:=by
 rcases h with ⟨o,h⟩ | h
 ·exact .inl ⟨o,st.frz _ _ _ h⟩
 ·exact .inr h
mutual
theorem RD.mono {K:Frag} {H H':Hp} (st:Stab H H'):∀ {d:D} {v:V},RD K H d v->RD K H' d v
 | .non,_,h=>h
 | .bl _,_,h=>h
 | .int _,_,h=>h
 | .str _,_,h=>h
 | .tup ds,v,h=>by
  unfold RD at h ⊢;obtain ⟨a,vs,e,q,r⟩:=h;exact ⟨a,vs,e,q.imp (st.tup _ _) (fun z=>⟨z.1,st.sqT z.2⟩),RDs.mono st r⟩
 | .con ds,v,h=>by
  unfold RD at h ⊢;obtain ⟨a,vs,e,q,r⟩:=h;exact ⟨a,vs,e,st.sqF q,RDs.mono st r⟩
 | .ref _,_,h=>h
 | .fn _,_,h=>by unfold RD at h ⊢;exact h
theorem RDs.mono {K:Frag} {H H':Hp} (st:Stab H H'):∀ {ds:List D} {vs:List V},RDs K H ds vs->RDs K H' ds vs
 | [],_,h=>h
 | d::ds,vs,h=>by
   unfold RDs at h ⊢;obtain ⟨v,r,e,h1,h2⟩:=h;exact ⟨v,r,e,RD.mono st h1,RDs.mono st h2⟩
end
section
variable {K:Frag} {H H':Hp}
theorem OJ {i:Int} {v:V}:RD K H (.int i) v↔v = .int i:=by unfold RD;exact Oh
theorem OL {b:Bool} {v:V}:RD K H (.bl b) v↔v = .bl b:=by unfold RD;exact Oh
theorem OP {v:V}:RD K H .non v↔v = .non:=by unfold RD;exact Oh
theorem OR {x:Str} {v:V}:RD K H (.str x) v↔v = .str x:=by unfold RD;exact Oh
theorem OK {a:Addr} {v:V}:RD K H (.ref a) v↔v = .ref a:=by unfold RD;exact Oh
theorem OZ {x:Str} {v:V}:RD K H (.fn x) v ↔ ∃ f,v = .ref f/\Jr K GB x=some (some (.ref f)):=by rw [RD]
theorem OW {ds:List D} {v:V}:RD K H (.tup ds) v ↔ ∃ a vs,v = .ref a/\TupR K H ds a vs/\RDs K H ds vs:=by rw [RD]
theorem OU {ds:List D} {v:V} (h:∃ a vs,v = .ref a/\H a=some (.tup vs)/\RDs K H ds vs):RD K H (.tup ds) v:=OW.mpr (let ⟨a,vs,e,h,r⟩:=h; ⟨a,vs,e, .inl h,r⟩)
theorem OQ {ds:List D} {v:V} (h:RD K H (.tup ds) v):∃ a vs,v = .ref a/\SqT K H a vs/\RDs K H ds vs:=let ⟨a,vs,e,h,r⟩:=OW.mp h; ⟨a,vs,e,h.sq,r⟩
theorem P2 {ds:List D} {v:V} (f:fk ds=true) (h:RD K H (.tup ds) v):∃ a vs,v = .ref a/\H a=some (.tup vs)/\RDs K H ds vs:=let ⟨a,vs,e,h,r⟩:=OW.mp h; ⟨a,vs,e,h.elim id fun z=>(by rw [f] at z;cases z.1),r⟩
theorem OO {ds:List D} {v:V}:RD K H (.con ds) v ↔ ∃ a vs,v = .ref a/\SqF K H a vs/\RDs K H ds vs:=by rw [RD]
theorem RDs.nil_iff {vs:List V}:RDs K H [] vs↔vs=[]:=by rw [RDs]
theorem OM {d:D} {ds:List D} {vs:List V}:RDs K H (d::ds) vs ↔ ∃ v r,vs=v::r/\RD K H d v/\RDs K H ds r:=by rw [RDs]
theorem RDs.nil:RDs K H [] []:=RDs.nil_iff.mpr rfl
theorem RDs.cons {d:D} {ds:List D} {v:V} {vs:List V} (h:RD K H d v) (r:RDs K H ds vs):RDs K H (d::ds) (v::vs):=OM.mpr ⟨v,vs,rfl,h,r⟩
theorem RDs.length:∀ {ds:List D} {vs:List V},RDs K H ds vs->vs.length=ds.length
 | [],_,h=>by rw [RDs.nil_iff.mp h];rfl
 | d::ds,_,h=>by
   obtain ⟨v,r,rfl,_,h2⟩:=OM.mp h;simp [RDs.length h2]
theorem RDs.get:∀ {ds:List D} {vs:List V} {i:Nat} {d:D},RDs K H ds vs->ds[i]? = some d -> ∃ v,vs[i]? = some v/\RD K H d v
 | [],_,_,_,_,e=>by simp at e
 | d::ds,_,0,d',h,e=>by
   obtain ⟨v,r,rfl,h1,h2⟩:=OM.mp h;simp at e;subst e;exact ⟨v,rfl,h1⟩
 | d::ds,_,i+1,d',h,e=>by
   obtain ⟨v,r,rfl,h1,h2⟩:=OM.mp h;obtain ⟨u,j,q⟩:=RDs.get (i:=i) (d:=d') h2 (by simpa using e)
   exact ⟨u,by simpa using j,q⟩
theorem RDs.getV {ds:List D} {vs:List V} {i:Nat} {v:V} (h:RDs K H ds vs) (e:vs[i]? = some v):∃ d,ds[i]? = some d/\RD K H d v:=by
 have z:=h.length;have hi:i < vs.length:=(FN.mp e).1;obtain ⟨d,hd⟩:∃ d,ds[i]? = some d:=⟨ds[i]'(by lia),r4 (by lia)⟩
 obtain ⟨u,j,q⟩:=h.get hd;rw [e] at j;cases j;exact ⟨d,hd,q⟩
theorem RDs.append:∀ {ds es:List D} {vs us:List V},RDs K H ds vs->RDs K H es us->RDs K H (ds++es) (vs++us)
 | [],_,_,_,h,q=>by rw [RDs.nil_iff.mp h];exact q
 | d::ds,_,_,_,h,q=>by
   obtain ⟨v,r,rfl,h1,h2⟩:=OM.mp h;exact RDs.cons h1 (RDs.append h2 q)
theorem RDs.take:∀ {ds:List D} {vs:List V} (n:Nat),RDs K H ds vs->RDs K H (ds.take n) (vs.take n)
 | [],_,n,h=>by rw [RDs.nil_iff.mp h];simp;exact RDs.nil
 | _::_,_,0,h=>by simp;exact RDs.nil
 | d::ds,_,n+1,h=>by
   obtain ⟨v,r,rfl,h1,h2⟩:=OM.mp h;exact RDs.cons h1 (RDs.take n h2)
theorem RDs.drop:∀ {ds:List D} {vs:List V} (n:Nat),RDs K H ds vs->RDs K H (ds.drop n) (vs.drop n)
 | [],_,n,h=>by rw [RDs.nil_iff.mp h];simp;exact RDs.nil
 | d::ds,_,0,h=>h
 | d::ds,_,n+1,h=>by
   obtain ⟨v,r,rfl,h1,h2⟩:=OM.mp h;exact RDs.drop n h2
theorem RDs.set:∀ {ds:List D} {vs:List V} (n:Nat) {d:D} {v:V},RD K H d v->RDs K H ds vs->RDs K H (ds.set n d) (vs.set n v)
 | [],_,n,_,_,_,h=>by rw [RDs.nil_iff.mp h];exact RDs.nil
 | d::ds,_,0,_,_,q,h=>by
   obtain ⟨v,r,rfl,h1,h2⟩:=OM.mp h;exact RDs.cons q h2
 | d::ds,_,n+1,_,_,q,h=>by
   obtain ⟨v,r,rfl,h1,h2⟩:=OM.mp h;exact RDs.cons h1 (RDs.set n q h2)
theorem RDs.reverse {ds:List D} {vs:List V} (h:RDs K H ds vs):RDs K H ds.reverse vs.reverse:=by
 induction ds generalizing vs with
 | nil=>rw [RDs.nil_iff.mp h];exact RDs.nil
 | cons d ds ih =>
   obtain ⟨v,r,rfl,h1,h2⟩:=OM.mp h;rw [Iz,Iz];exact (ih h2).append (RDs.cons h1 RDs.nil)
theorem RDs.rep {ds:List D} {vs:List V} (h:RDs K H ds vs):∀ k:Nat,RDs K H (FA k ds).flatten (FA k vs).flatten
 | 0=>RDs.nil
 | k+1=>by
   rw [Gp,Gp,Hd,Hd];exact h.append (h.rep k)
theorem RDs.ints:∀ (ns:List Int),RDs K H (ns.map D.int) (ns.map V.int)
 | [] => RDs.nil
 | n::ns=>RDs.cons (OJ.mpr rfl) (RDs.ints ns)
end
mutual
noncomputable def D.eqb:D->D->Bool
 | .non, .non=>true
 | .bl a, .bl b=>a==b
 | .int a, .int b=>decide (a=b)
 | .str a, .str b=>decide (a=b)
 | .tup a, .tup b=>D.eqbs a b
 | .con a, .con b=>D.eqbs a b
 | .ref a, .ref b=>decide (a=b)
 | .fn a, .fn b=>decide (a=b)
 | _,_=>false
noncomputable def D.eqbs:List D->List D->Bool
 | [],[] => true
 | a::r,b::s=>D.eqb a b&&D.eqbs r s
 | _,_=>false
end
mutual
theorem P1:∀ (a b:D),D.eqb a b=true->a=b
 | .non, .non,_=>rfl
 | .bl a, .bl b,h=>by simp [D.eqb] at h;rw [h]
 | .int a, .int b,h=>by simp [D.eqb] at h;rw [h]
 | .str a, .str b,h=>by simp [D.eqb] at h;rw [h]
 | .tup a, .tup b,h=>by simp [D.eqb] at h;rw [OX a b h]
 | .con a, .con b,h=>by simp [D.eqb] at h;rw [OX a b h]
 | .ref a, .ref b,h=>by simp [D.eqb] at h;rw [h]
 | .fn a, .fn b,h=>by simp [D.eqb] at h;rw [h]
 | .non, .bl _,h=>by simp [D.eqb] at h
 | .non, .int _,h=>by simp [D.eqb] at h
 | .non, .str _,h=>by simp [D.eqb] at h
 | .non, .tup _,h=>by simp [D.eqb] at h
 | .non, .con _,h=>by simp [D.eqb] at h
 | .non, .ref _,h=>by simp [D.eqb] at h
 | .non, .fn _,h=>by simp [D.eqb] at h
 | .bl _, .non,h=>by simp [D.eqb] at h
 | .bl _, .int _,h=>by simp [D.eqb] at h
 | .bl _, .str _,h=>by simp [D.eqb] at h
 | .bl _, .tup _,h=>by simp [D.eqb] at h
 | .bl _, .con _,h=>by simp [D.eqb] at h
 | .bl _, .ref _,h=>by simp [D.eqb] at h
 | .bl _, .fn _,h=>by simp [D.eqb] at h
 | .int _, .non,h=>by simp [D.eqb] at h
 | .int _, .bl _,h=>by simp [D.eqb] at h
 | .int _, .str _,h=>by simp [D.eqb] at h
 | .int _, .tup _,h=>by simp [D.eqb] at h
 | .int _, .con _,h=>by simp [D.eqb] at h
 | .int _, .ref _,h=>by simp [D.eqb] at h
 | .int _, .fn _,h=>by simp [D.eqb] at h
 | .str _, .non,h=>by simp [D.eqb] at h
 | .str _, .bl _,h=>by simp [D.eqb] at h
 | .str _, .int _,h=>by simp [D.eqb] at h
 | .str _, .tup _,h=>by simp [D.eqb] at h
 | .str _, .con _,h=>by simp [D.eqb] at h
 | .str _, .ref _,h=>by simp [D.eqb] at h
 | .str _, .fn _,h=>by simp [D.eqb] at h
 | .tup _, .non,h=>by simp [D.eqb] at h
 | .tup _, .bl _,h=>by simp [D.eqb] at h
 | .tup _, .int _,h=>by simp [D.eqb] at h
 | .tup _, .str _,h=>by simp [D.eqb] at h
 | .tup _, .con _,h=>by simp [D.eqb] at h
 | .tup _, .ref _,h=>by simp [D.eqb] at h
 | .tup _, .fn _,h=>by simp [D.eqb] at h
 | .con _, .non,h=>by simp [D.eqb] at h
 | .con _, .bl _,h=>by simp [D.eqb] at h
 | .con _, .int _,h=>by simp [D.eqb] at h
 | .con _, .str _,h=>by simp [D.eqb] at h
 | .con _, .tup _,h=>by simp [D.eqb] at h
 | .con _, .ref _,h=>by simp [D.eqb] at h
 | .con _, .fn _,h=>by simp [D.eqb] at h
 | .ref _, .non,h=>by simp [D.eqb] at h
 | .ref _, .bl _,h=>by simp [D.eqb] at h
 | .ref _, .int _,h=>by simp [D.eqb] at h
 | .ref _, .str _,h=>by simp [D.eqb] at h
 | .ref _, .tup _,h=>by simp [D.eqb] at h
 | .ref _, .con _,h=>by simp [D.eqb] at h
 | .ref _, .fn _,h=>by simp [D.eqb] at h
 | .fn _, .non,h=>by simp [D.eqb] at h
 | .fn _, .bl _,h=>by simp [D.eqb] at h
 | .fn _, .int _,h=>by simp [D.eqb] at h
 | .fn _, .str _,h=>by simp [D.eqb] at h
 | .fn _, .tup _,h=>by simp [D.eqb] at h
 | .fn _, .con _,h=>by simp [D.eqb] at h
 | .fn _, .ref _,h=>by simp [D.eqb] at h
theorem OX:∀ (a b:List D),D.eqbs a b=true->a=b
 | [],[],_=>rfl
 | a::r,b::s,h=>by
   simp [D.eqbs] at h;rw [P1 a b h.1,OX r s h.2]
 | [],_::_,h=>by simp [D.eqbs] at h
 | _::_,[],h=>by simp [D.eqbs] at h
end
mutual
theorem OY:∀ (a:D),D.eqb a a=true
 | .non=>rfl
 | .bl _=>by simp [D.eqb]
 | .int _=>by simp [D.eqb]
 | .str _=>by simp [D.eqb]
 | .tup a=>by simp [D.eqb,OV a]
 | .con a=>by simp [D.eqb,OV a]
 | .ref _=>by simp [D.eqb]
 | .fn _=>by simp [D.eqb]
theorem OV:∀ (a:List D),D.eqbs a a=true
 | [] => rfl
 | a::r=>by simp [D.eqbs,OY a,OV r]
end
noncomputable instance:DecidableEq D:=fun a b=>if h:D.eqb a b=true then isTrue (P1 a b h) else isFalse fun e=>h (by rw [e];exact OY b)
noncomputable def RKey:D->Key->Prop
 | .int i,k=>k = .inl i
 | .str x,k=>k = .inr x
 | _,_=>False
noncomputable def RKeys:D->List Key->Prop
 | .tup ds,ks=>Gn RKey ds ks
 | _,_=>False
noncomputable def aI (kvs:List (D×D)) (k:D):Option D:=(kvs.find? fun p=>decide (p.1=k)).map (·.2)
noncomputable def bO (kvs:List (D×D)) (k v:D):List (D×D):=if (kvs.any fun p=>decide (p.1=k))=true then kvs.map (fun p=>if p.1=k then (p.1,v) else p) else kvs++[(k,v)]
noncomputable def cN (kvs:List (D×D)) (k:D):List (D×D):=kvs.filter fun p=>decide (p.1≠k)
noncomputable def cv:D->Bool
 | .int _=>true
 | .str _=>true
 | _=>false
noncomputable def dq:D->Bool
 | .tup ds=>ds.all cv&&fk ds
 | _=>false
noncomputable def eQ (t:Bool) (k:D):Bool:=if t then dq k else cv k
theorem dS {k:D} (h:cv k=true):∃ q,RKey k q:=by
 cases k <;> first | (simp [cv] at h;done) | exact ⟨_,rfl⟩
theorem pV:∀ {ds:List D},ds.all cv=true -> ∃ ks,Gn RKey ds ks
 | [],_=>⟨[], .nil⟩
 | d::ds,h=>by
   simp only [Iu,hG] at h;obtain ⟨k,j⟩:=dS h.1;obtain ⟨ks,hs⟩:=pV h.2;exact ⟨k::ks, .cons j hs⟩
theorem pW {k:D} (h:dq k=true):∃ q,RKeys k q:=by
 cases k <;> first | (simp [dq] at h;done) | exact pV (LV.mp h).1
theorem pX {ds:List D} (h:dq (.tup ds)=true):fk ds=true:=(LV.mp h).2
noncomputable def RO (K:Frag) (H:Hp) (a:Addr):O->Prop
 | .lst ds => ∃ vs,H a=some (.lst vs)/\RDs K H ds vs
 | .dct false kvs => ∃ ps,H a=some (.dK ps)/\Gn (fun (p:D×D) (q:Key×V)=>RKey p.1 q.1/\RD K H p.2 q.2) kvs ps
 | .dct true kvs => ∃ ps,H a=some (.dT ps)/\Gn (fun (p:D×D) (q:List Key×V)=>RKeys p.1 q.1/\RD K H p.2 q.2) kvs ps
 | .fdc kvs => ∃ o ps,H a=some (.frz o (.dT ps))/\Gn (fun (p:D×D) (q:List Key×V)=>RKeys p.1 q.1/\RD K H p.2 q.2) kvs ps
 | .dcn kvs => ∃ xs,H a=some (.ext (yC a xs))/\Gn (fun (p:NK×D) (q:NK×Addr×e7)=>p.1=q.1/\Kt H q.1 q.2.1 /\ ∃ v,RelV v q.2.2/\RD K H p.2 v) kvs xs
 | .fdn kvs => ∃ o xs,H a=some (.frz o (.ext (yC a xs)))/\Gn (fun (p:NK×D) (q:NK×Addr×e7)=>p.1=q.1/\Kt H q.1 q.2.1 /\ ∃ v,RelV v q.2.2/\RD K H p.2 v) kvs xs
def RM (K:Frag) (M:Mem) (H:Hp):Prop := ∀ a o,M a=some o->RO K H a o
def RS (K:Frag) (H:Hp) (σ:St) (ρ:ak):Prop := σ.length = ρ.length /\ ∀ (i:Nat) (d:D), ρ[i]? = some (some d) -> ∃ v, σ[i]? = some (some v)/\RD K H d v
structure Ext (M:Mem) (H:Hp) (M':Mem) (H':Hp):Prop where
 kp:∀ a o,fz (M a)=true->H a=some o->H' a=some o
 nw:∀ a o,fz (M a)=true->H a=some o->M' a=M a
section
variable {K:Frag} {M M' M'':Mem} {H H' H'':Hp}
theorem Ext.keep (x:Ext M H M' H') (a:Addr) (o:HO) (n:M a=none) (e:H a=some o):H' a=some o:=x.kp a o (by rw [n];rfl) e
theorem Ext.new (x:Ext M H M' H') (a:Addr) (o:HO) (n:M a=none) (e:H a=some o):M' a=none:=(x.nw a o (by rw [n];rfl) e).trans n
theorem Ext.refl:Ext M H M H:=⟨fun _ _ _ h=>h,fun _ _ _ _=>rfl⟩
theorem Ext.trans (a:Ext M H M' H') (b:Ext M' H' M'' H''):Ext M H M'' H'' :=
 ⟨fun c o n h=>b.kp c o (by rw [a.nw c o n h];exact n) (a.kp c o n h),fun c o n h=>(b.nw c o (by rw [a.nw c o n h];exact n) (a.kp c o n h)).trans (a.nw c o n h)⟩
theorem RM.mut (r:RM K M H) {a:Addr} {o:O} (h:M a=some o):∃ ho,H a=some ho/\(∀ xs,ho ≠ .tup xs)/\(fz (some o)=false->Mut (some ho) /\ ∀ ob u,ho ≠ .frz ob u):=by
 have q:=r a o h
 cases o with
 | lst ds =>
   obtain ⟨vs,e,_⟩:=q;exact ⟨_,e,fun _ z=>(by cases z),fun _=>⟨trivial,fun _ _ z=>(by cases z)⟩⟩
 | dct t kvs =>
   cases t with
   | false=>obtain ⟨ps,e,_⟩:=q;exact ⟨_,e,fun _ z=>(by cases z),fun _=>⟨trivial,fun _ _ z=>(by cases z)⟩⟩
   | true=>obtain ⟨ps,e,_⟩:=q;exact ⟨_,e,fun _ z=>(by cases z),fun _=>⟨trivial,fun _ _ z=>(by cases z)⟩⟩
 | fdc kvs=>obtain ⟨ob,ps,e,_⟩:=q;exact ⟨_,e,fun _ z=>(by cases z),fun z=>(by cases z)⟩
 | fdn kvs=>obtain ⟨ob,ps,e,_⟩:=q;exact ⟨_,e,fun _ z=>(by cases z),fun z=>(by cases z)⟩
 | dcn kvs=>obtain ⟨xs,e,_⟩:=q;exact ⟨_,e,fun _ z=>(by cases z),fun _=>⟨trivial,fun _ _ z=>(by cases z)⟩⟩
theorem RM.fzT (r:RM K M H) {a:Addr} {xs:List V} (e:H a=some (.tup xs)):M a=none:=by
 cases q:M a with
 | none=>rfl
 | some o =>
   obtain ⟨ho,j,z,_⟩:=r.mut q;rw [e] at j;cases j;exact absurd rfl (z xs)
theorem RM.fzF (r:RM K M H) {a:Addr} {ob:Obj} {u:HO} (e:H a=some (.frz ob u)):fz (M a)=true:=by
 cases q:M a with
 | none=>rfl
 | some o =>
   obtain ⟨ho,j,_,B⟩:=r.mut q;rw [e] at j;cases j
   cases z:fz (some o) with
   | true=>rfl
   | false=>exact absurd rfl ((B z).2 ob u)
theorem RM.out (r:RM K M H) {a:Addr} (h:H a=none):M a=none:=by
 cases e:M a with
 | none=>rfl
 | some o =>
   obtain ⟨ho,q,_⟩:=r.mut e;rw [h] at q;cases q
theorem Ext.stab (r:RM K M H) (x:Ext M H M' H'):Stab H H' where
 tup:=fun a xs e=>x.keep a _ (r.fzT e) e
 frz:=fun a o u e=>x.kp a _ (r.fzF e) e
theorem RS.mono (st:Stab H H') {σ:St} {ρ:ak} (h:RS K H σ ρ):RS K H' σ ρ :=
 ⟨h.1,fun i d e=>let ⟨v,q,r⟩:=h.2 i d e; ⟨v,q,r.mono st⟩⟩
theorem RS.set {σ:St} {ρ:ak} (h:RS K H σ ρ) (i:Nat) {d:D} {v:V} (r:RD K H d v):RS K H (σ.set i (some v)) (ρ.set i (some d)):=by
 refine ⟨by simp [h.1],fun j e q => ?_⟩
 by_cases hij:i=j
 ·subst hij;have hi:i < ρ.length:=by
   have:=(FN.mp q).1;simpa using this
  rw [Ig hi] at q
  cases q
  exact ⟨v,by rw [Ig (by rw [h.1];exact hi)],r⟩
 ·rw [JQ hij] at q ⊢;exact h.2 j e q
noncomputable def gR (fr:List (Option Nat)) (ρ:ak):ak:=fr.map fun o=>o.bind fun j=>(ρ[j]?).join
theorem RS.inh {σ:St} {ρ:ak} (h:RS K H σ ρ) (fr:List (Option Nat)):RS K H (inh fr σ) (gR fr ρ):=by
 refine ⟨by simp [L2.inh,gR],fun i d e => ?_⟩
 unfold gR at e;unfold L2.inh;rw [FK] at e ⊢
 cases q:fr[i]? with
 | none=>rw [q] at e;cases e
 | some o =>
   rw [q] at e
   cases o with
   | none=>cases e
   | some j =>
     have e':some ((ρ[j]?).join)=some (some d):=e
     cases q' : ρ[j]? with
     | none=>rw [q'] at e';cases e'
     | some w =>
       rw [q'] at e'
       cases e'
       obtain ⟨v,v1,v2⟩:=h.2 j d q';exact ⟨v,by simp [v1],v2⟩
theorem RO.mono (st:Stab H H') {a:Addr} {o:O} (h:RO K H a o) (e:∀ ho,H a=some ho->H' a=some ho):RO K H' a o:=by
 cases o with
 | lst ds=>obtain ⟨vs,q,r⟩:=h;exact ⟨vs,e _ q,r.mono st⟩
 | dct t kvs =>
   cases t with
   | false=>obtain ⟨ps,q,r⟩:=h;exact ⟨ps,e _ q,ON r fun _ _ z=>⟨z.1,z.2.mono st⟩⟩
   | true=>obtain ⟨ps,q,r⟩:=h;exact ⟨ps,e _ q,ON r fun _ _ z=>⟨z.1,z.2.mono st⟩⟩
 | fdc kvs=>obtain ⟨ob,ps,q,r⟩:=h;exact ⟨ob,ps,e _ q,ON r fun _ _ z=>⟨z.1,z.2.mono st⟩⟩
 | fdn kvs=>obtain ⟨ob,xs,q,r⟩:=h;exact ⟨ob,xs,e _ q,ON r fun _ _ ⟨j,B,v,F,G⟩=>⟨j,B.keeps st.tup,v,F,G.mono st⟩⟩
 | dcn kvs=>obtain ⟨xs,q,r⟩:=h;exact ⟨xs,e _ q,ON r fun _ _ ⟨j,B,v,F,G⟩=>⟨j,B.keeps st.tup,v,F,G.mono st⟩⟩
theorem RM.new {p:Addr} {ho:HO} (r:RM K M H) (n:H p=none):RM K M (upd H p ho):=fun a o e=>by
 have ne:a≠p:=fun z=>by subst z;obtain ⟨_,q,_⟩:=r.mut e;rw [n] at q;cases q
 refine (r a o e).mono ⟨fun b xs q => ?_,fun b o u q => ?_⟩ fun j q=>by rw [ai ne];exact q
 ·rw [ai (aU q n)];exact q
 ·rw [ai (aU q n)];exact q
theorem OS {p:Addr} {ho:HO} (n:H p=none):Ext M H M (upd H p ho):=⟨fun a o _ e=>by rw [ai (aU e n)];exact e,fun _ _ _ _=>rfl⟩
theorem RM.lay {p:Addr} {ho:HO} {o:O} (r:RM K M H) (n:H p=none) (h:RO K (upd H p ho) p o):RM K (ad M p o) (upd H p ho):=fun a o' e=>by
 by_cases z:a=p
 ·subst z;rw [aa] at e;cases e;exact h
 ·rw [ab z] at e;exact r.new n a o' e
theorem Ext.lay {p:Addr} {ho:HO} {o:O} (n:H p=none):Ext M H (ad M p o) (upd H p ho) :=
 ⟨fun a u _ e=>by rw [ai (aU e n)];exact e,fun a u m e=>by rw [ab (aU e n)]⟩
theorem RM.put {p:Addr} {ho:HO} {o o0:O} (r:RM K M H) (m:M p=some o0) (h:RO K (upd H p ho) p o) (w:fz (some o0)=false:=by rfl):RM K (ad M p o) (upd H p ho):=fun a o' e=>by
 by_cases z:a=p
 ·subst z;rw [aa] at e;cases e;exact h
 ·rw [ab z] at e;obtain ⟨J,j,B,F⟩:=r.mut m;refine (r a o' e).mono ⟨fun b xs q => ?_,fun b o u q => ?_⟩ fun G q=>by rw [ai z];exact q
  ·rw [ai (fun z=>by subst z;rw [j] at q;cases q;exact B xs rfl)];exact q
  ·rw [ai (fun z=>by subst z;rw [j] at q;cases q;exact (F w).2 o u rfl)];exact q
theorem Ext.put {p:Addr} {ho:HO} {o o0:O} (m:M p=some o0) (w:fz (some o0)=false:=by rfl):Ext M H (ad M p o) (upd H p ho) :=
 ⟨fun a u n e=>by rw [ai (fun z=>by subst z;rw [m,w] at n;cases n)];exact e,fun a u n e=>ab (fun z=>by subst z;rw [m,w] at n;cases n)⟩
theorem RM.stabPut {p:Addr} {ho:HO} {o0:O} (r:RM K M H) (m:M p=some o0) (w:fz (some o0)=false:=by rfl):Stab H (upd H p ho):=(Ext.put (o:=o0) (ho:=ho) m w).stab r
end
noncomputable abbrev QD:=D->Mem->Prop
noncomputable abbrev TEd:=ak->Mem->QD->Prop
noncomputable abbrev TTd:=ak->Mem->(Bool->Mem->Prop)->Prop
noncomputable abbrev TAd:=ak->Mem->(List D->Mem->Prop)->Prop
structure b3 where
 nx:ak->Mem->Prop
 rt:QD
 bk:ak->Mem->Prop:=fun _ _=>False
 ct:ak->Mem->Prop:=fun _ _=>False
noncomputable abbrev TSd:=b3->ak->Mem->Prop
def ae (T:TEd):Prop := ∀ ρ M Q Q',(∀ d M',Q d M'->Q' d M')->T ρ M Q->T ρ M Q'
def aE (T:TTd):Prop := ∀ ρ M Q Q',(∀ d M',Q d M'->Q' d M')->T ρ M Q->T ρ M Q'
def b4 (T:TAd):Prop := ∀ ρ M Q Q',(∀ d M',Q d M'->Q' d M')->T ρ M Q->T ρ M Q'
structure LeD (a b:b3):Prop where
 nx:∀ ρ M,a.nx ρ M->b.nx ρ M
 rt:∀ d M,a.rt d M->b.rt d M
 bk:∀ ρ M,a.bk ρ M->b.bk ρ M
 ct:∀ ρ M,a.ct ρ M->b.ct ρ M
def aF (T:TSd):Prop := ∀ a b ρ M,LeD a b->T a ρ M->T b ρ M
noncomputable def KE' (K:Frag) (M:Mem) (H:Hp) (Q:VK):QD:=fun d M' => ∀ v H',Ext M H M' H'->RM K M' H'->RD K H' d v->Q v H'
noncomputable def KT' (K:Frag) (M:Mem) (H:Hp) (Q:Bool->Hp->Prop):Bool->Mem->Prop:=fun b M' => ∀ H',Ext M H M' H'->RM K M' H'->Q b H'
noncomputable def KA' (K:Frag) (M:Mem) (H:Hp) (Q:List V->Hp->Prop):List D->Mem->Prop:=fun ds M' => ∀ vs H',Ext M H M' H'->RM K M' H'->RDs K H' ds vs->Q vs H'
noncomputable def lE (K:Frag) (T:TEd):TE:=fun σ H Q => ∃ ρ M,RS K H σ ρ /\ RM K M H/\T ρ M (KE' K M H Q)
noncomputable def lT (K:Frag) (T:TTd):TT:=fun σ H Q => ∃ ρ M,RS K H σ ρ /\ RM K M H/\T ρ M (KT' K M H Q)
noncomputable def lA (K:Frag) (T:TAd):TA:=fun σ H Q => ∃ ρ M,RS K H σ ρ /\ RM K M H/\T ρ M (KA' K M H Q)
structure Link (K:Frag) (M:Mem) (H:Hp) (a:b3) (b:bn):Prop where
 nx:∀ ρ M' σ H',Ext M H M' H'->RS K H' σ ρ -> RM K M' H'->a.nx ρ M'->b.nx σ H'
 rt:∀ d M' v H',Ext M H M' H'->RM K M' H'->RD K H' d v->a.rt d M'->b.rt v H'
 bk:∀ ρ M' σ H',Ext M H M' H'->RS K H' σ ρ -> RM K M' H'->a.bk ρ M'->b.bk σ H'
 ct:∀ ρ M' σ H',Ext M H M' H'->RS K H' σ ρ -> RM K M' H'->a.ct ρ M'->b.ct σ H'
noncomputable def lS (K:Frag) (T:TSd):TS:=fun D σ H => ∃ ρ M A,RS K H σ ρ /\ RM K M H/\Link K M H A D/\T A ρ M
theorem Link.ext {K:Frag} {M M':Mem} {H H':Hp} {a:b3} {b:bn} (l:Link K M H a b) (x:Ext M H M' H'):Link K M' H' a b :=
 ⟨fun ρ M2 σ H2 y=>l.nx ρ M2 σ H2 (x.trans y),fun d M2 v H2 y=>l.rt d M2 v H2 (x.trans y),fun ρ M2 σ H2 y=>l.bk ρ M2 σ H2 (x.trans y),fun ρ M2 σ H2 y=>l.ct ρ M2 σ H2 (x.trans y)⟩
theorem PE.imp {X:Cx} {e:Expr} {t t':TE} (h:PE X e t) (i:∀ σ H Q,t' σ H Q->t σ H Q):PE X e t':=fun pins s σ H Q I q=>h pins s σ H Q I (i _ _ _ q)
theorem PT.imp {X:Cx} {e:Expr} {t t':TT} (h:PT X e t) (i:∀ σ H Q,t' σ H Q->t σ H Q):PT X e t':=fun pins s σ H Q I q=>h pins s σ H Q I (i _ _ _ q)
theorem PW.imp {X:Cx} {e:Expr} {t t':TT} (h:PW X e t) (i:∀ σ H Q,t' σ H Q->t σ H Q):PW X e t':=fun wh pins s σ H Q I q=>h wh pins s σ H Q I (i _ _ _ q)
theorem PA.imp {X:Cx} {e:List Expr} {t t':TA} (h:PA X e t) (i:∀ σ H Q,t' σ H Q->t σ H Q):PA X e t':=fun p pins s σ H Q I q=>h p pins s σ H Q I (i _ _ _ q)
theorem PS.imp {X:Cx} {e:Stmt} {t t':TS} (h:PS X e t) (i:∀ D σ H,t' D σ H->t D σ H):PS X e t':=fun pins s σ H D I q=>h pins s σ H D I (i _ _ _ q)
theorem PSs.imp {X:Cx} {e:List Stmt} {t t':TS} (h:PSs X e t) (i:∀ D σ H,t' D σ H->t D σ H):PSs X e t':=fun pins s σ H D I q=>h pins s σ H D I (i _ _ _ q)
end
section
theorem KE'.ext {K:Frag} {M M2 M':Mem} {H H2:Hp} {Q:VK} {d:D} (x:Ext M H M2 H2) (h:KE' K M H Q d M'):KE' K M2 H2 Q d M':=fun v H' y=>h v H' (x.trans y)
theorem KT'.ext {K:Frag} {M M2 M':Mem} {H H2:Hp} {Q:Bool->Hp->Prop} {d:Bool} (x:Ext M H M2 H2) (h:KT' K M H Q d M'):KT' K M2 H2 Q d M':=fun H' y=>h H' (x.trans y)
noncomputable abbrev R2d:=D->D->Mem->QD->Prop
noncomputable abbrev R1d:=D->Mem->QD->Prop
noncomputable abbrev RAd:=List D->Mem->QD->Prop
def aB (r:R2d):Prop := ∀ x y M Q Q',(∀ d M',Q d M'->Q' d M')->r x y M Q->r x y M Q'
def rn (r:R1d):Prop := ∀ x M Q Q',(∀ d M',Q d M'->Q' d M')->r x M Q->r x M Q'
def aR (r:RAd):Prop := ∀ x M Q Q',(∀ d M',Q d M'->Q' d M')->r x M Q->r x M Q'
noncomputable def l2 (K:Frag) (rd:R2d):R2:=fun v u H Q => ∃ x y M,RM K M H/\RD K H x v/\RD K H y u/\rd x y M (KE' K M H Q)
noncomputable def l1 (K:Frag) (rd:R1d):V->Hp->VK->Prop:=fun v H Q => ∃ x M,RM K M H/\RD K H x v/\rd x M (KE' K M H Q)
noncomputable def lR (K:Frag) (rd:RAd):List V->Hp->VK->Prop:=fun vs H Q => ∃ ds M,RM K M H/\RDs K H ds vs/\rd ds M (KE' K M H Q)
noncomputable def lMt (K:Frag) (rd:D->List D->Mem->QD->Prop):V->List V->Hp->VK->Prop:=fun v vs H Q => ∃ x ds M,RM K M H/\RD K H x v/\RDs K H ds vs/\rd x ds M (KE' K M H Q)
noncomputable def dN (i:Nat):TEd:=fun ρ M Q => ∃ d, ρ[i]? = some (some d)/\Q d M
noncomputable def wC (d:D):TEd:=fun _ M Q=>Q d M
noncomputable def wOp (rd:R2d) (ta tb:TEd):TEd:=fun ρ M Q=>ta ρ M fun x M1=>tb ρ M1 fun y M2=>rd x y M2 Q
noncomputable def wUn (rd:R1d) (ta:TEd):TEd:=fun ρ M Q=>ta ρ M fun x M1=>rd x M1 Q
noncomputable def bW:TAd:=fun _ M Q=>Q [] M
noncomputable def b5 (ta:TEd) (tr:TAd):TAd:=fun ρ M Q=>ta ρ M fun x M1=>tr ρ M1 fun xs M2=>Q (x::xs) M2
noncomputable def wAr (rd:RAd) (t:TAd):TEd:=fun ρ M Q=>t ρ M fun ds M1=>rd ds M1 Q
theorem wF {i:Nat}:ae (dN i):=fun _ _ _ _ h ⟨d,e,q⟩=>⟨d,e,h _ _ q⟩
theorem iM {d:D}:ae (wC d):=fun _ _ _ _ h q=>h _ _ q
theorem dU {rd:R2d} {ta tb:TEd} (hr:aB rd) (j:ae ta) (z:ae tb):ae (wOp rd ta tb):=fun ρ M Q Q' h q =>
 j _ _ _ _ (fun x M1 B=>z _ _ _ _ (fun y M2 F=>hr _ _ _ _ _ h F) B) q
theorem zy {rd:R1d} {ta:TEd} (hr:rn rd) (j:ae ta):ae (wUn rd ta):=fun ρ M Q Q' h q=>j _ _ _ _ (fun x M1 z=>hr _ _ _ _ h z) q
theorem az:b4 bW:=fun _ _ _ _ h q=>h _ _ q
theorem am {ta:TEd} {tr:TAd} (j:ae ta) (hr:b4 tr):b4 (b5 ta tr):=fun ρ M Q Q' h q =>
 j _ _ _ _ (fun x M1 z=>hr _ _ _ _ (fun xs M2 B=>h _ _ B) z) q
theorem gd {rd:RAd} {t:TAd} (hr:aR rd) (j:b4 t):ae (wAr rd t):=fun ρ M Q Q' h q=>j _ _ _ _ (fun ds M1 z=>hr _ _ _ _ h z) q
section
variable {X:Cx} {a b:Expr} {ta tb:TEd} {pos:Pos}
theorem Bu {i:Nat} {x:Str} (B:X.N[i]? = some x) (j:Vis X.env.scope x) (hd:(x==("__debug__":Str))=false) (z:(x==("__classdict__":Str))=false):PE X (.Name x pos) (lE X.K (dN i)):=by
 refine PE.imp (AV B j hd z) fun σ H Q h => ?_;obtain ⟨ρ,M,rs,rm,d,e,q⟩:=h;obtain ⟨v,j,rd⟩:=rs.2 i d e;exact ⟨v,j,q v H Ext.refl rm rd⟩
theorem Bv {i:Int} {j:Nat}:PE X (.Constant (.int i) j pos) (lE X.K (wC (.int i))) :=
 PE.imp AW fun σ H Q ⟨ρ,M,rs,rm,q⟩=>q _ H Ext.refl rm (OJ.mpr rfl)
theorem D8 {i:Bool} {j:Nat}:PE X (.Constant (.bool i) j pos) (lE X.K (wC (.bl i))) :=
 PE.imp CD fun σ H Q ⟨ρ,M,rs,rm,q⟩=>q _ H Ext.refl rm (OL.mpr rfl)
theorem Bw {j:Nat}:PE X (.Constant .none j pos) (lE X.K (wC .non)) :=
 PE.imp AX fun σ H Q ⟨ρ,M,rs,rm,q⟩=>q _ H Ext.refl rm (OP.mpr rfl)
theorem By {x:Str} {j:Nat}:PE X (.Constant (.str x) j pos) (lE X.K (wC (.str x))) :=
 PE.imp AY fun σ H Q ⟨ρ,M,rs,rm,q⟩=>q _ H Ext.refl rm (OR.mpr rfl)
theorem gf {K:Frag} {rd:R2d} (hr:aB rd) (ma:ae ta) (mb:ae tb) (σ:St) (H:Hp) (Q:VK) (h:lE K (wOp rd ta tb) σ H Q):tOp (l2 K rd) (lE K ta) (lE K tb) σ H Q:=by
 obtain ⟨ρ,M,rs,rm,q⟩:=h;refine ⟨ρ,M,rs,rm,ma _ _ _ _ (fun x M1 L v H1 G j z => ?_) q⟩;refine ⟨ρ,M1,rs.mono (G.stab rm),j,mb _ _ _ _ (fun y M2 O u H2 J B F => ?_) L⟩;exact ⟨x,y,M2,B,z.mono (J.stab j),F,hr _ _ _ _ _ (fun d M' k=>k.ext (G.trans J)) O⟩
theorem D9 {op:Ji} {rd:R2d} (ho:OpR X (GY op) (l2 X.K rd)) (hr:aB rd) (ma:ae ta) (mb:ae tb) (j:PE X a (lE X.K ta)) (q:PE X b (lE X.K tb)):PE X (.BinOp a op b pos) (lE X.K (wOp rd ta tb)) :=
 PE.imp (CM ho j q) (gf hr ma mb)
theorem Bz {op:CmpOp} {rd:R2d} (ho:OpR X (GA op) (l2 X.K rd)) (hr:aB rd) (ma:ae ta) (mb:ae tb) (j:PE X a (lE X.K ta)) (q:PE X b (lE X.K tb)) (hm:IW op b=false) :
 PE X (.Compare a [op] [b] pos) (lE X.K (wOp rd ta tb)):=PE.imp (zk ho j q hm) (gf hr ma mb)
noncomputable def eS (t:TEd):TTd:=fun ρ M Q=>t ρ M fun x M1 => ∃ k,x = .bl k/\Q k M1
theorem wG {t:TEd} (h:ae t):aE (eS t):=fun ρ M Q Q' i q=>h _ _ _ _ (fun x M1 ⟨k,e,j⟩=>⟨k,e,i _ _ j⟩) q
theorem wJ {K:Frag} {t:TEd} (m:ae t) (σ:St) (H:Hp) (Q:Bool->Hp->Prop) (h:lT K (eS t) σ H Q):yr (lE K t) σ H Q:=by
 obtain ⟨ρ,M,rs,rm,q⟩:=h;refine ⟨ρ,M,rs,rm,m _ _ _ _ (fun x M1 ⟨k,e,B⟩ v H1 F j z => ?_) q⟩;subst e;exact ⟨k,OL.mp z,B H1 F j⟩
theorem BA {op:CmpOp} {rd:R2d} (ho:OpR X (GA op) (l2 X.K rd)) (hr:aB rd) (ma:ae ta) (mb:ae tb) (j:PE X a (lE X.K ta)) (q:PE X b (lE X.K tb)) (hm:IW op b=false) :
 PT X (.Compare a [op] [b] pos) (lT X.K (eS (wOp rd ta tb))) :=
 PT.imp (zm ho j q hm) fun σ H Q h=>by
  have h1:=wJ (dU hr ma mb) σ H Q h;exact gf hr ma mb σ H _ h1
theorem Da {op:UnaryOp} {rd:R1d} (ho:UnR X (unaryOp op) (l1 X.K rd)) (hr:rn rd) (ma:ae ta) (B:PE X a (lE X.K ta)):PE X (.UnaryOp op a pos) (lE X.K (wUn rd ta)) :=
 PE.imp (CN ho B) fun σ H Q ⟨ρ,M,rs,rm,q⟩=>⟨ρ,M,rs,rm,ma _ _ _ _ (fun x M1 F v H1 G j z=>⟨x,M1,j,z,hr _ _ _ _ (fun d M' k=>k.ext G) F⟩) q⟩
theorem Db {rd:R2d} (ho:IxR X (l2 X.K rd)) (hr:aB rd) (ma:ae ta) (mb:ae tb) (j:PE X a (lE X.K ta)) (q:PE X b (lE X.K tb)) (hs:jA b):PE X (.Subscript a b pos) (lE X.K (wOp rd ta tb)) :=
 PE.imp (CU ho j q hs) (gf hr ma mb)
theorem dW:PA X [] (lA X.K bW):=PA.imp iB fun σ H Q ⟨ρ,M,rs,rm,q⟩=>q _ H Ext.refl rm RDs.nil
theorem tW {K:Frag} {tr:TAd} (ma:ae ta) (mr:b4 tr) (σ:St) (H:Hp) (Q:List V->Hp->Prop) (h:lA K (b5 ta tr) σ H Q):yt (lE K ta) (lA K tr) σ H Q:=by
 obtain ⟨ρ,M,rs,rm,q⟩:=h;refine ⟨ρ,M,rs,rm,ma _ _ _ _ (fun x M1 L v H1 G j z => ?_) q⟩;refine ⟨ρ,M1,rs.mono (G.stab rm),j,mr _ _ _ _ (fun xs M2 O vs H2 J B F => ?_) L⟩;exact O (v::vs) H2 (G.trans J) B (RDs.cons (z.mono (J.stab j)) F)
theorem bL {e:Expr} {es:List Expr} {tr:TAd} (ma:ae ta) (mr:b4 tr) (j:PE X e (lE X.K ta)) (hr:PA X es (lA X.K tr)) (hs:FP (e::es) X.env=(false,eval e X.env)::FP es X.env) :
 PA X (e::es) (lA X.K (b5 ta tr)):=PA.imp (cm j hr hs) (tW ma mr)
theorem ba {K:Frag} {rd:RAd} {t:TAd} (hr:aR rd) (mt:b4 t) (σ:St) (H:Hp) (Q:VK) (h:lE K (wAr rd t) σ H Q):tCB (lR K rd) (lA K t) σ H Q:=by
 obtain ⟨ρ,M,rs,rm,q⟩:=h;exact ⟨ρ,M,rs,rm,mt _ _ _ _ (fun ds M1 B vs H1 F j z=>⟨ds,M1,j,z,hr _ _ _ _ (fun d M' k=>k.ext F) B⟩) q⟩
noncomputable def mM:RAd:=fun ds M Q=>ds.length<=D0/\Q (.tup ds) M
noncomputable def jD:RAd:=fun ds M Q=>ds.length<=D0 /\ ∀ p,M p=none->Q (.ref p) (ad M p (.lst ds))
theorem tX:aR mM:=fun _ _ _ _ h ⟨z,q⟩=>⟨z,h _ _ q⟩
theorem tY:aR jD:=fun _ _ _ _ h ⟨z,q⟩=>⟨z,fun p n=>h _ _ (q p n)⟩
theorem cX {K:Frag} {M:Mem} {H:Hp} {Q:VK} {ds:List D} {vs:List V} {p:Addr} (rm:RM K M H) (rd:RDs K H ds vs) (q:KE' K M H Q (.tup ds) M) (n:H p=none):Q (.ref p) (upd H p (.tup vs)):=by
 have x:Ext M H M (upd H p (.tup vs)):=OS n;exact q (.ref p) _ x (rm.new n) (OU ⟨p,vs,rfl,ax,rd.mono (x.stab rm)⟩)
theorem ca {K:Frag} {M:Mem} {H:Hp} {Q:VK} {ds:List D} {vs:List V} {p:Addr} (rm:RM K M H) (rd:RDs K H ds vs) (q:∀ p,M p=none->KE' K M H Q (.ref p) (ad M p (.lst ds))) (n:H p=none):Q (.ref p) (upd H p (.lst vs)):=by
 have x:Ext M H (ad M p (.lst ds)) (upd H p (.lst vs)):=Ext.lay n;have x0:Ext M H M (upd H p (.lst vs)):=OS n;exact q p (rm.out n) (.ref p) _ x (rm.lay n ⟨vs,ax,rd.mono (x0.stab rm)⟩) (OK.mpr rfl)
theorem BB {es:List Expr} {t:TAd} {k:Nat} (mt:b4 t) (h:PA X es (lA X.K t)):PE X (.Tuple es k pos) (lE X.K (wAr mM t)) :=
 PE.imp (tE h) fun σ H Q ⟨ρ,M,rs,rm,q⟩=>⟨ρ,M,rs,rm,mt _ _ _ _ (fun ds M1 ⟨z,F⟩ vs H1 G B j=>⟨by rw [j.length];exact z,fun p n=>cX B j (F.ext G) n⟩) q⟩
theorem BC {es:List Expr} {t:TAd} (mt:b4 t) (h:PA X es (lA X.K t)):PE X (.List es pos) (lE X.K (wAr jD t)) :=
 PE.imp (Bk h) fun σ H Q ⟨ρ,M,rs,rm,q⟩=>⟨ρ,M,rs,rm,mt _ _ _ _ (fun ds M1 ⟨z,F⟩ vs H1 G B j=>⟨by rw [j.length];exact z,fun p n=>ca B j (fun p' n'=>(F p' n').ext G) n⟩) q⟩
end
end
end Mi
end L2
namespace L2
open PySem PySem.Spec PyProof.Rows
section
section
variable {X:Cx}
theorem fF:∀ {ns:List Int} {ys:List e7},CarriedAll ys (ns.map PyData.int)->Vals (ns.map V.int) ys
 | [],ys,h=>by cases h;exact .nil
 | n::ns,ys,h=>by
   rw [FL] at h
   cases h with
   | cons h1 h2 =>
     refine .cons ?_ (fF h2)
     cases h1
     exact ⟨_,rfl⟩
theorem zz {e:Expr} {te:TE} {p p2 pos j:Pos} (U:X.calm=true) (he:PE X e te) (Y:Gl X "list") (hm:X.mg "list" = none) (G:Gl X "range") (J:X.mg "range" = none)
 (hs:FP [e] X.env=[(false,eval e X.env)]) :
 PE X (.Call (.Name "list" p) [.Call (.Name "range" p2) [e] [] j] [] pos) (fun σ H Q=>te σ H fun x H1 => ∃ n:Nat,x = .int (n:Nat)/\n<=1000000 /\ ∀ q,H1 q=none->Q (.ref q) (upd H1 q (.lst ((Gc n).map fun i=>V.int (i:Nat))))):=by
 intro pins s σ H Q I h;refine HE (cA I Y hm (u := .type "list") (by decide +kernel) ?_ (by decide) (by decide))
 refine GH ?_ rfl rfl;refine Ja ?_;refine HE (cA I G J (u := .type "range") boot_range ?_ (by decide) (by decide))
 refine GH ?_ (by rw [hs];rfl) rfl
 rw [hs];refine Ja (thn (he pins s σ H _ I h) fun u s1 ⟨x,H1,B,r1,Z⟩ => ?_);obtain ⟨n,rfl,hn,q⟩:=Z;obtain ⟨t,rfl⟩:=r1;refine Jm ?_;refine call_range_1 (Jm ?_);have I2:Inv X pins σ H1 { s1 with heap:=s1.heap.push { cls := .type "range",data := .fields #[.int 0 s1.toks, .int (n:Nat) t, .int 1 (s1.toks+1)] },toks:=s1.toks+1+1 }:=B.kept (t':=s1.toks+1+1) fun b ob q=>h7 _ q
 obtain ⟨m,F⟩:=I2.fr;have hsz:Je 0 (n:Nat) 1=((n:Nat):Int):=by
  unfold Je;rw [if_pos (by decide)]
  by_cases h0:(0:Int) < (n:Nat)
  ·rw [if_pos h0];lia
  ·rw [if_neg h0];lia
 refine list_rangeD (news := []) (B.ok.hd U) F (fun _ hp=>by cases hp) (FF _ rfl) ?_ hsz (by lia) fun h' tk ys _ _ kp _ _ np car => ?_
 ·unfold Builtin.Range.small;rw [hsz];have f:∀ z:Int,0<=z->z<=1000001->Kb z=true:=fun z h1 h2=>by
   unfold Kb;simp only [hG,decide_eq_true_eq];lia
  rw [f 0 (by lia) (by lia),f (n:Nat) (by lia) (by lia),f 1 (by lia) (by lia),if_pos (by decide),f ((n:Nat)+(1 - 1)) (by lia) (by lia)]
  simp
 ·have L:=fF car;have er:(rangeInts 0 1 n).map V.int=(Gc n).map fun i=>V.int (i:Nat):=by
   unfold rangeInts;rw [G5];exact IS fun i _=>by simp
  rw [er] at L;obtain ⟨⟨c',e'⟩,_⟩:=np;have O:(s1.heap.push { cls := .type "range",data := .fields #[.int 0 s1.toks, .int (n:Nat) t, .int 1 (s1.toks+1)] }).objs.size=s1.heap.objs.size+1:=Gx ..;have kp':∀ b o,s1.heap.get? b=some o->h'.get? b=some o:=fun b o e=>kp b o (h7 _ e);refine ⟨.ref (s1.heap.push { cls := .type "range",data := .fields #[.int 0 s1.toks, .int (n:Nat) t, .int 1 (s1.toks+1)] }).objs.size,_,B.laid (t':=tk) (o := .lst ((Gc n).map fun i=>V.int (i:Nat))) kp' (by rw [O];lia) ?_,rfl,q _ (B.hok.fresh (by rw [O];lia))⟩
  exact ⟨by rw [gV,Ng,hH];lia,ys,c',L,e'⟩
end
namespace Mi
section
variable {X:Cx}
noncomputable def iN (ta:TEd):TEd:=fun ρ M Q=>ta ρ M fun x M1 => ∃ n:Nat,x = .int (n:Nat)/\n<=1000000 /\ ∀ p,M1 p=none->Q (.ref p) (ad M1 p (.lst ((Gc n).map fun i=>D.int (i:Nat))))
theorem tZ {ta:TEd} (h:ae ta):ae (iN ta):=fun ρ M Q Q' i q=>h _ _ _ _ (fun x M1 ⟨n,e,j,z⟩=>⟨n,e,j,fun p n=>i _ _ (z p n)⟩) q
theorem u4 {K:Frag} {H:Hp} (n:Nat):RDs K H ((Gc n).map fun i=>D.int (i:Nat)) ((Gc n).map fun i=>V.int (i:Nat)):=by
 have:=RDs.ints (K:=K) (H:=H) ((Gc n).map fun i=>((i:Nat):Int));rw [G5,G5] at this;exact this
theorem zA {e:Expr} {ta:TEd} {p p2 pos j:Pos} (m:ae ta) (J:X.calm=true) (he:PE X e (lE X.K ta)) (L:Gl X "list") (hm:X.mg "list" = none) (B:Gl X "range") (F:X.mg "range" = none) (hs:FP [e] X.env=[(false,eval e X.env)]) :
 PE X (.Call (.Name "list" p) [.Call (.Name "range" p2) [e] [] j] [] pos) (lE X.K (iN ta)):=by
 refine PE.imp (zz J he L hm B F hs) fun σ H Q h => ?_;obtain ⟨ρ,M,rs,rm,q⟩:=h;refine ⟨ρ,M,rs,rm,m _ _ _ _ (fun x M1 ⟨n,e,O,U⟩ v H1 Y G rd1 => ?_) q⟩;subst e
 cases OJ.mp rd1
 exact ⟨n,rfl,O,fun p z=>ca G (u4 n) (fun p' n'=>(U p' n').ext Y) z⟩
end
end Mi
end
section
theorem gS:fillsNumberSlot (.type "tuple") "mul" = pure false :=
 PyProof.Rows.fillsNumberSlot_seq (id := "tuple.__mul__") (r:=some (.builtin "tuple.__rmul__")) F.slot_tuple_mul.lookup (by decide +kernel) F.slot_tuple_rmul.lookup (by decide +kernel)
theorem mN:seqRepeat? (.type "tuple")=pure (some (.builtin "tuple.__mul__")):=by
 unfold seqRepeat?;rw [L6 (T := "tuple") (name := "__mul__") (id := "tuple.__mul__") F.slot_tuple_mul.lookup (by decide +kernel),L6 (T := "tuple") (name := "__rmul__") (id := "tuple.__rmul__") F.slot_tuple_rmul.lookup (by decide +kernel)]
 rfl
theorem jE (a:Int) (t:Tok) (l:Addr) (items:Array e7) (n:Nat) (d:Option Addr) (sl:Array (Option e7)) :
 Meets (IA.«int.__rmul__» ⟨[.int a t, .ref l],[]⟩) (fun _ R s=>s.heap.get? l=some { cls := .type "tuple",dict:=d,data := .seq items n,slots:=sl }/\R (.ok (.ret Value.notImplemented)) s) :=
 .of_wp fun prog w A R s h=>by obtain ⟨j,g,d,tk,os⟩:=s;obtain ⟨q,h⟩:=h;wp_walk;exact ⟨_,rfl,h⟩
open AutoSeq1 (wpAny_loadPart') in
theorem u5 (l:Addr) (items:Array e7) (n:Nat) (dd:Option Addr) (sl:Array (Option e7)) (x:Int) (u:Tok) (h1 : -(2 ^ 63)<=x) (h2:x < 2 ^ 63) (B:items.size*x.toNat<=D0) :
 Meets (IA.«tuple.__mul__» ⟨[.ref l, .int x u],[]⟩) (fun _ R s=>s.heap.get? l=some { cls := .type "tuple",dict:=dd,data := .seq items n,slots:=sl } /\
  (if items.isEmpty || x==1 then R (.ok (.ret (.ref l))) s else R (.ok (.ret (.ref s.heap.objs.size))) { s with heap:=s.heap.push { cls := .type "tuple",data := .seq ((FA x.toNat items).foldl (· ++ ·) #[]) } })) :=
 .of_wp fun prog w A R s h=>by
  obtain ⟨U,g,d,tk,os⟩:=s;obtain ⟨q,h⟩:=h;have f1:=AutoSeq1.idx_int;have F:(decide (x < -(2 ^ 63)) || decide (x≥2 ^ 63))=false:=by
   rw [decide_eq_false (by lia),decide_eq_false (by lia)];rfl
  wp_walk using Ir q
  refine wpAny_ite_false (decide_eq_false (by rw [F];decide)) ?_
  dsimp only
  by_cases j:(items.isEmpty || x==1)=true
  ·rw [if_pos j] at h
   wp_walk using Ir q
   exact ⟨_,rfl,h⟩
  ·rw [if_neg j] at h
   wp_walk using Ir q
   simp only [Lw,not_or] at j
   by_cases e2:x<=0
   ·have z:(decide (x<=0) || items.isEmpty)=true:=by rw [decide_eq_true e2];rfl
    rw [if_pos z];have G:x.toNat=0:=by lia
    rw [G] at h
    wp_walk
    exact ⟨_,rfl,h⟩
   ·have z : ¬ (decide (x<=0) || items.isEmpty)=true:=by simp;exact ⟨by lia,by simpa using j.1⟩
    rw [if_neg z];have hx:((items.size:Nat):Int)*x=((items.size*x.toNat:Nat):Int):=by
     rw [Int.natCast_mul,GD (by lia)]
    have hs:D0=16777216:=hH;have J : ¬ ((items.size:Nat):Int)*x > (2 ^ 63 - 1) / 8:=by rw [hx];lia
    rw [if_neg J];have L : ¬ Kr (((items.size:Nat):Int)*x)=true:=by
     rw [hx];unfold Kr;intro O;have Y:=of_decide_eq_true O;lia
    rw [if_neg L]
    wp_walk
    have hsz:((FA x.toNat items).foldl (· ++ ·) #[]).size<=D0:=by
     have:∀ (k:Nat) (a:Array e7),((FA k items).foldl (· ++ ·) a).size=a.size+items.size*k:=by
      intro k;induction k with
      | zero=>intro a;simp
      | succ k ih=>intro a;rw [Gp,Gr,ih,Array.size_append,Nh];lia
     rw [this];simpa using B
    refine wpAny_ite_false (decide_eq_false (Ov.mpr hsz)) ?_
    wp_walk
    exact ⟨_,rfl,h⟩
end
section
section
variable {X:Cx}
noncomputable def yD (K:Frag):R2:=fun x y H Q => ∃ l k xs,x = .ref l/\y = .int k/\SqT K H l xs /\ -(2 ^ 63)<=k/\k < 2 ^ 63/\xs.length*k.toNat<=D0 /\
 ((xs=[]∨k=1)->Q (.ref l) H)/\(¬ (xs=[]∨k=1) -> ∀ p,H p=none->Q (.ref p) (upd H p (.tup (FA k.toNat xs).flatten)))
theorem zB:OpR X (GY .Mult) (yD X.K):=by
 intro pins s σ H x y v u Q I rx ry h;obtain ⟨l,k,xs,rfl,rfl,G,h1,h2,j,J,L⟩:=h
 cases rx
 obtain ⟨t,rfl⟩:=ry;obtain ⟨its,r,O,_⟩:=I.tuple G;have Y:=r.length;obtain ⟨⟨cls,dd,dat,sl⟩,e,B,n,hd⟩:=O;dsimp only at B hd;subst B hd;have hlen:its.toArray.size*k.toNat<=D0:=by rw [D1, <- Y];exact j
 have f0:∀ m:Nat,MQ (fun Z x2=>Z++x2) #[] (FA m its.toArray)=(FA m its).flatten.toArray:=fun m=>by
  have:=fC its m [];rw [J3] at this;exact this
 refine Kw (T := "tuple") (U := "int") (by decide) ⟨_,e,rfl⟩ (fun s'=>Lk s' k t) gS Oc JV mN F.slot_int_index.lookup
  (IF JV (Lk s k t) Nz (N9 _ _) (jE k t l its.toArray n dd sl)
    ⟨e,rfl,⟨_,e,rfl⟩,IF F.slot_tuple_mul ⟨_,e,rfl⟩ F.entry_tuple_mul (F.args_tuple_mul_2 _ _) (u5 l its.toArray n dd sl k t h1 h2 hlen) ⟨e, ?_⟩⟩)
 have hi:(its.toArray.isEmpty || k==1)=true↔(xs=[]∨k=1):=by
  rw [<- r.nil_iff];simp
 split
 ·next c=>exact ⟨.ref l,H,I,rfl,J (hi.mp c)⟩
 ·next c =>
  rw [f0];refine ⟨.ref s.heap.objs.size,_,I.laid (t':=s.toks) (o := .tup (FA k.toNat xs).flatten) (fun b ob q=>h7 _ q) (Fy _) ?_,rfl,L (fun z=>c (hi.mpr z)) _ (I.hok.fresh (Fy _))⟩;exact ⟨by rw [pU,Nat.mul_comm];exact j,_,r.rep k.toNat,Kf _ _⟩
end
end
section
section
variable {X:Cx}
theorem zC:OpR X (GY .Add) (fun x y H Q => ∃ a b ys,x = .ref a/\y = .ref b/\SqT X.K H a []/\SqT X.K H b ys/\Q (.ref b) H):=by
 intro pins s σ H x y v u Q I rx ry h;obtain ⟨a,b,ys,rfl,rfl,U,Y,q⟩:=h
 cases rx
 cases ry
 obtain ⟨its,r1,Z,_⟩:=I.tuple U;obtain ⟨j,r2,p2,_⟩:=I.tuple Y;have e0:its=[]:=r1.nil_iff.mpr rfl;obtain ⟨⟨cls,dd,data,sl⟩,ho,L,n,hd⟩:=id Z;obtain ⟨⟨O,G,data2,J⟩,z,B,n2,hd2⟩:=id p2;simp only at L hd B hd2;subst L hd B hd2;exact N5 ⟨_,ho,rfl⟩ ⟨_,z,rfl⟩ L3 Mu Jo Jf (IY _ _)
  (tuple_addW0 a b its.toArray j.toArray n n2 dd G sl J (by simp [e0])) ⟨ho,z,⟨.ref b,H,I,rfl,q⟩⟩
end
end
end L2
namespace L2
namespace Mi
open PySem PySem.Spec PyProof.Rows
section
def MulOk (i j:Int):Prop:=(-(2 ^ 64) < i/\i < 2 ^ 64)∨(-(2 ^ 64) < j/\j < 2 ^ 64)∨(Ml i<=2 ^ 20/\Ml j<=2 ^ 20)
theorem MulOk.ok {i j:Int} (h:MulOk i j):IntMulOk i j:=by
 rcases h with h | h | h
 ·exact IntMulOk.of_left (KL h.1 h.2)
 ·exact IntMulOk.of_right (KL h.1 h.2)
 ·exact IntMulOk.of_bits h.1 h.2
noncomputable def eT:R2d
 | .int i, .int j,M,Q=>Q (.int (i+j)) M
 | .tup a, .tup b,M,Q=>(a≠[]∨True)/\a.length+b.length<=D0/\Q (.tup (a++b)) M
 | .ref a, .ref b,M,Q => ∃ xs ys,M a=some (.lst xs)/\M b=some (.lst ys)/\xs.length+ys.length<=D0 /\ ∀ p,M p=none->Q (.ref p) (ad M p (.lst (xs++ys)))
 | .str x, .str y,M,Q=>x.length+y.length<=D0/\Q (.str (x++y)) M
 | _,_,_,_=>False
noncomputable def rp:R2d
 | .int i, .int j,M,Q=>Q (.int (i - j)) M
 | _,_,_,_=>False
noncomputable def jF:R2d
 | .int i, .int j,M,Q=>MulOk i j/\Q (.int (i*j)) M
 | .ref a, .int k,M,Q => ∃ xs,M a=some (.lst xs) /\ -(2 ^ 63)<=k/\k < 2 ^ 63/\xs.length*k.toNat<=D0 /\ ∀ p,M p=none->Q (.ref p) (ad M p (.lst (FA k.toNat xs).flatten))
 | .tup ds, .int k,M,Q => -(2 ^ 63)<=k/\k < 2 ^ 63/\ds.length*k.toNat<=D0/\Q (.tup (FA k.toNat ds).flatten) M
 | _,_,_,_=>False
noncomputable def lN:R2d
 | .int i, .int j,M,Q => 0 < j/\j < 2 ^ 256/\Q (.int (i / j)) M
 | _,_,_,_=>False
noncomputable def rq:R2d
 | .int i, .int j,M,Q => 0 < j/\Q (.int (i % j)) M
 | _,_,_,_=>False
noncomputable def rz:R2d
 | .int i, .int j,M,Q => 0<=j/\j<=1000000/\i.natAbs < 2 ^ 64/\Q (.int (i ^ j.toNat)) M
 | _,_,_,_=>False
theorem mP:aB eT:=by
 intro x y M Q Q' h q
 cases x <;> cases y <;> first
  | exact q.elim
  | exact h _ _ q
  | exact ⟨q.1,h _ _ q.2⟩
  | exact ⟨q.1,q.2.1,h _ _ q.2.2⟩
  | (obtain ⟨xs,ys,j,B,z,q⟩:=q;exact ⟨xs,ys,j,B,z,fun p n=>h _ _ (q p n)⟩)
theorem wK:aB rp:=by
 intro x y M Q Q' h q
 cases x <;> cases y <;> first | exact q.elim | exact h _ _ q
theorem wL:aB jF:=by
 intro x y M Q Q' h q
 cases x <;> cases y <;> first
  | exact q.elim
  | exact ⟨q.1,h _ _ q.2⟩
  | exact ⟨q.1,q.2.1,q.2.2.1,h _ _ q.2.2.2⟩
  | (obtain ⟨xs,j,z,B,F,q⟩:=q;exact ⟨xs,j,z,B,F,fun p n=>h _ _ (q p n)⟩)
theorem u6:aB lN:=by
 intro x y M Q Q' h q
 cases x <;> cases y <;> first | exact q.elim | exact ⟨q.1,q.2.1,h _ _ q.2.2⟩
theorem wM:aB rq:=by
 intro x y M Q Q' h q
 cases x <;> cases y <;> first | exact q.elim | exact ⟨q.1,h _ _ q.2⟩
theorem wN:aB rz:=by
 intro x y M Q Q' h q
 cases x <;> cases y <;> first | exact q.elim | exact ⟨q.1,q.2.1,q.2.2.1,h _ _ q.2.2.2⟩
section
variable {X:Cx}
theorem OpR.of {f:e7->e7->Sem e7} {r r':R2} (h:OpR X f r) (i:∀ v u H Q,r' v u H Q->r v u H Q):OpR X f r':=fun pins s σ H x y v u Q I rx ry q=>h pins s σ H x y v u Q I rx ry (i _ _ _ _ q)
theorem IxR.of {r r':R2} (h:IxR X r) (i:∀ v u H Q,r' v u H Q->r v u H Q):IxR X r':=fun a b pins s σ H x y v u Q I rx ry q=>h a b pins s σ H x y v u Q I rx ry (i _ _ _ _ q)
theorem CallR.of {f:e7} {r r':List V->Hp->VK->Prop} (h:CallR X f r) (i:∀ vs H Q,r' vs H Q->r vs H Q):CallR X f r':=fun pins s σ H xs us Q I rx q=>h pins s σ H xs us Q I rx (i _ _ _ q)
theorem Dc {K:Frag} {M:Mem} {H:Hp} {Q:VK} {a b:List D} {v u:V} (rm:RM K M H) (rx:RD K H (.tup a) v) (ry:RD K H (.tup b) u) (q:eT (.tup a) (.tup b) M (KE' K M H Q)):yv K v u H Q ∨ ∃ a b ys,v = .ref a/\u = .ref b/\SqT K H a []/\SqT K H b ys/\Q (.ref b) H:=by
 obtain ⟨a',vs,rfl,j,r1⟩:=OQ rx;obtain ⟨b',us,rfl,z,r2⟩:=OQ ry;obtain ⟨_,F,q⟩:=q;have l1:=r1.length;have l2:=r2.length
 by_cases B:a=[]
 ·subst B;have:vs=[]:=RDs.nil_iff.mp r1;subst this;exact .inr ⟨a',b',us,rfl,rfl,j,z,q _ H Ext.refl rm ry⟩
 refine .inl ⟨a',b',vs,us,rfl,rfl,j,z,fun e=>B (GK.mp (by rw [<- l1,e];rfl)),by lia,fun e => ?_,fun _ p n=>cX rm (r1.append r2) q n⟩
 have eb:b=[]:=GK.mp (by rw [<- l2,e];rfl)
 subst eb;rw [H0] at q;exact q _ H Ext.refl rm rx
theorem mQ:OpR X (GY .Add) (l2 X.K eT):=by
 refine OpR.of (op_add.or ((op_catT.or zC).or (op_cat.or qW))) fun v u H Q h => ?_;obtain ⟨x,y,M,rm,rx,ry,q⟩:=h
 cases x <;> cases y <;> first
  | exact q.elim
  | (cases OJ.mp rx;cases OJ.mp ry;exact .inl ⟨_,_,rfl,rfl,q _ H Ext.refl rm (OJ.mpr rfl)⟩)
  | exact .inr (.inl (Dc rm rx ry q))
  | (cases OK.mp rx;cases OK.mp ry
     obtain ⟨xs,ys,j,B,z,q⟩:=q;obtain ⟨vs,h1,r1⟩:=rm _ _ j;obtain ⟨us,h2,r2⟩:=rm _ _ B;have l1:=r1.length;have l2:=r2.length;refine .inr (.inr (.inl ⟨_,_,vs,us,rfl,rfl,h1,h2,by lia,fun p n=>ca rm (r1.append r2) q n⟩)))
  | (cases OR.mp rx;cases OR.mp ry;exact .inr (.inr (.inr ⟨_,_,rfl,rfl,q.1,q.2 _ H Ext.refl rm (OR.mpr rfl)⟩)))
theorem wP:OpR X (GY .Sub) (l2 X.K rp):=by
 refine OpR.of Be fun v u H Q h => ?_;obtain ⟨x,y,M,rm,rx,ry,q⟩:=h
 cases x <;> cases y <;> first
  | exact q.elim
  | (cases OJ.mp rx;cases OJ.mp ry;exact ⟨_,_,rfl,rfl,q _ H Ext.refl rm (OJ.mpr rfl)⟩)
theorem op_mul_i:OpR X (GY .Mult) (rI MulOk fun i j => .int (i*j)):=opI fun _ _ _ _ _ _ _ z q=>mul_int q z.ok
theorem Dd {K:Frag} {M:Mem} {H:Hp} {Q:VK} {a:List D} {k:Int} {v u:V} (rm:RM K M H) (rx:RD K H (.tup a) v) (ry:RD K H (.int k) u) (q:jF (.tup a) (.int k) M (KE' K M H Q)):yD K v u H Q:=by
 obtain ⟨a',vs,rfl,j,r1⟩:=OQ rx
 cases OJ.mp ry
 obtain ⟨z,B,F,q⟩:=q;have l1:=r1.length;refine ⟨a',k,vs,rfl,rfl,j,z,B,by rw [l1];exact F,fun e => ?_,fun _ p n=>cX rm (r1.rep _) q n⟩
 have ea:(FA k.toNat a).flatten=a:=by
  rcases e with e | e
  ·have:a=[]:=GK.mp (by rw [<- l1,e];rfl)
   subst this;simp
  ·subst e;simp
 rw [ea] at q;exact q _ H Ext.refl rm rx
theorem wQ:OpR X (GY .Mult) (l2 X.K jF):=by
 refine OpR.of (op_mul_i.or (op_rep.or zB)) fun v u H Q h => ?_;obtain ⟨x,y,M,rm,rx,ry,q⟩:=h
 cases x <;> cases y <;> first
  | exact q.elim
  | (cases OJ.mp rx;cases OJ.mp ry;exact .inl ⟨_,_,rfl,rfl,q.1,q.2 _ H Ext.refl rm (OJ.mpr rfl)⟩)
  | (cases OK.mp rx;cases OJ.mp ry
     obtain ⟨xs,j,z,B,F,q⟩:=q;obtain ⟨vs,h1,r1⟩:=rm _ _ j;have l1:=r1.length;exact .inr (.inl ⟨_,_,vs,rfl,rfl,h1,z,B,by rw [l1];exact F,fun p n=>ca rm (r1.rep _) q n⟩))
  | exact .inr (.inr (Dd rm rx ry q))
theorem wU:OpR X (GY .FloorDiv) (rI (fun _ j => 0 < j/\j < 2 ^ 256) fun i j => .int (i / j)):=L2.opI fun i j _ _ _ _ _ z q=>by
 have h1:(0:Int) < j:=z.1;have h2:j < 2 ^ 256:=z.2;have B:j.natAbs.log2 < 256:=(Nat.log2_lt (by lia)).mpr (by lia)
 exact floordiv_int (by lia) (by rw [Int.fdiv_eq_ediv_of_nonneg i (by lia)];exact q) (.inl (PyProof.noPylong_of_log2 (by lia)))
theorem u7:OpR X (GY .FloorDiv) (l2 X.K lN):=by
 refine OpR.of wU fun v u H Q h => ?_;obtain ⟨x,y,M,rm,rx,ry,q⟩:=h
 cases x <;> cases y <;> first
  | exact q.elim
  | (cases OJ.mp rx;cases OJ.mp ry;exact ⟨_,_,rfl,rfl,⟨q.1,q.2.1⟩,q.2.2 _ H Ext.refl rm (OJ.mpr rfl)⟩)
theorem wV:OpR X (GY .Mod) (l2 X.K rq):=by
 refine OpR.of Bf fun v u H Q h => ?_;obtain ⟨x,y,M,rm,rx,ry,q⟩:=h
 cases x <;> cases y <;> first
  | exact q.elim
  | (cases OJ.mp rx;cases OJ.mp ry;exact ⟨_,_,rfl,rfl,q.1,q.2 _ H Ext.refl rm (OJ.mpr rfl)⟩)
theorem wW:OpR X (GY .Pow) (l2 X.K rz):=by
 refine OpR.of Bg fun v u H Q h => ?_;obtain ⟨x,y,M,rm,rx,ry,q⟩:=h
 cases x <;> cases y <;> first
  | exact q.elim
  | (cases OJ.mp rx;cases OJ.mp ry;exact ⟨_,_,rfl,rfl,⟨q.1,q.2.1,q.2.2.1⟩,q.2.2.2 _ H Ext.refl rm (OJ.mpr rfl)⟩)
noncomputable def rB:R1d
 | .int i,M,Q=>Q (.int (-i)) M
 | _,_,_=>False
theorem mR:rn rB:=by
 intro x M Q Q' h q
 cases x <;> first | exact q.elim | exact h _ _ q
theorem UnR.of {f:e7->Sem e7} {r r':V->Hp->VK->Prop} (h:UnR X f r) (i:∀ v H Q,r' v H Q->r v H Q):UnR X f r':=fun pins s σ H x v Q I rx q=>h pins s σ H x v Q I rx (i _ _ _ q)
theorem wX:UnR X (unaryOp .USub) (l1 X.K rB):=by
 refine UnR.of Bh fun v H Q h => ?_;obtain ⟨x,M,rm,rx,q⟩:=h
 cases x <;> first
  | exact q.elim
  | (cases OJ.mp rx;exact ⟨_,rfl,q _ H Ext.refl rm (OJ.mpr rfl)⟩)
noncomputable def aA {α β:Type} (f : α -> Option β):List α -> Option (List β)
 | [] => some []
 | x::xs=>(f x).bind fun y=>(aA f xs).map (y :: ·)
noncomputable def rb:Nat->Mem->D->Option Gw
 | _,_, .non=>some .none
 | _,_, .bl b=>some (.bool b)
 | _,_, .int i=>some (.int i)
 | _,_, .str x=>if Ni x=true then some (.str x) else none
 | n+1,M, .tup ds=>(aA (rb n M) ds).map PyData.tuple
 | n+1,M, .con ds=>(aA (rb n M) ds).map NZ
 | n+1,M, .ref a=>match M a with
   | some (.lst ds)=>(aA (rb n M) ds).map NZ
   | _=>none
 | 0,_, .tup _=>none
 | 0,_, .con _=>none
 | 0,_, .ref _=>none
 | _,_, .fn _=>none
theorem cO {n:Nat} {M:Mem} (ih:∀ d p,rb n M d=some p->p.depth<=n/\p.canLay0=true):∀ {ds:List D} {ps:List Gw},aA (rb n M) ds=some ps->Hx ps<=n/\GJ ps=true
 | [],ps,h=>by
  simp [aA] at h;subst h;exact ⟨GW _,rfl⟩
 | d::ds,ps,h=>by
   simp only [aA] at h
   cases e1:rb n M d with
   | none=>rw [e1] at h;cases h
   | some p =>
     rw [e1] at h
     cases e2:aA (rb n M) ds with
     | none=>simp [e2] at h
     | some qs =>
       simp [e2] at h;subst h;obtain ⟨a1,a2⟩:=ih d p e1;obtain ⟨q,j⟩:=cO ih e2;refine ⟨?_, ?_⟩
       ·show max p.depth (Hx qs)<=n;lia
       ·show (p.canLay0&&GJ qs)=true;rw [a2,j];rfl
theorem bX {M:Mem}:∀ (n:Nat) (d:D) (p:Gw),rb n M d=some p->p.depth<=n/\p.canLay0=true
 | n, .non,p,h=>by simp [rb] at h;subst h;exact ⟨GW _,rfl⟩
 | n, .bl b,p,h=>by simp [rb] at h;subst h;exact ⟨GW _,rfl⟩
 | n, .int b,p,h=>by simp [rb] at h;subst h;exact ⟨GW _,rfl⟩
 | n, .str x,p,h=>by
   simp [rb] at h;obtain ⟨h1,h2⟩:=h;subst h2;exact ⟨GW _,h1⟩
 | 0, .tup _,p,h=>by simp [rb] at h
 | 0, .con _,p,h=>by simp [rb] at h
 | 0, .ref _,p,h=>by simp [rb] at h
 | n, .fn _,p,h=>by simp [rb] at h
 | n+1, .tup ds,p,h=>by
   simp only [rb] at h
   cases e:aA (rb n M) ds with
   | none=>rw [e] at h;cases h
   | some ps =>
     rw [e] at h;cases h;obtain ⟨a,b⟩:=cO (bX n) e;exact ⟨JF a,b⟩
 | n+1, .con ds,p,h=>by
   simp only [rb] at h
   cases e:aA (rb n M) ds with
   | none=>rw [e] at h;cases h
   | some ps =>
     rw [e] at h;cases h;obtain ⟨a,b⟩:=cO (bX n) e;exact ⟨JF a,b⟩
 | n+1, .ref a,p,h=>by
   simp only [rb] at h
   cases e0:M a with
   | none=>rw [e0] at h;cases h
   | some o =>
     rw [e0] at h
     cases o with
     | dct _ _=>cases h
     | fdc _=>cases h
     | dcn _=>cases h
     | fdn _=>cases h
     | lst ds =>
       simp only at h
       cases e:aA (rb n M) ds with
       | none=>rw [e] at h;cases h
       | some ps =>
         rw [e] at h;cases h;obtain ⟨a,b⟩:=cO (bX n) e;exact ⟨JF a,b⟩
theorem cP {K:Frag} {H:Hp} {n:Nat} {M:Mem} {h:Heap} (ih:∀ d p v u,rb n M d=some p->RD K H d v->RelV v u -> ∃ as,Js h u p as) :
 ∀ {ds:List D} {ps:List Gw} {vs:List V} {us:List e7},aA (rb n M) ds=some ps->RDs K H ds vs->Vals vs us -> ∃ as,LW h us ps as
 | [],ps,vs,us,hm,r,rv=>by
  simp [aA] at hm;subst hm;rw [RDs.nil_iff.mp r] at rv
  cases rv
  exact ⟨_, .nil⟩
 | d::ds,ps,vs,us,hm,r,rv=>by
   obtain ⟨v,vr,rfl,r1,r2⟩:=OM.mp r
   cases rv with
   | cons j q =>
     simp only [aA] at hm
     cases e1:rb n M d with
     | none=>rw [e1] at hm;cases hm
     | some p =>
       rw [e1] at hm
       cases e2:aA (rb n M) ds with
       | none=>simp [e2] at hm
       | some qs =>
         simp [e2] at hm;subst hm;obtain ⟨as,ra⟩:=ih d p v _ e1 r1 j;obtain ⟨bs,rbs⟩:=cP ih e2 r2 q;exact ⟨_, .cons ra rbs⟩
theorem bA {pins:List (Addr×Obj)} {σ:St} {H:Hp} {s:h8} {M:Mem} (I:Inv X pins σ H s) (rm:RM X.K M H):∀ (n:Nat) (d:D) (p:Gw) (v:V) (u:e7),rb n M d=some p->RD X.K H d v->RelV v u -> ∃ as,Js s.heap u p as
 | n, .non,p,v,u,h,r,q=>by simp [rb] at h;subst h;cases OP.mp r;cases q;exact ⟨_, .none⟩
 | n, .bl b,p,v,u,h,r,q=>by simp [rb] at h;subst h;cases OL.mp r;cases q;exact ⟨_, .bool b⟩
 | n, .int b,p,v,u,h,r,q=>by simp [rb] at h;subst h;cases OJ.mp r;obtain ⟨t,rfl⟩:=q;exact ⟨_, .int b t⟩
 | n, .str x,p,v,u,h,r,q=>by
   simp [rb] at h;obtain ⟨_,h2⟩:=h;subst h2;cases OR.mp r;obtain ⟨t,rfl⟩:=q;exact ⟨_, .str x t⟩
 | 0, .tup _,p,_,_,h,_,_=>by simp [rb] at h
 | 0, .con _,p,_,_,h,_,_=>by simp [rb] at h
 | 0, .ref _,p,_,_,h,_,_=>by simp [rb] at h
 | n, .fn _,p,_,_,h,_,_=>by simp [rb] at h
 | n+1, .tup ds,p,v,u,h,r,q=>by
   simp only [rb] at h
   cases e:aA (rb n M) ds with
   | none=>rw [e] at h;cases h
   | some ps =>
     rw [e] at h;cases h;obtain ⟨a,vs,rfl,j,rs⟩:=OQ r
     cases q
     obtain ⟨its,rv,⟨o,ho,z,k,hd⟩,_⟩:=I.tuple j;obtain ⟨as,ra⟩:=cP (bA I rm n) e rs rv;exact ⟨_, .tuple ho z hd (by simpa using ra)⟩
 | n+1, .con ds,p,v,u,h,r,q=>by
   simp only [rb] at h
   cases e:aA (rb n M) ds with
   | none=>rw [e] at h;cases h
   | some ps =>
     rw [e] at h;cases h;obtain ⟨a,vs,rfl,j,rs⟩:=OO.mp r
     cases q
     obtain ⟨its,rv,⟨o,k,ho,z,_,hd⟩,_⟩:=I.list j.sq;obtain ⟨as,ra⟩:=cP (bA I rm n) e rs rv;exact ⟨_, .list ho z hd (by simpa using ra)⟩
 | n+1, .ref a,p,v,u,h,r,q=>by
   simp only [rb] at h
   cases e0:M a with
   | none=>rw [e0] at h;cases h
   | some o =>
     rw [e0] at h
     cases o with
     | dct _ _=>cases h
     | fdc _=>cases h
     | dcn _=>cases h
     | fdn _=>cases h
     | lst ds =>
       simp only at h
       cases e:aA (rb n M) ds with
       | none=>rw [e] at h;cases h
       | some ps =>
         rw [e] at h;cases h
         cases OK.mp r
         cases q
         obtain ⟨vs,j,rs⟩:=rm _ _ e0;obtain ⟨its,rv,⟨o,k,ho,z,_,hd⟩,_⟩:=I.list (SqL.of j);obtain ⟨as,ra⟩:=cP (bA I rm n) e rs rv;exact ⟨_, .list ho z hd (by simpa using ra)⟩
noncomputable def wEq:R2d:=fun x y M Q => ∃ p q,rb 16 M x=some p/\rb 16 M y=some q/\Q (.bl (Gh p q)) M
noncomputable def wNe:R2d:=fun x y M Q => ∃ p q,rb 16 M x=some p/\rb 16 M y=some q/\Q (.bl (!PyData.eqv p q)) M
theorem zD:aB wEq:=fun _ _ _ _ _ h ⟨p,q,a,b,c⟩=>⟨p,q,a,b,h _ _ c⟩
theorem zE:aB wNe:=fun _ _ _ _ _ h ⟨p,q,a,b,c⟩=>⟨p,q,a,b,h _ _ c⟩
theorem zF (F:X.A.units+16 < Ib):OpR X (GA .Eq) (l2 X.K wEq):=by
 intro pins s σ H x y v u Q I rx ry h;obtain ⟨d,e,M,rm,rd,re,p,q,j,z,k⟩:=h;obtain ⟨as,ra⟩:=bA I rm _ _ _ _ _ j rd rx;obtain ⟨bs,rb'⟩:=bA I rm _ _ _ _ _ z re ry;obtain ⟨G,p2⟩:=bX _ _ _ j;obtain ⟨J,B⟩:=bX _ _ _ z;exact SeqAt.compareEq_reads ra rb' p2 B (by lia) ⟨.bl _,H,I,rfl,k _ H Ext.refl rm (OL.mpr rfl)⟩
theorem zG (F:X.A.units+16 < Ib):OpR X (GA .NotEq) (l2 X.K wNe):=by
 intro pins s σ H x y v u Q I rx ry h;obtain ⟨d,e,M,rm,rd,re,p,q,j,z,k⟩:=h;obtain ⟨as,ra⟩:=bA I rm _ _ _ _ _ j rd rx;obtain ⟨bs,rb'⟩:=bA I rm _ _ _ _ _ z re ry;obtain ⟨G,p2⟩:=bX _ _ _ j;obtain ⟨J,B⟩:=bX _ _ _ z;exact SeqAt.compareNe_reads ra rb' p2 B (by lia) ⟨.bl _,H,I,rfl,k _ H Ext.refl rm (OL.mpr rfl)⟩
noncomputable def wLt:R2d
 | .int i, .int j,M,Q=>Q (.bl (decide (i < j))) M
 | _,_,_,_=>False
noncomputable def wLe:R2d
 | .int i, .int j,M,Q=>Q (.bl (decide (i<=j))) M
 | _,_,_,_=>False
noncomputable def wGt:R2d
 | .int i, .int j,M,Q=>Q (.bl (decide (j < i))) M
 | _,_,_,_=>False
noncomputable def wGe:R2d
 | .int i, .int j,M,Q=>Q (.bl (decide (j<=i))) M
 | _,_,_,_=>False
theorem zH:aB wLt:=by
 intro x y M Q Q' h q
 cases x <;> cases y <;> first | exact q.elim | exact h _ _ q
theorem zI:aB wGt:=by
 intro x y M Q Q' h q
 cases x <;> cases y <;> first | exact q.elim | exact h _ _ q
theorem zJ:aB wGe:=by
 intro x y M Q Q' h q
 cases x <;> cases y <;> first | exact q.elim | exact h _ _ q
theorem zK:OpR X (GA .Lt) (l2 X.K wLt):=by
 refine OpR.of CO fun v u H Q h => ?_;obtain ⟨x,y,M,rm,rx,ry,q⟩:=h
 cases x <;> cases y <;> first
  | exact q.elim
  | (cases OJ.mp rx;cases OJ.mp ry;exact ⟨_,_,rfl,rfl,q _ H Ext.refl rm (OL.mpr rfl)⟩)
theorem zL:OpR X (GA .Gt) (l2 X.K wGt):=by
 refine OpR.of CP fun v u H Q h => ?_;obtain ⟨x,y,M,rm,rx,ry,q⟩:=h
 cases x <;> cases y <;> first
  | exact q.elim
  | (cases OJ.mp rx;cases OJ.mp ry;exact ⟨_,_,rfl,rfl,q _ H Ext.refl rm (OL.mpr rfl)⟩)
theorem zM:OpR X (GA .GtE) (l2 X.K wGe):=by
 refine OpR.of CQ fun v u H Q h => ?_;obtain ⟨x,y,M,rm,rx,ry,q⟩:=h
 cases x <;> cases y <;> first
  | exact q.elim
  | (cases OJ.mp rx;cases OJ.mp ry;exact ⟨_,_,rfl,rfl,q _ H Ext.refl rm (OL.mpr rfl)⟩)
end
end
section
noncomputable def wIx:R2d:=fun x y M Q=>match x with
 | .tup ds => ∃ i d,y = .int i/\atI ds i=some d/\Q d M
 | .con ds => ∃ i d,y = .int i/\atI ds i=some d/\Q d M
 | .ref a=>(∃ ds i d,M a=some (.lst ds)/\y = .int i/\atI ds i=some d/\Q d M)∨(∃ t kvs d,M a=some (.dct t kvs)/\eQ t y=true/\aI kvs y=some d/\Q d M) ∨ ∃ kvs d,M a=some (.fdc kvs)/\dq y=true/\aI kvs y=some d/\Q d M
 | _=>False
theorem pY:aB wIx:=by
 intro x y M Q Q' h q
 cases x with
 | tup ds=>obtain ⟨i,d,e,j,q⟩:=q;exact ⟨i,d,e,j,h _ _ q⟩
 | con ds=>obtain ⟨i,d,e,j,q⟩:=q;exact ⟨i,d,e,j,h _ _ q⟩
 | ref a =>
   rcases q with ⟨ds,i,d,z,j,B,q⟩ | ⟨t,kvs,d,z,j,B,q⟩ | ⟨kvs,d,z,j,B,q⟩
   ·exact .inl ⟨ds,i,d,z,j,B,h _ _ q⟩
   ·exact .inr (.inl ⟨t,kvs,d,z,j,B,h _ _ q⟩)
   ·exact .inr (.inr ⟨kvs,d,z,j,B,h _ _ q⟩)
 | _=>exact q.elim
theorem mU {K:Frag} {H:Hp} {ds:List D} {vs:List V} {i:Int} {d:D} (r:RDs K H ds vs) (e:atI ds i=some d):∃ v,atI vs i=some v/\RD K H d v:=by
 unfold atI at e ⊢;rw [r.length]
 cases q:ixN ds.length i with
 | none=>rw [q] at e;cases e
 | some j =>
   rw [q] at e;exact r.get e
theorem cY {K:Frag} {H:Hp} {k:D} {q:Key} {v:V} (r:RKey k q) (h:RD K H k v):v=kV q:=by
 cases k <;> first
  | exact r.elim
  | (cases (show q=_ from r);first | exact OJ.mp h | exact OR.mp h)
theorem gT {K:Frag} {H:Hp}:∀ {ds:List D} {ks:List Key} {vs:List V},Gn RKey ds ks->RDs K H ds vs->vs=ks.map kV
 | _,_,vs, .nil,h=>by rw [RDs.nil_iff.mp h];rfl
 | _,_,vs, .cons r t,h=>by
   obtain ⟨v,vr,rfl,h1,h2⟩:=OM.mp h;rw [cY r h1,gT t h2];rfl
theorem RKey.inj {d e:D} {k:Key} (a:RKey d k) (b:RKey e k):d=e:=by
 cases d <;> first
  | exact a.elim
  | (cases e <;> first | exact b.elim | (cases (show k=_ from a);injection (show _=_ from b) with z;rw [z]) | (cases (show k=_ from a);cases (show _=_ from b)))
theorem RKeysP.inj:∀ {d e:List D} {k:List Key},Gn RKey d k->Gn RKey e k->d=e
 | _,_,_, .nil, .nil=>rfl
 | _,_,_, .cons r t, .cons r' t'=>by rw [r.inj r',RKeysP.inj t t']
theorem RKeys.inj {d e:D} {k:List Key} (a:RKeys d k) (b:RKeys e k):d=e:=by
 cases d <;> first
  | exact a.elim
  | (cases e <;> first | exact b.elim | exact congrArg D.tup (RKeysP.inj a b))
theorem RKey.fun {d:D} {k k':Key} (a:RKey d k) (b:RKey d k'):k=k':=by
 cases d <;> first
  | exact a.elim
  | (cases (show k=_ from a);cases (show k'=_ from b);rfl)
theorem RKeysP.fun:∀ {d:List D} {k k':List Key},Gn RKey d k->Gn RKey d k'->k=k'
 | _,_,_, .nil, .nil=>rfl
 | _,_,_, .cons r t, .cons r' t'=>by rw [r.fun r',RKeysP.fun t t']
theorem RKeys.fun {d:D} {k k':List Key} (a:RKeys d k) (b:RKeys d k'):k=k':=by
 cases d <;> first
  | exact a.elim
  | exact RKeysP.fun a b
section
variable {κ:Type} [DecidableEq κ] {K:Frag} {H:Hp} {RK:D -> κ -> Prop} (inj:∀ {d e:D} {k : κ},RK d k->RK e k->d=e) (fn:∀ {d:D} {k k' : κ},RK d k->RK d k'->k=k')
include inj fn
theorem dr {k:D} {q : κ} (j:RK k q):∀ {kvs:List (D×D)} {ps:List (κ × V)},Gn (fun p r=>RK p.1 r.1/\RD K H p.2 r.2) kvs ps ->
 (∀ d,aI kvs k=some d -> ∃ v,b8 ps q=some v/\RD K H d v)/\(aI kvs k=none->b8 ps q=none)
 | _,_, .nil=>⟨fun d e=>by simp [aI] at e,fun _=>rfl⟩
 | _,_, .cons (a:=p) (b:=r) (l₂ := ps) hr t=>by
   obtain ⟨B,F⟩:=dr j t
   by_cases e:p.1=k
   ·have e':r.1=q:=by
     have h1:=hr.1;rw [e] at h1;exact fn h1 j
    refine ⟨fun d he => ?_,fun he => ?_⟩
    ·simp [aI,GP,e] at he;subst he;exact ⟨r.2,eM e',hr.2⟩
    ·simp [aI,GP,e] at he
   ·have e' : ¬ r.1=q:=fun z=>e (by
     have h1:=hr.1;rw [z] at h1;exact inj h1 j)
    have eq1:∀ l:List (D×D),aI (p::l) k=aI l k:=fun l=>by simp [aI,GP,e]
    have eq2:b8 (r::ps) q=b8 ps q:=eN e';refine ⟨fun d he => ?_,fun he => ?_⟩
    ·rw [eq1] at he;rw [eq2];exact B d he
    ·rw [eq1] at he;rw [eq2];exact F he
end
section
variable {X:Cx}
theorem mV {K:Frag} {H:Hp} {a:Addr} {ps:List (List Key×V)} {kvs:List (D×D)} {k:D} {v:V} (B:Rd H a (.dT ps)) (pr:Gn (fun (p:D×D) (q:List Key×V)=>RKeys p.1 q.1/\RD K H p.2 q.2) kvs ps) (ok:dq k=true) (rk:RD K H k v) :
 ∃ o,DGet H a v o/\(∀ d,aI kvs k=some d -> ∃ w,o=some w/\RD K H d w)/\(aI kvs k=none->o=none):=by
 obtain ⟨q,j⟩:=pW ok;obtain ⟨g1,g2⟩:=dr (RK:=RKeys) RKeys.inj RKeys.fun j pr;refine ⟨b8 ps q, ?_,g1,g2⟩
 cases k <;> first
  | exact j.elim
  | (obtain ⟨b,us,rfl,z,ru⟩:=P2 (pX ok) rk
     rw [gT j ru] at z;exact .inr ⟨ps,q,b,B,rfl,z,rfl⟩)
theorem pZ {K:Frag} {M:Mem} {H:Hp} {a:Addr} {t:Bool} {kvs:List (D×D)} {k:D} {v:V} (rm:RM K M H) (e:M a=some (.dct t kvs)) (ok:eQ t k=true) (rk:RD K H k v) :
 ∃ o,DGet H a v o/\(∀ d,aI kvs k=some d -> ∃ w,o=some w/\RD K H d w)/\(aI kvs k=none->o=none):=by
 have ro:=rm a _ e
 cases t with
 | false =>
   obtain ⟨ps,j,pr⟩:=ro;obtain ⟨q,z⟩:=dS (show cv k=true from ok);obtain ⟨g1,g2⟩:=dr (RK:=RKey) RKey.inj RKey.fun z pr;refine ⟨b8 ps q, ?_,g1,g2⟩;rw [cY z rk];exact DGet.k j
 | true =>
   obtain ⟨ps,j,pr⟩:=ro;exact mV (.inl j) pr ok rk
theorem zN (j:X.A.units+1 < Ib):IxR X (fun x y H Q => ∃ a v,x = .ref a/\DGet H a y (some v)/\Q v H):=by
 intro value slice pins s σ H x y v u Q I rx ry h hs;obtain ⟨a,w,rfl,g,q⟩:=h
 cases rx
 have hd:IsD H a:=by
  rcases g with ⟨kvs,k,e,_⟩ | ⟨kvs,k,b,e,_⟩
  ·exact .inl ⟨kvs,e⟩
  ·exact .inr ⟨kvs,e⟩
 obtain ⟨z,_⟩:=mH I hd;exact tail_any z PySem.F.slot_dict_getitem.lookup (tN j I g ry fun w' s' I' r'=>⟨w,H,I',r',q⟩) hs
theorem E7 (G:X.A.units+1 < Ib):IxR X (l2 X.K wIx):=by
 refine IxR.of (ix_list.or (ix_tup.or (zN G))) fun v u H Q h => ?_;obtain ⟨x,y,M,rm,rx,ry,q⟩:=h
 cases x with
 | tup ds =>
   obtain ⟨i,d,rfl,e,q⟩:=q;obtain ⟨a,vs,rfl,j,rs⟩:=OQ rx
   cases OJ.mp ry
   obtain ⟨w,hw,rw'⟩:=mU rs e;exact .inr (.inl ⟨a,vs,i,w,rfl,rfl,j,hw,q w H Ext.refl rm rw'⟩)
 | con ds =>
   obtain ⟨i,d,rfl,e,q⟩:=q;obtain ⟨a,vs,rfl,j,rs⟩:=OO.mp rx
   cases OJ.mp ry
   obtain ⟨w,hw,rw'⟩:=mU rs e;exact .inl ⟨a,vs,i,w,rfl,rfl,j.sq,hw,q w H Ext.refl rm rw'⟩
 | ref a =>
   cases OK.mp rx
   rcases q with ⟨ds,i,d,z,rfl,B,q⟩ | ⟨t,kvs,d,z,F,B,q⟩ | ⟨kvs,d,z,F,B,q⟩
   ·cases OJ.mp ry
    obtain ⟨vs,j,rs⟩:=rm _ _ z;obtain ⟨w,hw,rw'⟩:=mU rs B;exact .inl ⟨a,vs,i,w,rfl,rfl,SqL.of j,hw,q w H Ext.refl rm rw'⟩
   ·obtain ⟨o,g,g1,_⟩:=pZ rm z F ry;obtain ⟨w,rfl,rw'⟩:=g1 d B;exact .inr (.inr ⟨a,w,rfl,g,q w H Ext.refl rm rw'⟩)
   ·obtain ⟨ob,ps,J,pr⟩:=rm _ _ z;obtain ⟨o,g,g1,_⟩:=mV (.inr ⟨ob,J⟩) pr F ry;obtain ⟨w,rfl,rw'⟩:=g1 d B;exact .inr (.inr ⟨a,w,rfl,g,q w H Ext.refl rm rw'⟩)
 | _=>exact q.elim
noncomputable def gU (M:Mem):D->Option Nat
 | .tup ds=>some ds.length
 | .con ds=>some ds.length
 | .ref a=>match M a with
  | some (.lst ds)=>some ds.length
  | _=>none
 | _=>none
noncomputable def eU:RAd:=fun xs M Q => ∃ x n,xs=[x]/\gU M x=some n/\Q (.int n) M
theorem mW:aR eU:=fun _ _ _ _ h ⟨x,n,e,l,q⟩=>⟨x,n,e,l,h _ _ q⟩
theorem RDs.one {K:Frag} {H:Hp} {d:D} {vs:List V} (h:RDs K H [d] vs):∃ v,vs=[v]/\RD K H d v:=by
 obtain ⟨v,r,rfl,h1,h2⟩:=OM.mp h;rw [RDs.nil_iff.mp h2];exact ⟨v,rfl,h1⟩
theorem RDs.two {K:Frag} {H:Hp} {d e:D} {vs:List V} (h:RDs K H [d,e] vs):∃ v u,vs=[v,u]/\RD K H d v/\RD K H e u:=by
 obtain ⟨v,r,rfl,h1,h2⟩:=OM.mp h;obtain ⟨u,rfl,j⟩:=RDs.one h2;exact ⟨v,u,rfl,h1,j⟩
theorem rC:CallR X (.builtin "len") (lR X.K eU):=by
 refine CallR.of wl fun vs H Q h => ?_;obtain ⟨ds,M,rm,rs,x,n,rfl,l,q⟩:=h;obtain ⟨v,rfl,r⟩:=rs.one;refine ⟨v,n,rfl, ?_,q _ H Ext.refl rm (OJ.mpr rfl)⟩
 cases x with
 | tup ds =>
   cases l
   obtain ⟨a,us,rfl,j,ru⟩:=OQ r;exact .inr ⟨us,j,ru.length.symm⟩
 | con ds =>
   cases l
   obtain ⟨a,us,rfl,j,ru⟩:=OO.mp r;exact .inl ⟨us,j.sq,ru.length.symm⟩
 | ref a =>
   cases OK.mp r
   simp only [gU] at l
   cases e:M a with
   | none=>rw [e] at l;cases l
   | some o =>
     rw [e] at l
     cases o with
     | dct _ _=>cases l
     | fdc _=>cases l
     | dcn _=>cases l
     | fdn _=>cases l
     | lst ds =>
       cases l
       obtain ⟨us,j,ru⟩:=rm _ _ e;exact .inl ⟨us,SqL.of j,ru.length.symm⟩
 | _=>cases l
noncomputable def mX:RAd:=fun xs M Q => ∃ i,xs=[.int i]/\Q (.int (if i < 0 then -i else i)) M
noncomputable def lP:RAd:=fun xs M Q => ∃ i j,xs=[.int i, .int j]/\Q (.int (if j > i then j else i)) M
noncomputable def lQ:RAd:=fun xs M Q => ∃ i j,xs=[.int i, .int j]/\Q (.int (if j < i then j else i)) M
noncomputable def mY:RAd:=fun xs M Q=>(∃ i,xs=[.int i]/\Q (.int i) M) ∨ ∃ k,xs=[.bl k]/\Q (.int (if k then 1 else 0)) M
theorem mZ:aR mX:=fun _ _ _ _ h ⟨i,e,q⟩=>⟨i,e,h _ _ q⟩
theorem kC:aR lP:=fun _ _ _ _ h ⟨i,j,e,q⟩=>⟨i,j,e,h _ _ q⟩
theorem kD:aR lQ:=fun _ _ _ _ h ⟨i,j,e,q⟩=>⟨i,j,e,h _ _ q⟩
theorem n6:aR mY:=fun _ _ _ _ h q=>q.elim (fun ⟨i,e,q⟩ => .inl ⟨i,e,h _ _ q⟩) fun ⟨i,e,q⟩ => .inr ⟨i,e,h _ _ q⟩
theorem rD:CallR X (.builtin "abs") (lR X.K mX):=by
 refine CallR.of wk fun vs H Q h => ?_;obtain ⟨ds,M,rm,rs,i,rfl,q⟩:=h;obtain ⟨v,rfl,r⟩:=rs.one
 cases OJ.mp r
 exact ⟨i,rfl,q _ H Ext.refl rm (OJ.mpr rfl)⟩
theorem pc (z:X.calm=true):CallR X (.builtin "max") (lR X.K lP):=by
 refine CallR.of (tq z) fun vs H Q h => ?_;obtain ⟨ds,M,rm,rs,i,j,rfl,q⟩:=h;obtain ⟨v,u,rfl,r1,r2⟩:=rs.two
 cases OJ.mp r1
 cases OJ.mp r2
 exact ⟨i,j,rfl,q _ H Ext.refl rm (OJ.mpr rfl)⟩
theorem ph (z:X.calm=true):CallR X (.builtin "min") (lR X.K lQ):=by
 refine CallR.of (tt z) fun vs H Q h => ?_;obtain ⟨ds,M,rm,rs,i,j,rfl,q⟩:=h;obtain ⟨v,u,rfl,r1,r2⟩:=rs.two
 cases OJ.mp r1
 cases OJ.mp r2
 exact ⟨i,j,rfl,q _ H Ext.refl rm (OJ.mpr rfl)⟩
theorem rE:CallR X (.type "int") (lR X.K mY):=by
 refine CallR.of tw fun vs H Q h => ?_;obtain ⟨ds,M,rm,rs,⟨i,rfl,q⟩ | ⟨i,rfl,q⟩⟩:=h
 ·obtain ⟨v,rfl,r⟩:=rs.one
  cases OJ.mp r
  exact .inl ⟨i,rfl,q _ H Ext.refl rm (OJ.mpr rfl)⟩
 ·obtain ⟨v,rfl,r⟩:=rs.one
  cases OL.mp r
  exact .inr ⟨i,rfl,q _ H Ext.refl rm (OJ.mpr rfl)⟩
noncomputable def au (M:Mem):D->Option (List D)
 | .tup ds=>some ds
 | .con ds=>some ds
 | .ref a=>match M a with
  | some (.lst ds)=>some ds
  | _=>none
 | _=>none
theorem iO {K:Frag} {M:Mem} {H:Hp} {x:D} {ds:List D} {v:V} (rm:RM K M H) (r:RD K H x v) (e:au M x=some ds):∃ p vs,v = .ref p/\(SqL K H p vs∨SqT K H p vs)/\RDs K H ds vs:=by
 cases x with
 | tup es =>
   cases e
   obtain ⟨a,us,rfl,j,ru⟩:=OQ r;exact ⟨a,us,rfl, .inr j,ru⟩
 | con es =>
   cases e
   obtain ⟨a,us,rfl,j,ru⟩:=OO.mp r;exact ⟨a,us,rfl, .inl j.sq,ru⟩
 | ref a =>
   cases OK.mp r
   simp only [au] at e
   cases e0:M a with
   | none=>rw [e0] at e;cases e
   | some o =>
     rw [e0] at e
     cases o with
     | dct _ _=>cases e
     | fdc _=>cases e
     | dcn _=>cases e
     | fdn _=>cases e
     | lst es =>
       cases e
       obtain ⟨us,j,ru⟩:=rm _ _ e0;exact ⟨a,us,rfl, .inl (SqL.of j),ru⟩
 | _=>cases e
noncomputable def rF:RAd:=fun xs M Q => ∃ x ds,xs=[x]/\au M x=some ds /\ ∀ p,M p=none->Q (.ref p) (ad M p (.lst ds))
noncomputable def n9:RAd:=fun xs M Q => ∃ x ds,xs=[x]/\au M x=some ds/\Q (.tup ds) M
theorem kE:aR rF:=fun _ _ _ _ h ⟨x,ds,e,l,q⟩=>⟨x,ds,e,l,fun p n=>h _ _ (q p n)⟩
theorem iP:aR n9:=fun _ _ _ _ h ⟨x,ds,e,l,q⟩=>⟨x,ds,e,l,h _ _ q⟩
theorem pj:CallR X (.type "list") (lR X.K rF):=by
 refine CallR.of mC fun vs H Q h => ?_;obtain ⟨ds,M,rm,rs,x,es,rfl,l,q⟩:=h;obtain ⟨v,rfl,r⟩:=rs.one;obtain ⟨p,us,rfl,sq,ru⟩:=iO rm r l;exact ⟨p,us,rfl,sq,fun l' n=>ca rm ru q n⟩
theorem nc:CallR X (.type "tuple") (lR X.K n9):=by
 refine CallR.of lB fun vs H Q h => ?_;obtain ⟨ds,M,rm,rs,x,es,rfl,l,q⟩:=h;obtain ⟨v,rfl,r⟩:=rs.one
 cases x with
 | tup ds' =>
   cases l
   obtain ⟨a,us,rfl,j,ru⟩:=OQ r;exact ⟨a,us,rfl, .inr ⟨j,q _ H Ext.refl rm r⟩⟩
 | con ds' =>
   cases l
   obtain ⟨a,us,rfl,j,ru⟩:=OO.mp r;exact ⟨a,us,rfl, .inl ⟨j.sq,fun l' n=>cX rm ru q n⟩⟩
 | ref a =>
   cases OK.mp r
   simp only [au] at l
   cases e0:M a with
   | none=>rw [e0] at l;cases l
   | some o =>
     rw [e0] at l
     cases o with
     | dct _ _=>cases l
     | fdc _=>cases l
     | dcn _=>cases l
     | fdn _=>cases l
     | lst es' =>
       cases l
       obtain ⟨us,j,ru⟩:=rm _ _ e0;exact ⟨a,us,rfl, .inl ⟨SqL.of j,fun l' n=>cX rm ru q n⟩⟩
 | _=>cases l
end
end
section
section
variable {X:Cx}
theorem RDs.ints_eq {K:Frag} {H:Hp}:∀ {ns:List Int} {vs:List V},RDs K H (ns.map D.int) vs->vs=ns.map V.int
 | [],_,h=>RDs.nil_iff.mp h
 | n::ns,_,h=>by
   obtain ⟨v,r,rfl,h1,h2⟩:=OM.mp h;rw [OJ.mp h1,RDs.ints_eq h2];rfl
noncomputable def wY (M:Mem):D->Option Bool
 | .non=>some false
 | .bl b=>some b
 | .int i=>some (i != 0)
 | .tup ds=>some (!ds.isEmpty)
 | .con ds=>some (!ds.isEmpty)
 | .ref a=>match M a with
  | some (.lst ds)=>some (!ds.isEmpty)
  | _=>none
 | _=>none
noncomputable def ni (t:TEd):TTd:=fun ρ M Q=>t ρ M fun x M1 => ∃ b,wY M1 x=some b/\Q b M1
theorem wZ {t:TEd} (h:ae t):aE (ni t):=fun ρ M Q Q' i q=>h _ _ _ _ (fun x M1 ⟨k,e,j⟩=>⟨k,e,i _ _ j⟩) q
theorem BD {K:Frag} {M:Mem} {H:Hp} {x:D} {b:Bool} {v:V} (rm:RM K M H) (r:RD K H x v) (e:wY M x=some b):wg K v H b:=by
 have emp:∀ {ds:List D} {vs:List V},RDs K H ds vs->(!ds.isEmpty) = !vs.isEmpty:=fun {ds vs} h=>by
  have l:=h.length
  cases ds <;> cases vs <;> first | rfl | (simp at l)
 cases x with
 | non=>cases e;cases OP.mp r;rfl
 | bl k=>cases e;cases OL.mp r;rfl
 | int i=>cases e;cases OJ.mp r;rfl
 | tup ds =>
   cases e
   obtain ⟨a,vs,rfl,j,rs⟩:=OQ r;exact .inr (.inl ⟨vs,j,emp rs⟩)
 | con ds =>
   cases e
   obtain ⟨a,vs,rfl,j,rs⟩:=OO.mp r;exact .inl ⟨vs,j.sq,emp rs⟩
 | ref a =>
   cases OK.mp r
   simp only [wY] at e
   cases e0:M a with
   | none=>rw [e0] at e;cases e
   | some o =>
     rw [e0] at e
     cases o with
     | dct _ _=>cases e
     | fdc _=>cases e
     | dcn _=>cases e
     | fdn _=>cases e
     | lst ds =>
       cases e
       obtain ⟨vs,j,rs⟩:=rm _ _ e0;exact .inl ⟨vs,SqL.of j,emp rs⟩
 | str _=>cases e
 | fn _=>cases e
variable {a b:Expr} {ta tb:TEd} {pos:Pos}
theorem BE (m:ae ta) (B:PE X a (lE X.K ta)) (he:∀ whole,isTrue a X.env whole=(do let v <- whole;Iw a.pos;holding [v] (truthy v))):PT X a (lT X.K (ni ta)):=by
 refine PT.imp (wj B he) fun σ H Q h => ?_;obtain ⟨ρ,M,rs,rm,q⟩:=h;exact ⟨ρ,M,rs,rm,m _ _ _ _ (fun x M1 ⟨k,e,F⟩ v H1 G j z=>⟨k,BD j z e,F H1 G j⟩) q⟩
noncomputable def iQ (t:TTd):TTd:=fun ρ M Q=>t ρ M fun c M1=>Q (!c) M1
theorem u8 {t:TTd} (h:aE t):aE (iQ t):=fun ρ M Q Q' i q=>h _ _ _ _ (fun c M1 j=>i _ _ j) q
theorem BG {tA:TTd} (m:aE tA) (j:PT X a (lT X.K tA)):PT X (.UnaryOp .Not a pos) (lT X.K (iQ tA)):=by
 refine PT.imp (B1 j) fun σ H Q h => ?_;obtain ⟨ρ,M,rs,rm,q⟩:=h;exact ⟨ρ,M,rs,rm,m _ _ _ _ (fun c M1 z=>z) q⟩
noncomputable def iR (t u:TTd):TTd:=fun ρ M Q=>t ρ M fun c M1=>if c=true then u ρ M1 Q else Q false M1
noncomputable def nj (t u:TTd):TTd:=fun ρ M Q=>t ρ M fun c M1=>if c=true then Q true M1 else u ρ M1 Q
theorem u9 {t u:TTd} (h:aE t) (k:aE u):aE (iR t u):=fun ρ M Q Q' i q=>h _ _ _ _ (fun c M1 j=>by
 cases c with
 | true=>rw [if_pos rfl] at j ⊢;exact k _ _ _ _ i j
 | false=>rw [if_neg i4] at j ⊢;exact i _ _ j) q
theorem xa {t u:TTd} (h:aE t) (k:aE u):aE (nj t u):=fun ρ M Q Q' i q=>h _ _ _ _ (fun c M1 j=>by
 cases c with
 | true=>rw [if_pos rfl] at j ⊢;exact i _ _ j
 | false=>rw [if_neg i4] at j ⊢;exact k _ _ _ _ i j) q
theorem zO {tA:TTd} (j:PT X a (lT X.K tA)):PW X (.BoolOp .And [a] pos) (lT X.K tA):=zd j
theorem BH {tA:TTd} (j:PT X a (lT X.K tA)):PW X (.BoolOp .Or [a] pos) (lT X.K tA):=AZ j
theorem BI {tA tB:TTd} {rest:List Expr} (mA:aE tA) (mB:aE tB) (F:PT X a (lT X.K tA)) (G:PW X (.BoolOp .And (b::rest) pos) (lT X.K tB)):PW X (.BoolOp .And (a::b::rest) pos) (lT X.K (iR tA tB)):=by
 refine PW.imp (B0 F G) fun σ H Q h => ?_;obtain ⟨ρ,M,rs,rm,q⟩:=h;refine ⟨ρ,M,rs,rm,mA _ _ _ _ (fun c M1 z H1 B j => ?_) q⟩
 cases c with
 | true=>rw [if_pos rfl] at z ⊢;exact ⟨ρ,M1,rs.mono (B.stab rm),j,mB _ _ _ _ (fun d M2 k=>k.ext B) z⟩
 | false=>rw [if_neg i4] at z ⊢;exact z H1 B j
theorem De {tA tB:TTd} {rest:List Expr} (mA:aE tA) (mB:aE tB) (F:PT X a (lT X.K tA)) (G:PW X (.BoolOp .Or (b::rest) pos) (lT X.K tB)):PW X (.BoolOp .Or (a::b::rest) pos) (lT X.K (nj tA tB)):=by
 refine PW.imp (CF F G) fun σ H Q h => ?_;obtain ⟨ρ,M,rs,rm,q⟩:=h;refine ⟨ρ,M,rs,rm,mA _ _ _ _ (fun c M1 z H1 B j => ?_) q⟩
 cases c with
 | true=>rw [if_pos rfl] at z ⊢;exact z H1 B j
 | false=>rw [if_neg i4] at z ⊢;exact ⟨ρ,M1,rs.mono (B.stab rm),j,mB _ _ _ _ (fun d M2 k=>k.ext B) z⟩
noncomputable def iS (ta tb:TEd):TEd:=fun ρ M Q=>ta ρ M fun x M1 => ∃ c,x = .bl c/\if c=true then tb ρ M1 Q else Q (.bl false) M1
noncomputable def no (ta tb:TEd):TEd:=fun ρ M Q=>ta ρ M fun x M1 => ∃ c,x = .bl c/\if c=true then Q (.bl true) M1 else tb ρ M1 Q
noncomputable def iT (ta:TEd):TEd:=fun ρ M Q=>ta ρ M fun x M1 => ∃ c,x = .bl c/\Q (.bl (!c)) M1
theorem ua (h:ae ta) (k:ae tb):ae (iS ta tb):=fun ρ M Q Q' i q=>h _ _ _ _ (fun x M1 ⟨c,e,j⟩=>⟨c,e,by
 cases c with
 | true=>rw [if_pos rfl] at j ⊢;exact k _ _ _ _ i j
 | false=>rw [if_neg i4] at j ⊢;exact i _ _ j⟩) q
theorem xb (h:ae ta) (k:ae tb):ae (no ta tb):=fun ρ M Q Q' i q=>h _ _ _ _ (fun x M1 ⟨c,e,j⟩=>⟨c,e,by
 cases c with
 | true=>rw [if_pos rfl] at j ⊢;exact i _ _ j
 | false=>rw [if_neg i4] at j ⊢;exact k _ _ _ _ i j⟩) q
theorem ub (h:ae ta):ae (iT ta):=fun ρ M Q Q' i q=>h _ _ _ _ (fun x M1 ⟨c,e,j⟩=>⟨c,e,i _ _ j⟩) q
theorem uc {op:BoolOp} {t:TEd} (h:PE X a (lE X.K t)):PE X (.BoolOp op [a] pos) (lE X.K t):=B2 h
theorem BJ {rest:List Expr} (ma:ae ta) (mb:ae tb) (G:PE X a (lE X.K ta)) (J:PE X (.BoolOp .And (b::rest) pos) (lE X.K tb)):PE X (.BoolOp .And (a::b::rest) pos) (lE X.K (iS ta tb)):=by
 refine PE.imp (B3 G J) fun σ H Q h => ?_;obtain ⟨ρ,M,rs,rm,q⟩:=h;refine ⟨ρ,M,rs,rm,ma _ _ _ _ (fun x M1 ⟨c,e,z⟩ v H1 B j F => ?_) q⟩;subst e;refine ⟨c,OL.mp F, ?_⟩
 cases c with
 | true=>rw [if_pos rfl] at z ⊢;exact ⟨ρ,M1,rs.mono (B.stab rm),j,mb _ _ _ _ (fun d M2 k=>k.ext B) z⟩
 | false=>rw [if_neg i4] at z ⊢;exact z _ H1 B j (OL.mpr rfl)
theorem Df {rest:List Expr} (ma:ae ta) (mb:ae tb) (G:PE X a (lE X.K ta)) (J:PE X (.BoolOp .Or (b::rest) pos) (lE X.K tb)):PE X (.BoolOp .Or (a::b::rest) pos) (lE X.K (no ta tb)):=by
 refine PE.imp (CI G J) fun σ H Q h => ?_;obtain ⟨ρ,M,rs,rm,q⟩:=h;refine ⟨ρ,M,rs,rm,ma _ _ _ _ (fun x M1 ⟨c,e,z⟩ v H1 B j F => ?_) q⟩;subst e;refine ⟨c,OL.mp F, ?_⟩
 cases c with
 | true=>rw [if_pos rfl] at z ⊢;exact z _ H1 B j (OL.mpr rfl)
 | false=>rw [if_neg i4] at z ⊢;exact ⟨ρ,M1,rs.mono (B.stab rm),j,mb _ _ _ _ (fun d M2 k=>k.ext B) z⟩
theorem BK (ma:ae ta) (B:PE X a (lE X.K ta)):PE X (.UnaryOp .Not a pos) (lE X.K (iT ta)):=by
 refine PE.imp (B4 B) fun σ H Q h => ?_;obtain ⟨ρ,M,rs,rm,q⟩:=h;refine ⟨ρ,M,rs,rm,ma _ _ _ _ (fun x M1 ⟨c,e,F⟩ v H1 G j z => ?_) q⟩;subst e;exact ⟨c,OL.mp z,F _ H1 G j (OL.mpr rfl)⟩
noncomputable def wIf (t:TTd) (ta tb:TEd):TEd:=fun ρ M Q=>t ρ M fun c M1=>if c=true then ta ρ M1 Q else tb ρ M1 Q
theorem zP {t:TTd} (h:aE t) (z:ae ta) (B:ae tb):ae (wIf t ta tb):=fun ρ M Q Q' i q=>h _ _ _ _ (fun c M1 j=>by
 cases c with
 | true=>rw [if_pos rfl] at j ⊢;exact z _ _ _ _ i j
 | false=>rw [if_neg i4] at j ⊢;exact B _ _ _ _ i j) q
theorem Dg {c:Expr} {t:TTd} (mt:aE t) (ma:ae ta) (mb:ae tb) (F:PT X c (lT X.K t)) (G:PE X a (lE X.K ta)) (J:PE X b (lE X.K tb)):PE X (.IfExp c a b pos) (lE X.K (wIf t ta tb)):=by
 refine PE.imp (vY F G J) fun σ H Q h => ?_;obtain ⟨ρ,M,rs,rm,q⟩:=h;refine ⟨ρ,M,rs,rm,mt _ _ _ _ (fun x M1 z H1 B j => ?_) q⟩
 cases x with
 | true=>rw [if_pos rfl] at z ⊢;exact ⟨ρ,M1,rs.mono (B.stab rm),j,ma _ _ _ _ (fun d M2 k=>k.ext B) z⟩
 | false=>rw [if_neg i4] at z ⊢;exact ⟨ρ,M1,rs.mono (B.stab rm),j,mb _ _ _ _ (fun d M2 k=>k.ext B) z⟩
noncomputable def cJ (xs:List D) (lo hi:Option Int):List D:=(xs.drop (HT.sIx xs.length 0 lo)).take (HT.sIx xs.length xs.length hi - HT.sIx xs.length 0 lo)
theorem nv {K:Frag} {H:Hp} {ds:List D} {vs:List V} (r:RDs K H ds vs) (lo hi:Option Int):RDs K H (cJ ds lo hi) (fB vs lo hi):=by
 unfold cJ fB;rw [r.length];exact (r.drop _).take _
noncomputable abbrev TOd:=ak->Mem->(Option Int->Mem->Prop)->Prop
def eV (T:TOd):Prop := ∀ ρ M Q Q',(∀ d M',Q d M'->Q' d M')->T ρ M Q->T ρ M Q'
noncomputable def dX:TOd:=fun _ M Q=>Q none M
noncomputable def iU (t:TEd):TOd:=fun ρ M Q=>t ρ M fun x M1 => ∃ i,x = .int i/\Q (some i) M1
theorem pv:eV dX:=fun _ _ _ _ h q=>h _ _ q
theorem ud (h:ae ta):eV (iU ta):=fun ρ M Q Q' i q=>h _ _ _ _ (fun x M1 ⟨c,e,j⟩=>⟨c,e,i _ _ j⟩) q
noncomputable def lO (K:Frag) (T:TOd):TO:=fun σ H Q => ∃ ρ M,RS K H σ ρ /\ RM K M H/\T ρ M (fun o M' => ∀ H',Ext M H M' H'->RM K M' H'->Q o H')
theorem zQ:PO X none (lO X.K dX):=fun pins s σ H Q I h=>by
 obtain ⟨ρ,M,rs,rm,q⟩:=h;exact zq pins s σ H Q I (q H Ext.refl rm)
theorem zR {e:Expr} (m:ae ta) (h:PE X e (lE X.K ta)):PO X (some e) (lO X.K (iU ta)):=fun pins s σ H Q I hq=>by
 obtain ⟨ρ,M,rs,rm,q⟩:=hq;refine zr h pins s σ H Q I ⟨ρ,M,rs,rm,m _ _ _ _ (fun x M1 ⟨i,e,B⟩ v H1 F j z => ?_) q⟩;subst e;exact ⟨i,OJ.mp z,B H1 F j⟩
noncomputable def du:D->Option Int->Option Int->Mem->QD->Prop:=fun x lo hi M Q=>match x with
 | .tup ds=>Q (.tup (cJ ds lo hi)) M
 | .ref a => ∃ ds,M a=some (.lst ds) /\ ∀ p,M p=none->Q (.ref p) (ad M p (.lst (cJ ds lo hi)))
 | .con ds => ∀ p,M p=none->Q (.ref p) (ad M p (.lst (cJ ds lo hi)))
 | _=>False
noncomputable def wSl (te:TEd) (tl th:TOd):TEd:=fun ρ M Q=>te ρ M fun x M1=>tl ρ M1 fun l M2=>th ρ M2 fun u M3=>du x l u M3 Q
theorem rG {x:D} {lo hi:Option Int} {M:Mem} {Q Q':QD} (h:∀ d M',Q d M'->Q' d M') (q:du x lo hi M Q):du x lo hi M Q':=by
 cases x with
 | tup ds=>exact h _ _ q
 | ref a=>obtain ⟨ds,e,q⟩:=q;exact ⟨ds,e,fun p n=>h _ _ (q p n)⟩
 | con ds=>exact fun p n=>h _ _ (q p n)
 | _=>exact q.elim
theorem zS {tl th:TOd} (m:ae ta) (ml:eV tl) (mh:eV th):ae (wSl ta tl th):=fun ρ M Q Q' i q =>
 m _ _ _ _ (fun x M1 j=>ml _ _ _ _ (fun l M2 z=>mh _ _ _ _ (fun u F B=>rG i B) z) j) q
theorem Dh {e:Expr} {lo hi:Option Expr} {tl th:TOd} {p2:Pos} (m:ae ta) (ml:eV tl) (mh:eV th) (he:PE X e (lE X.K ta)) (hl:PO X lo (lO X.K tl)) (hu:PO X hi (lO X.K th)) :
 PE X (.Subscript e (.Slice lo hi none p2) pos) (lE X.K (wSl ta tl th)):=by
 refine PE.imp (wo (sl_tup.or (sl_list.or wu)) he hl hu) fun σ H Q h => ?_;obtain ⟨ρ,M,rs,rm,q⟩:=h;refine ⟨ρ,M,rs,rm,m _ _ _ _ (fun x M1 q1 v H1 O G U => ?_) q⟩;refine ⟨ρ,M1,rs.mono (O.stab rm),G,ml _ _ _ _ (fun l M2 q2 H2 Y L => ?_) q1⟩;refine ⟨ρ,M2,(rs.mono (O.stab rm)).mono (Y.stab G),L,mh _ _ _ _ (fun u M3 z H3 Z j => ?_) q2⟩;have B:=O.trans (Y.trans Z);have F:=(U.mono (Y.stab G)).mono (Z.stab L)
 cases x with
 | tup ds =>
   obtain ⟨a,vs,rfl,J,r⟩:=OQ F
   by_cases hw:HT.sIx vs.length 0 l=0/\HT.sIx vs.length vs.length u=vs.length
   ·refine .inr (.inr ⟨a,vs,rfl,J,hw, ?_⟩);have e:cJ ds l u=ds:=by
     unfold cJ;rw [<- r.length,hw.1,hw.2,r.length];simp
    simp only [du] at z;rw [e] at z;exact z.ext B _ H3 Ext.refl j F
   ·simp only [du] at z;exact .inl ⟨a,vs,rfl,J,hw,fun p n=>cX j (nv r l u) (z.ext B) n⟩
 | ref a =>
   cases OK.mp F
   obtain ⟨ds,e,z⟩:=z;obtain ⟨vs,J,r⟩:=j _ _ e;exact .inr (.inl ⟨a,vs,rfl,SqL.of J,fun p n=>ca j (nv r l u) (fun p' n'=>(z p' n').ext B) n⟩)
 | con ds =>
   obtain ⟨a,vs,rfl,J,r⟩:=OO.mp F;exact .inr (.inl ⟨a,vs,rfl,J.sq,fun p n=>ca j (nv r l u) (fun p' n'=>(z p' n').ext B) n⟩)
 | _=>exact z.elim
end
end
section
section
variable {X:Cx}
noncomputable def tyN (M:Mem):D->Option String
 | .non=>some "NoneType"
 | .bl _=>some "bool"
 | .int _=>some "int"
 | .str _=>some "str"
 | .tup _=>some "tuple"
 | .ref a=>match M a with
  | some (.lst _)=>some "list"
  | some (.dct _ _)=>some "dict"
  | _=>none
 | .con _=>none
 | .fn _=>none
noncomputable def bP (T t:String):Bool:=t==T || (t == "bool" && T == "int")
theorem yE {K:Frag} {M:Mem} {H:Hp} {x:D} {t:String} {v:V} (rm:RM K M H) (r:RD K H x v) (e:tyN M x=some t):bN K H v (.type t):=by
 cases x with
 | non=>cases e;cases OP.mp r;exact .non
 | bl k=>cases e;cases OL.mp r;exact .bl k
 | int i=>cases e;cases OJ.mp r;exact .int i
 | str i=>cases e;cases OR.mp r;exact .str i
 | tup ds =>
   cases e
   obtain ⟨a,vs,rfl,j,rs⟩:=OQ r;exact .tup j
 | con ds=>cases e
 | fn _=>cases e
 | ref a =>
   cases OK.mp r
   simp only [tyN] at e
   cases e0:M a with
   | none=>rw [e0] at e;cases e
   | some o =>
     rw [e0] at e
     cases o with
     | lst ds =>
       cases e
       obtain ⟨vs,j,rs⟩:=rm _ _ e0;exact .lst j
     | dct t kvs =>
       cases e
       have ro:=rm _ _ e0
       cases t with
       | false=>obtain ⟨ps,j,_⟩:=ro;exact .dK j
       | true=>obtain ⟨ps,j,_⟩:=ro;exact .dT j
     | fdc kvs=>cases e
     | dcn _=>cases e
     | fdn _=>cases e
noncomputable def cb:List String := ["NoneType", "bool", "int", "str", "tuple", "list", "dict"]
theorem jG (K:Frag):∀ T∈["bool", "int", "str", "tuple", "list", "dict"], ∀ t∈cb,PySem.W.kitOne K (.type t) (.type T)=some (bP T t):=by
 intro T j t q;simp only [cb,Fx,FW,or_false] at j q
 rcases j with rfl | rfl | rfl | rfl | rfl | rfl <;> rcases q with rfl | rfl | rfl | rfl | rfl | rfl | rfl <;> rfl
noncomputable def iV (T:String) (ta:TEd):TEd:=fun ρ M Q=>ta ρ M fun x M1 => ∃ t,tyN M1 x=some t/\Q (.bl (bP T t)) M1
theorem ue {T:String} {ta:TEd} (h:ae ta):ae (iV T ta):=fun ρ M Q Q' i q=>h _ _ _ _ (fun x M1 ⟨t,e,j⟩=>⟨t,e,i _ _ j⟩) q
theorem q0 {M:Mem} {x:D} {t:String} (e:tyN M x=some t):t∈cb:=by
 cases x with
 | ref a =>
   simp only [tyN] at e
   cases e0:M a with
   | none=>rw [e0] at e;cases e
   | some o=>rw [e0] at e;cases o <;> cases e <;> simp [cb]
 | con _=>cases e
 | fn _=>cases e
 | _=>cases e;simp [cb]
theorem uf (T:String) (j:T∈["bool", "int", "str", "tuple", "list", "dict"]):CallR X (.builtin "isinstance") (fun vs H Q => ∃ v t,vs=[v, .ty T]/\bN X.K H v (.type t)/\t∈cb/\Q (.bl (bP T t)) H):=by
 intro pins s σ H xs us Q I r h;obtain ⟨v,t,rfl,ty,z,q⟩:=h;obtain ⟨u,c,rfl,ru,rc⟩:=lH r
 cases rc
 exact tD I ru ty (jG X.K T j t z) fun tk=>⟨.bl _,H,I.tok tk,rfl,q⟩
theorem zT {e:Expr} {ta:TEd} {T:String} {y:Str} {p p2 pos:Pos} (L:T∈["bool", "int", "str", "tuple", "list", "dict"]) (m:ae ta) (he:PE X e (lE X.K ta)) (O:Gl X "isinstance") (hm:X.mg "isinstance" = none)
 (z:Gl X y) (B:X.mg y=none) (U:Hy y=some (.type T)) (Y:y ≠ "__name__") (F:(y==("__debug__":Str))=false)
 (hs:FP [e, .Name y p2] X.env=(false,eval e X.env)::FP [.Name y p2] X.env) (G:(IC pos (FP [.Name y p2] X.env)).any (·.1)=false) :
 PE X (.Call (.Name "isinstance" p) [e, .Name y p2] [] pos) (lE X.K (iV T ta)):=by
 have h2:PE X (.Name y p2) (tC (.ty T)):=jy z B U rfl Y F;refine PE.imp (bf (uf T L) O hm (by decide +kernel) (cm he (cm h2 iB rfl) hs) (by decide) (by decide) hs G) fun σ H Q h => ?_
 obtain ⟨ρ,M,rs,rm,q⟩:=h;exact ⟨ρ,M,rs,rm,m _ _ _ _ (fun x M1 ⟨t,e,Z⟩ v H1 x1 j J=>⟨v,t,rfl,yE j J e,q0 e,Z _ H1 x1 j (OL.mpr rfl)⟩) q⟩
noncomputable def wBM (rd:D->List D->Mem->QD->Prop) (to:TEd) (t:TAd):TEd:=fun ρ M Q=>to ρ M fun x M1=>(∃ a xs,x = .ref a/\M1 a=some (.lst xs))/\t ρ M1 fun ds M2=>rd x ds M2 Q
def eW (rd:D->List D->Mem->QD->Prop):Prop := ∀ x ds M Q Q',(∀ d M',Q d M'->Q' d M')->rd x ds M Q->rd x ds M Q'
theorem zU {rd:D->List D->Mem->QD->Prop} {to:TEd} {t:TAd} (hr:eW rd) (mo:ae to) (mt:b4 t):ae (wBM rd to t):=fun ρ M Q Q' i q =>
 mo _ _ _ _ (fun x M1 ⟨e,j⟩=>⟨e,mt _ _ _ _ (fun ds M2 z=>hr _ _ _ _ _ i z) j⟩) q
theorem Di {K:Frag} {M:Mem} {H:Hp} {x:D} {v:V} (rm:RM K M H) (r:RD K H x v) (h:∃ a xs,x = .ref a/\M a=some (.lst xs)):tyV K "list" v H:=by
 obtain ⟨a,xs,rfl,e⟩:=h
 cases OK.mp r
 obtain ⟨vs,j,_⟩:=rm _ _ e;exact .inl ⟨rfl,vs,SqL.of j⟩
theorem gh {K:Frag} {rd:D->List D->Mem->QD->Prop} {r:V->List V->Hp->VK->Prop} {to:TEd} {t:TAd} (hr:eW rd) (mo:ae to) (mt:b4 t)
 (L:∀ v vs H Q,lMt K rd v vs H Q->r v vs H Q) (σ:St) (H:Hp) (Q:VK) (h:lE K (wBM rd to t) σ H Q):tBM K "list" r (lE K to) (lA K t) σ H Q:=by
 obtain ⟨ρ,M,rs,rm,q⟩:=h;refine ⟨ρ,M,rs,rm,mo _ _ _ _ (fun x M1 ⟨e,O⟩ v H1 G j z=>⟨Di j z e, ?_⟩) q⟩;refine ⟨ρ,M1,rs.mono (G.stab rm),j,mt _ _ _ _ (fun ds M2 U vs H2 J B F => ?_) O⟩;exact L v vs H2 Q ⟨x,ds,M2,B,z.mono (J.stab j),F,hr _ _ _ _ _ (fun d M' k=>k.ext (G.trans J)) U⟩
noncomputable def jH:D->List D->Mem->QD->Prop:=fun x ds M Q => ∃ a xs y,x = .ref a/\ds=[y]/\M a=some (.lst xs)/\xs.length < D0/\Q .non (ad M a (.lst (xs++[y])))
noncomputable def jI:D->List D->Mem->QD->Prop:=fun x ds M Q => ∃ a b xs ys,x = .ref a/\ds=[.ref b]/\M a=some (.lst xs)/\M b=some (.lst ys)/\xs.length+ys.length<=D0/\Q .non (ad M a (.lst (xs++ys)))
noncomputable def BL:D->List D->Mem->QD->Prop:=fun x ds M Q => ∃ a xs,x = .ref a/\ds=[]/\M a=some (.lst xs)/\Q .non (ad M a (.lst []))
theorem gJ:eW jH:=fun _ _ _ _ _ h ⟨a,xs,y,j,B,F,z,q⟩=>⟨a,xs,y,j,B,F,z,h _ _ q⟩
theorem gK:eW jI:=fun _ _ _ _ _ h ⟨a,b,xs,y,j,B,F,G,z,q⟩=>⟨a,b,xs,y,j,B,F,G,z,h _ _ q⟩
theorem dY {K:Frag} {M:Mem} {H:Hp} {Q:VK} {d:D} {v:V} {a:Addr} {o0:O} {ds:List D} {vs:List V} (rm:RM K M H) (m:M a=some o0) (rd:RDs K H ds vs) (r:RD K H d v) (q:KE' K M H Q d (ad M a (.lst ds))) (w:fz (some o0)=false:=by rfl) :
 Q v (upd H a (.lst vs)):=by
 have st:Stab H (upd H a (.lst vs)):=rm.stabPut m w;exact q v _ (Ext.put m w) (rm.put m ⟨vs,ax,rd.mono st⟩ w) (r.mono st)
theorem xc {K:Frag} (v:V) (vs:List V) (H:Hp) (Q:VK) (h:lMt K jH v vs H Q):pQ v vs H Q:=by
 obtain ⟨x,ds,M,rm,rx,rs,a,xs,y,rfl,rfl,e,z,q⟩:=h
 cases OK.mp rx
 obtain ⟨w,rfl,rw'⟩:=rs.one;obtain ⟨us,j,ru⟩:=rm _ _ e;exact ⟨a,us,w,rfl,rfl,j,by rw [ru.length];exact z,dY rm e (ru.append (RDs.cons rw' RDs.nil)) (OP.mpr rfl) q⟩
theorem xf {K:Frag} (v:V) (vs:List V) (H:Hp) (Q:VK) (h:lMt K jI v vs H Q):pT v vs H Q:=by
 obtain ⟨x,ds,M,rm,rx,rs,a,b,xs,y,rfl,rfl,e,B,z,q⟩:=h
 cases OK.mp rx
 obtain ⟨w,rfl,rw'⟩:=rs.one
 cases OK.mp rw'
 obtain ⟨us,F,ru⟩:=rm _ _ e;obtain ⟨ws,G,j⟩:=rm _ _ B;have l1:=ru.length;have l2:=j.length;exact ⟨a,b,us,ws,rfl,rfl,F,G,by lia,dY rm e (ru.append j) (OP.mpr rfl) q⟩
noncomputable abbrev BT:=D->ak->Option ak
noncomputable abbrev BTs:=List D->ak->Option ak
noncomputable def bT (i:Nat):BT:=fun d ρ => some (ρ.set i (some d))
noncomputable def gW:BTs:=fun ds ρ => match ds with | [] => some ρ | _=>none
noncomputable def bM (b:BT) (bs:BTs):BTs:=fun ds ρ => match ds with | d::r=>(b d ρ).bind fun ρ'=>bs r ρ' | [] => none
noncomputable def rH (bs:BTs):BT:=fun d ρ => match d with | .tup ds=>bs ds ρ | _=>none
noncomputable def lG (K:Frag) (b:BT):TG:=fun v σ H Q => ∃ d ρ ρ',RD K H d v/\RS K H σ ρ /\ b d ρ = some ρ' /\ ∀ σ',RS K H σ' ρ'->Q σ' H
noncomputable def lGs (K:Frag) (b:BTs):TGs:=fun vs σ H Q => ∃ ds ρ ρ',RDs K H ds vs/\RS K H σ ρ /\ b ds ρ = some ρ' /\ ∀ σ',RS K H σ' ρ'->Q σ' H
theorem PG.imp {e:Expr} {t t':TG} (h:PG X e t) (i:∀ v σ H Q,t' v σ H Q->t v σ H Q):PG X e t':=fun pins s σ H v u Q I r q=>h pins s σ H v u Q I r (i _ _ _ _ q)
theorem PGs.imp {e:List Expr} {t t':TGs} (h:PGs X e t) (i:∀ v σ H Q,t' v σ H Q->t v σ H Q):PGs X e t':=fun pins s σ H v u Q I r q=>h pins s σ H v u Q I r (i _ _ _ _ q)
theorem zV {i:Nat} {x:Str} {pos:Pos} (j:X.N.Nodup) (hi:X.N[i]? = some x) (hx:Loc X.env.scope x) (hf:X.fn x=true∨X.env.scope.names.lookup x=some .local):PG X (.Name x pos) (lG X.K (bT i)) :=
 PG.imp (pN j hi hx hf) fun v σ H Q ⟨d, ρ, ρ',r,rs,e,q⟩=>by
  cases e
  exact q _ (rs.set i r)
theorem zW:PGs X [] (lGs X.K gW):=PGs.imp zh fun vs σ H Q ⟨ds, ρ, ρ',r,rs,e,q⟩=>by
 cases ds with
 | nil=>cases e;exact ⟨RDs.nil_iff.mp r,q σ rs⟩
 | cons _ _=>cases e
theorem xg {e:Expr} {es:List Expr} {b:BT} {bs:BTs} (h1:PG X e (lG X.K b)) (h2:PGs X es (lGs X.K bs)) (hs:(Hk (e::es) X.env).map (·.2)=assign e X.env::(Hk es X.env).map (·.2)) :
 PGs X (e::es) (lGs X.K (bM b bs)):=PGs.imp (wb h1 h2 hs) fun vs σ H Q ⟨ds, ρ, ρ',r,rs,e,q⟩=>by
 cases ds with
 | nil=>cases e
 | cons d ds =>
   obtain ⟨v,vr,rfl,r1,r2⟩:=OM.mp r;simp only [bM] at e
   cases j:b d ρ with
   | none=>rw [j] at e;cases e
   | some ρ1 =>
     rw [j] at e;exact ⟨v,vr,rfl,d, ρ, ρ1,r1,rs,j,fun σ' rs'=>⟨ds, ρ1, ρ',r2,rs',e,q⟩⟩
theorem BM {es:List Expr} {k:Nat} {bs:BTs} {n:Nat} {pos:Pos} (z:X.calm=true) (hlen:∀ ds ρ ρ',bs ds ρ = some ρ'->ds.length=n) (h:PGs X es (lGs X.K bs)) (B:(Hk es X.env).length=n) (j:(Hk es X.env).findIdx? (·.1)=none) :
 PG X (.Tuple es k pos) (lG X.K (rH bs)):=PG.imp (B9 z h B j) fun v σ H Q ⟨d, ρ, ρ',r,rs,e,q⟩=>by
 cases d with
 | tup ds =>
   obtain ⟨a,vs,rfl,F,rv⟩:=OQ r;exact ⟨a,vs,rfl,F,by rw [rv.length];exact hlen _ _ _ e,ds, ρ, ρ',rv,rs,e,q⟩
 | _=>cases e
noncomputable abbrev TId:=ak->Mem->(List D->(Mem->Prop)->Mem->Prop)->Prop
def bw (T:TId):Prop := ∀ ρ M Q Q',(∀ xs c M',Q xs c M'->Q' xs c M')->T ρ M Q->T ρ M Q'
def Yl (H H':Hp):Prop:=H'=H ∨ ∃ q vs,H q=none/\H'=upd H q (.tup vs)
def eX (K:Frag) (H1:Hp) (xs:List D) (chk:Mem->Prop) (J:It):Prop := ∀ M H,Stab H1 H->RM K M H->chk M -> ∀ i,(xs.length<=i->J.stop i H)/\(i < xs.length->J.go i H /\
 ∀ x H',J.yld i H x H'->Yl H H' /\ ∃ d,xs[i]? = some d/\RD K H' d x)
noncomputable def lI (K:Frag) (T:TId):TI:=fun σ H R => ∃ ρ M,RS K H σ ρ /\ RM K M H/\T ρ M (fun xs chk M1 => ∀ J H1,Ext M H M1 H1->RM K M1 H1->eX K H1 xs chk J->R J H1)
theorem PI.imp {tg e:Expr} {t t':TI} (h:PI X tg e t) (i:∀ σ H Q,t' σ H Q->t σ H Q):PI X tg e t':=fun pins s σ H Q I q=>h pins s σ H Q I (i _ _ _ q)
theorem Yl.ext {K:Frag} {M:Mem} {H H':Hp} (rm:RM K M H) (y:Yl H H'):Ext M H M H'/\RM K M H':=by
 rcases y with rfl | ⟨q,vs,n,rfl⟩
 ·exact ⟨Ext.refl,rm⟩
 ·exact ⟨OS n,rm.new n⟩
noncomputable def E8 (K:Frag) (tl:TE):TI:=fun σ H R=>tl σ H fun x H1 => ∃ a,x = .ref a/\(((∃ xs,SqL K H1 a xs)/\R (Itl K a) H1)∨((∃ xs,SqT K H1 a xs)/\R (Itt K a) H1))
theorem BN {tg l:Expr} {tl:TE} (F:PE X l tl):PI X tg l (E8 X.K tl):=by
 intro pins s σ H R I h;refine thn (F pins s σ H _ I h) fun v s1 ⟨x,H1,j,r1,G⟩ => ?_;obtain ⟨a,e,q⟩:=G;subst e
 cases r1
 rcases q with ⟨⟨xs,z⟩,q⟩ | ⟨⟨xs,z⟩,q⟩
 ·obtain ⟨its,rv,p,J⟩:=j.list z;refine Hu p.isList ?_;refine ⟨s1.heap.objs.size,[s1.heap.objs.size],_,_,H1,rfl,j.kept (t':=s1.toks) fun b o e=>h7 _ e,tf a _,⟨_,FF _ rfl,rfl,rfl⟩,fun b B => ?_,q⟩;have e:b=s1.heap.objs.size:=by simpa using B
  subst e;exact j.fpOk (Fy _) (j.hok.fresh (Fy _))
 ·obtain ⟨its,rv,p,J⟩:=j.tuple z;refine Ha (show s1.heap.IsTuple a its.toArray from p) ?_;refine ⟨s1.heap.objs.size,[s1.heap.objs.size],_,_,H1,rfl,j.kept (t':=s1.toks) fun b o e=>h7 _ e,qS a _,⟨_,FF _ rfl,rfl,rfl⟩,fun b B => ?_,q⟩;have e:b=s1.heap.objs.size:=by simpa using B
  subst e;exact j.fpOk (Fy _) (j.hok.fresh (Fy _))
noncomputable def ny (ta:TEd):TId:=fun ρ M R=>ta ρ M fun x M1 => ∃ ds,au M1 x=some ds/\R ds (fun M=>au M x=some ds) M1
theorem xh {ta:TEd} (h:ae ta):bw (ny ta):=fun ρ M Q Q' i q=>h _ _ _ _ (fun x M1 ⟨ds,e,j⟩=>⟨ds,e,i _ _ _ j⟩) q
theorem ug {K:Frag} {H1:Hp} {a:Addr} {ds:List D} {chk:Mem->Prop} (h:∀ M H,Stab H1 H->RM K M H->chk M -> ∃ vs,SqL K H a vs/\RDs K H ds vs):eX K H1 ds chk (Itl K a):=fun M H st rm c i=>by
 obtain ⟨vs,sq,r⟩:=h M H st rm c;have l:=r.length;refine ⟨fun hi=>⟨vs,sq,by lia⟩,fun hi=>⟨⟨vs,vs[i]'(by lia),sq,r4 (by lia)⟩,fun x H' y => ?_⟩⟩
 obtain ⟨e,y⟩:=y;subst e;exact ⟨.inl rfl,r.getV (y vs sq)⟩
theorem BO {K:Frag} {H1:Hp} {a:Addr} {ds:List D} {chk:Mem->Prop} (h:∀ M H,Stab H1 H->RM K M H->chk M -> ∃ vs,SqT K H a vs/\RDs K H ds vs):eX K H1 ds chk (Itt K a):=fun M H st rm c i=>by
 obtain ⟨vs,sq,r⟩:=h M H st rm c;have l:=r.length;refine ⟨fun hi=>⟨vs,sq,by lia⟩,fun hi=>⟨⟨vs,vs[i]'(by lia),sq,r4 (by lia)⟩,fun x H' y => ?_⟩⟩
 obtain ⟨e,y⟩:=y;subst e;exact ⟨.inl rfl,r.getV (y vs sq)⟩
theorem BP {tg l:Expr} {ta:TEd} (m:ae ta) (G:PE X l (lE X.K ta)):PI X tg l (lI X.K (ny ta)):=by
 refine PI.imp (BN G) fun σ H R h => ?_;obtain ⟨ρ,M,rs,rm,q⟩:=h;refine ⟨ρ,M,rs,rm,m _ _ _ _ (fun x M1 ⟨ds,e,B⟩ v H1 F j rd1 => ?_) q⟩
 cases x with
 | tup es =>
   cases e
   obtain ⟨a,vs,rfl,z,rv⟩:=OQ rd1;exact ⟨a,rfl, .inr ⟨⟨vs,z⟩,B _ H1 F j (BO fun M' H' st _ _=>⟨vs,st.sqT z,rv.mono st⟩)⟩⟩
 | con es =>
   cases e
   obtain ⟨a,vs,rfl,z,rv⟩:=OO.mp rd1;exact ⟨a,rfl, .inl ⟨⟨vs,z.sq⟩,B _ H1 F j (ug fun M' H' st _ _=>⟨vs,(st.sqF z).sq,rv.mono st⟩)⟩⟩
 | ref a =>
   cases OK.mp rd1
   have get:∀ {M':Mem} {es:List D},au M' (.ref a)=some es->M' a=some (.lst es):=fun {M' es} e=>by
    simp only [au] at e
    cases e0:M' a with
    | none=>rw [e0] at e;cases e
    | some o =>
      rw [e0] at e
      cases o with
      | dct _ _=>cases e
      | fdc _=>cases e
      | dcn _=>cases e
      | fdn _=>cases e
      | lst es'=>cases e;rfl
   obtain ⟨vs,z,rv⟩:=j _ _ (get e);exact ⟨a,rfl, .inl ⟨⟨vs,SqL.of z⟩,B _ H1 F j (ug fun M' H' st rm' c=>by
    obtain ⟨us,J,ru⟩:=rm' _ _ (get c);exact ⟨us,SqL.of J,ru⟩)⟩⟩
 | _=>cases e
noncomputable def bu (lo:Int) (n:Nat):List D:=(Gc n).map fun i => .int (lo+(i:Nat))
theorem BQ {K:Frag} {H1:Hp} {lo:Int} {n:Nat}:eX K H1 (bu lo n) (fun _=>True) (Itr lo n):=fun M H st rm c i=>by
 have l:(bu lo n).length=n:=by simp [bu]
 refine ⟨fun hi=>by show n<=i;lia,fun hi=>⟨by show i < n;lia,fun x H' y => ?_⟩⟩
 obtain ⟨e,y⟩:=y;subst e y;refine ⟨.inl rfl, .int (lo+i), ?_,OJ.mpr rfl⟩;simp only [bu,FK,Mm (show i < n by lia),J4]
noncomputable def iW (ta:TAd):TId:=fun ρ M R=>ta ρ M fun ds M1 => ∃ j:Int,ds=[.int j] /\ -(2 ^ 62)<=j/\j < 2 ^ 62/\R (bu 0 j.toNat) (fun _=>True) M1
theorem uh {ta:TAd} (h:b4 ta):bw (iW ta):=fun ρ M Q Q' i q=>h _ _ _ _ (fun x M1 ⟨j,e,a,b,z⟩=>⟨j,e,a,b,i _ _ _ z⟩) q
theorem zX {tg a:Expr} {ta:TAd} {p pos:Pos} (m:b4 ta) (B:Gl X "range") (hm:X.mg "range" = none) (F:PA X [a] (lA X.K ta)) (hs:FP [a] X.env=[(false,eval a X.env)]):PI X tg (.Call (.Name "range" p) [a] [] pos) (lI X.K (iW ta)):=by
 refine PI.imp (tj B hm F hs) fun σ H R h => ?_;obtain ⟨ρ,M,rs,rm,q⟩:=h;refine ⟨ρ,M,rs,rm,m _ _ _ _ (fun ds M1 ⟨j,e,G,J,L⟩ vs H1 O z rd1 => ?_) q⟩;subst e;obtain ⟨v,rfl,r⟩:=rd1.one
 cases OJ.mp r
 exact ⟨j,rfl,G,J,L _ H1 O z BQ⟩
end
end
section
section
variable {X:Cx}
noncomputable def isT:D->Bool | .tup _=>true | _=>false
theorem dZ {K:Frag} {M:Mem} {H:Hp} {x:D} {ds:List D} {v:V} (rm:RM K M H) (r:RD K H x v) (e:au M x=some ds):∃ p vs,v = .ref p/\SqV K (isT x) H p vs/\RDs K H ds vs:=by
 cases x with
 | tup es =>
   cases e
   obtain ⟨a,vs,rfl,j,rv⟩:=OQ r;exact ⟨a,vs,rfl,j,rv⟩
 | con es =>
   cases e
   obtain ⟨a,vs,rfl,j,rv⟩:=OO.mp r;exact ⟨a,vs,rfl,j.sq,rv⟩
 | ref a =>
   cases OK.mp r
   simp only [au] at e
   cases e0:M a with
   | none=>rw [e0] at e;cases e
   | some o =>
     rw [e0] at e
     cases o with
     | dct _ _=>cases e
     | fdc _=>cases e
     | dcn _=>cases e
     | fdn _=>cases e
     | lst es =>
       cases e
       obtain ⟨vs,j,rv⟩:=rm _ _ e0;exact ⟨a,vs,rfl,SqL.of j,rv⟩
 | _=>cases e
noncomputable def lU (x y:D):D := .tup [x,y]
noncomputable def nA (ta tb:TEd):TId:=fun ρ M R=>b5 ta (b5 tb bW) ρ M fun ds M1 => ∃ x y xs ys,ds=[x,y]/\au M1 x=some xs/\au M1 y=some ys/\R (Kc lU xs ys) (fun M=>au M x=some xs/\au M y=some ys) M1
theorem xi {ta tb:TEd} (j:ae ta) (z:ae tb):bw (nA ta tb):=fun ρ M Q Q' i q=>am j (am z az) _ _ _ _ (fun ds M1 ⟨x,y,xs,ys,e,B,F,G⟩=>⟨x,y,xs,ys,e,B,F,i _ _ _ G⟩) q
theorem nB {H:Hp} {p:Addr} {o:HO} (n:H p=none):Stab H (upd H p o):=⟨fun a xs e=>by rw [ai (fun z=>by rw [z,n] at e;cases e)];exact e,fun a o u e=>by rw [ai (fun z=>by rw [z,n] at e;cases e)];exact e⟩
theorem BR {K:Frag} {H1:Hp} {x y:D} {xs ys:List D} {a b:Addr} (rx:RD K H1 x (.ref a)) (ry:RD K H1 y (.ref b)):eX K H1 (Kc lU xs ys) (fun M=>au M x=some xs/\au M y=some ys) (Itz K (isT x) (isT y) a b):=fun M H st rm c i=>by
 obtain ⟨O,vs,G,j,r1⟩:=dZ rm (rx.mono st) c.1;obtain ⟨p2,us,J,q,r2⟩:=dZ rm (ry.mono st) c.2
 cases G
 cases J
 have l1:=r1.length;have l2:=r2.length;have lz:(Kc lU xs ys).length=min xs.length ys.length:=Mn;refine ⟨fun hi=>⟨vs,us,j,q,by lia⟩,fun hi=>⟨⟨vs,us,vs[i]'(by lia),us[i]'(by lia),j,q,r4 (by lia),r4 (by lia)⟩,fun v H' L => ?_⟩⟩
 obtain ⟨p,v1,v2,n,rfl,rfl,g⟩:=L;obtain ⟨g1,g2⟩:=g vs us j q;obtain ⟨d1,z,B⟩:=r1.getV g1;obtain ⟨d2,hd2,F⟩:=r2.getV g2;have sb:=nB (o := .tup [v1,v2]) n;refine ⟨.inr ⟨p,[v1,v2],n,rfl⟩, .tup [d1,d2], ?_,OU ⟨p,[v1,v2],rfl,ax,RDs.cons (B.mono sb) (RDs.cons (F.mono sb) RDs.nil)⟩⟩;rw [LB,z,hd2];rfl
theorem BS {elts:List Expr} {cx} {pos p pos':Pos} {a b:Expr} {ta tb:TEd} (ma:ae ta) (mb:ae tb) (B:Gl X "zip") (hm:X.mg "zip" = none) (F:PA X [a,b] (lA X.K (b5 ta (b5 tb bW)))) (hs:FP [a,b] X.env=[(false,eval a X.env),(false,eval b X.env)]) (z:FP [b] X.env=[(false,eval b X.env)]) :
 PI X (.Tuple elts cx pos) (.Call (.Name "zip" p) [a,b] [] pos') (lI X.K (nA ta tb)):=by
 refine PI.imp (Bs B hm F hs z) fun σ H R h => ?_;obtain ⟨ρ,M,rs,rm,q⟩:=h;refine ⟨ρ,M,rs,rm,am ma (am mb az) _ _ _ _ (fun ds M1 ⟨x,y,xs,ys,e,G,J,L⟩ vs H1 O j rd1 => ?_) q⟩;subst e;obtain ⟨v,u,rfl,r1,r2⟩:=rd1.two;obtain ⟨U,vs,rfl,s1,_⟩:=dZ j r1 G;obtain ⟨p2,us,rfl,s2,_⟩:=dZ j r2 J;exact ⟨U,p2,isT x,isT y,vs,us,rfl,s1,s2,L _ H1 O j (BR r1 r2)⟩
end
end
section
section
variable {X:Cx}
noncomputable def cQ (xs:List D):List D:=xs.mapIdx fun i x => .tup [.int (i:Nat),x]
noncomputable def iX (ta:TEd):TId:=fun ρ M R=>ta ρ M fun x M1 => ∃ xs,au M1 x=some xs/\R (cQ xs) (fun M=>au M x=some xs) M1
theorem ui {ta:TEd} (h:ae ta):bw (iX ta):=fun ρ M Q Q' i q=>h _ _ _ _ (fun x M1 ⟨ds,e,j⟩=>⟨ds,e,i _ _ _ j⟩) q
theorem BU {K:Frag} {H1:Hp} {x:D} {xs:List D} {a:Addr} (rx:RD K H1 x (.ref a)):eX K H1 (cQ xs) (fun M=>au M x=some xs) (Ite K (isT x) a):=fun M H st rm c i=>by
 obtain ⟨G,vs,B,j,r1⟩:=dZ rm (rx.mono st) c
 cases B
 have l1:=r1.length;have lz:(cQ xs).length=xs.length:=by simp [cQ]
 refine ⟨fun hi=>⟨vs,j,by lia⟩,fun hi=>⟨⟨vs,vs[i]'(by lia),j,r4 (by lia)⟩,fun v H' F => ?_⟩⟩
 obtain ⟨p,v1,n,rfl,rfl,g⟩:=F;obtain ⟨d1,q,z⟩:=r1.getV (g vs j);have sb:=nB (o := .tup [.int (i:Nat),v1]) n;refine ⟨.inr ⟨p,[.int (i:Nat),v1],n,rfl⟩, .tup [.int (i:Nat),d1], ?_,OU ⟨p,[.int (i:Nat),v1],rfl,ax,RDs.cons (OJ.mpr rfl) (RDs.cons (z.mono sb) RDs.nil)⟩⟩;simp [cQ,HQ,q]
theorem zY {elts:List Expr} {cx} {pos p pos':Pos} {a:Expr} {ta:TEd} (ma:ae ta) (z:Gl X "enumerate") (hm:X.mg "enumerate" = none) (B:PA X [a] (lA X.K (b5 ta bW))) (hs:FP [a] X.env=[(false,eval a X.env)]) :
 PI X (.Tuple elts cx pos) (.Call (.Name "enumerate" p) [a] [] pos') (lI X.K (iX ta)):=by
 refine PI.imp (zx z hm B hs) fun σ H R h => ?_;obtain ⟨ρ,M,rs,rm,q⟩:=h;refine ⟨ρ,M,rs,rm,ma _ _ _ _ (fun x M1 ⟨xs,F,G⟩ vs H1 J j rd1 => ?_) q⟩;obtain ⟨v,rfl,r1⟩:=rd1.one;obtain ⟨L,us,rfl,s1,_⟩:=dZ j r1 F;exact ⟨L,isT x,us,rfl,s1,G _ H1 J j (BU r1)⟩
end
end
section
noncomputable abbrev NC:=ak->Mem->List D->Prop
noncomputable abbrev TCd:=ak->Mem->List D->NC->Prop
def b6 (T:TCd):Prop := ∀ ρ M acc N N',(∀ ρ' M' acc',N ρ' M' acc'->N' ρ' M' acc')->T ρ M acc N->T ρ M acc N'
structure ExtP (p:Addr) (M:Mem) (H:Hp) (M':Mem) (H':Hp):Prop where
 kp:∀ a o,a≠p->fz (M a)=true->H a=some o->H' a=some o
 nw:∀ a o,fz (M a)=true->H a=some o->M' a=M a
section
variable {K:Frag} {M M' M'':Mem} {H H' H'':Hp} {p:Addr}
theorem ExtP.new (x:ExtP p M H M' H') (a:Addr) (o:HO) (n:M a=none) (e:H a=some o):M' a=none:=(x.nw a o (by rw [n];rfl) e).trans n
theorem Ext.toP (x:Ext M H M' H'):ExtP p M H M' H':=⟨fun a o _=>x.kp a o,x.nw⟩
theorem ExtP.refl:ExtP p M H M H:=⟨fun _ _ _ _ h=>h,fun _ _ _ _=>rfl⟩
theorem ExtP.trans {vs:List V} (a:ExtP p M H M' H') (q:H p=some (.lst vs)) (j:∃ vs',H' p=some (.lst vs')) (b:ExtP p M' H' M'' H''):ExtP p M H M'' H'' :=
 ⟨fun c o ne n h=>b.kp c o ne (by rw [a.nw c o n h];exact n) (a.kp c o ne n h),fun c o n h=>by
   have n':fz (M' c)=true:=by rw [a.nw c o n h];exact n
   refine Eq.trans ?_ (a.nw c o n h)
   by_cases z:c=p
   ·subst z;obtain ⟨vs',e⟩:=j;exact b.nw c _ n' e
   ·exact b.nw c o n' (a.kp c o z n h)⟩
theorem ExtP.stab {vs:List V} (r:RM K M H) (j:H p=some (.lst vs)) (x:ExtP p M H M' H'):Stab H H' where
 tup:=fun a xs e=>x.kp a _ (fun z=>by subst z;rw [j] at e;cases e) (by rw [r.fzT e];rfl) e
 frz:=fun a o u e=>x.kp a _ (fun z=>by subst z;rw [j] at e;cases e) (r.fzF e) e
theorem nC {vs:List V} {ho:HO} (j:H p=some (.lst vs)):Stab H (upd H p ho) :=
 ⟨fun a xs e=>by rw [ai (fun z=>by subst z;rw [j] at e;cases e)];exact e,fun a o u e=>by rw [ai (fun z=>by subst z;rw [j] at e;cases e)];exact e⟩
theorem RM.side {vs:List V} {ho:HO} (r:RM K M H) (n:M p=none) (j:H p=some (.lst vs)):RM K M (upd H p ho):=fun a o e=>by
 have ne:a≠p:=fun z=>by subst z;rw [n] at e;cases e
 exact (r a o e).mono (nC j) fun B q=>by rw [ai ne];exact q
end
def gi (K:Frag) (H:Hp) (p:Addr) (acc:List D):Prop := ∃ vs,H p=some (.lst vs)/\RDs K H acc vs
noncomputable def KC (K:Frag) (p:Addr) (M:Mem) (H:Hp) (N:St->Hp->Prop):NC:=fun ρ' M' acc' => ∀ σ' H',ExtP p M H M' H'->RS K H' σ' ρ'->RM K M' H'->gi K H' p acc'->N σ' H'
noncomputable def lC (K:Frag) (p:Addr) (T:TCd):TC:=fun σ H N => ∃ ρ M acc,RS K H σ ρ /\ RM K M H/\M p=none/\gi K H p acc/\T ρ M acc (KC K p M H N)
theorem KC.ext {K:Frag} {p:Addr} {M M2 M':Mem} {H H2:Hp} {N:St->Hp->Prop} {ρ:ak} {acc:List D} {vs:List V} (q:H p=some (.lst vs)) (j:∃ vs',H2 p=some (.lst vs')) (x:ExtP p M H M2 H2) (h:KC K p M H N ρ M' acc):KC K p M2 H2 N ρ M' acc :=
 fun σ' H' y=>h σ' H' (x.trans q j y)
noncomputable def dE (te:TEd):TCd:=fun ρ M acc N=>te ρ M fun x M1=>acc.length < D0/\N ρ M1 (acc++[x])
noncomputable def bd:List TTd->TCd->TCd
 | [],tb=>tb
 | t::r,tb=>fun ρ M acc N=>t ρ M fun b M1=>if b=true then bd r tb ρ M1 acc N else N ρ M1 acc
noncomputable def aY (b:BT) (tb:TCd) (chk:Mem->Prop) (N:NC):List D->NC
 | [] => fun ρ M acc=>chk M/\N ρ M acc
 | x::xs=>fun ρ M acc=>chk M /\ ∃ ρ',b x ρ = some ρ'/\tb ρ' M acc (aY b tb chk N xs)
noncomputable def bv (src:TId) (b:BT) (tb:TCd):TCd:=fun ρ M acc N=>src ρ M fun xs chk M1=>aY b tb chk N xs ρ M1 acc
noncomputable def gj (fr:List (Option Nat)) (src:TId) (b:BT) (tb:TCd):TEd:=fun ρ M Q=>src ρ M fun xs chk M1=>aY b tb chk (fun _ M' acc => ∀ p,M' p=none->Q (.ref p) (ad M' p (.lst acc))) xs (gR fr ρ) M1 []
theorem bm {te:TEd} (h:ae te):b6 (dE te):=fun ρ M acc N N' i q=>h _ _ _ _ (fun x M1 ⟨z,j⟩=>⟨z,i _ _ _ j⟩) q
theorem aK {tb:TCd} (z:b6 tb):∀ {ts:List TTd},(∀ t∈ts,aE t)->b6 (bd ts tb)
 | [],_=>z
 | t::r,h=>fun ρ M acc N N' i q=>h t Gv _ _ _ _ (fun b M1 j=>by
   cases b with
   | true=>rw [if_pos rfl] at j ⊢;exact aK z (fun t' B=>h t' (FJ _ B)) _ _ _ _ _ i j
   | false=>rw [if_neg i4] at j ⊢;exact i _ _ _ j) q
theorem dF {b:BT} {tb:TCd} (z:b6 tb) {chk:Mem->Prop} {N N':NC} (i:∀ ρ' M' acc',N ρ' M' acc'->N' ρ' M' acc'):∀ (xs:List D) (ρ:ak) (M:Mem) (acc:List D),aY b tb chk N xs ρ M acc->aY b tb chk N' xs ρ M acc
 | [], ρ,M,acc,h=>⟨h.1,i _ _ _ h.2⟩
 | x::xs, ρ,M,acc,⟨c, ρ',e,q⟩=>⟨c, ρ',e,z _ _ _ _ _ (fun ρ2 M2 j B=>dF z i xs ρ2 M2 j B) q⟩
theorem cw {src:TId} {b:BT} {tb:TCd} (hs:bw src) (j:b6 tb):b6 (bv src b tb):=fun ρ M acc N N' i q=>hs _ _ _ _ (fun xs c M1 z=>dF j i xs _ _ _ z) q
theorem kF {fr:List (Option Nat)} {src:TId} {b:BT} {tb:TCd} (hs:bw src) (j:b6 tb):ae (gj fr src b tb):=fun ρ M Q Q' i q =>
 hs _ _ _ _ (fun xs c M1 z=>dF j (fun _ M' acc B p n=>i _ _ (B p n)) xs _ _ _ z) q
section
variable {K:Frag} {p:Addr}
theorem fG {te:TEd} (m:ae te) (σ:St) (H:Hp) (N:St->Hp->Prop) (h:lC K p (dE te) σ H N):yA p (lE K te) σ H N:=by
 obtain ⟨ρ,M,acc,rs,rm,n,⟨vs,L,ra⟩,q⟩:=h;refine ⟨ρ,M,rs,rm,m _ _ _ _ (fun x M1 ⟨z,O⟩ v H1 F G J => ?_) q⟩;have j:=F.keep p _ n L;have U:=F.new p _ n L;have st:=F.stab rm;have B:Stab H1 (upd H1 p (.lst (vs++[v]))):=nC j;refine ⟨vs,j,by rw [ra.length];exact z,O σ _ ⟨fun a o ne m' e => ?_,F.nw⟩ ((rs.mono st).mono B) (G.side U j) ⟨vs++[v],ax,((ra.mono st).mono B).append (RDs.cons (J.mono B) RDs.nil)⟩⟩
 rw [ai ne];exact F.kp a o m' e
theorem iY {tb:TCd} (mb:b6 tb):∀ {ts:List TTd},(∀ t∈ts,aE t) -> ∀ (σ:St) (H:Hp) (N:St->Hp->Prop),lC K p (bd ts tb) σ H N->iH (ts.map (lT K)) (lC K p tb) σ H N
 | [],_, σ,H,N,h=>h
 | t::r,hm, σ,H,N,h=>by
   obtain ⟨ρ,M,acc,rs,rm,n,⟨vs,G,ra⟩,q⟩:=h;refine ⟨ρ,M,rs,rm,hm t Gv _ _ _ _ (fun b M1 F H1 z B => ?_) q⟩;have j:=z.keep p _ n G;have L:=z.new p _ n G;have st:=z.stab rm
   cases b with
   | false =>
     rw [if_neg i4] at F;dsimp only;rw [if_neg i4];exact F σ H1 z.toP (rs.mono st) B ⟨vs,j,ra.mono st⟩
   | true =>
     rw [if_pos rfl] at F;dsimp only;rw [if_pos rfl];exact iY mb (fun t' J=>hm t' (FJ _ J)) σ H1 N ⟨ρ,M1,acc,rs.mono st,B,L,⟨vs,j,ra.mono st⟩,
      aK mb (fun t' J=>hm t' (FJ _ J)) _ _ _ _ _ (fun ρ' M' acc' k=>k.ext G ⟨vs,j⟩ z.toP) F⟩
theorem kG {b:BT} {tb:TCd} (mb:b6 tb) {xs:List D} {chk:Mem->Prop} {J:It} {H1:Hp} {M1:Mem} {Nd:NC} {N:St->Hp->Prop} {σ:St} {ρ:ak} {acc:List D} (it:eX K H1 xs chk J) (rs:RS K H1 σ ρ) (rm:RM K M1 H1) (n:M1 p=none)
 (ac:gi K H1 p acc) (q:aY b tb chk Nd xs ρ M1 acc) (hN:∀ ρ' M' acc' σ' H',ExtP p M1 H1 M' H'->RS K H' σ' ρ'->RM K M' H'->gi K H' p acc'->Nd ρ' M' acc'->N σ' H') :
 bc J (lG K b) (lC K p tb) N σ H1:=by
 obtain ⟨Ef,B,_⟩:=id ac;refine ⟨fun i m σ H=>m=xs.length - i/\i<=xs.length /\ ∃ ρ M acc,RS K H σ ρ /\ RM K M H/\M p=none/\gi K H p acc/\ExtP p M1 H1 M H/\aY b tb chk Nd (xs.drop i) ρ M acc,⟨xs.length,by simp,GW _, ρ,M1,acc,rs,rm,n,ac,ExtP.refl,q⟩, ?_⟩
 rintro i m σ H ⟨rfl,hi, ρ,M,acc,rs,j,n,ac,x,q⟩;have st:=x.stab rm B;obtain ⟨vs,Z,ra⟩:=id ac
 by_cases z:i < xs.length
 ·rw [HJ z] at q;obtain ⟨c, ρ',hb,q⟩:=q;obtain ⟨go,yl⟩:=(it M H st j c i).2 z;refine .inr ⟨go,fun σ' H' => ∃ m',m' < xs.length - i/\(m'=xs.length - (i+1)/\i+1<=xs.length /\ ∃ ρ M acc,RS K H' σ' ρ /\ RM K M H'/\M p=none/\gi K H' p acc/\ExtP p M1 H1 M H'/\aY b tb chk Nd (xs.drop (i+1)) ρ M acc),fun σ' H' h=>h,fun x' H' y => ?_⟩;obtain ⟨yy,d,hd,rd⟩:=yl x' H' y;rw [r4 z] at hd
  cases hd
  obtain ⟨xy,rmy⟩:=yy.ext j;have sty:=xy.stab j;have F:=xy.keep p _ n Z;refine ⟨_, ρ, ρ',rd,rs.mono sty,hb,fun σ2 L => ?_⟩;refine ⟨ρ',M,acc,L,rmy,n,⟨vs,F,ra.mono sty⟩,mb _ _ _ _ _ (fun ρ3 M3 G q3 σ3 H3 x3 O U Y => ?_) q⟩;have n3:M3 p=none:=x3.new p _ n F;exact ⟨xs.length - (i+1),by lia,rfl,z, ρ3,M3,G,O,U,n3,Y,(x.trans B ⟨vs,Z⟩ xy.toP).trans B ⟨vs,F⟩ x3,q3⟩
 ·have e:i=xs.length:=by lia
  subst e;rw [L7] at q;exact .inl ⟨(it M H st j q.1 _).1 (Fy _),hN ρ M acc σ H x rs j ac q.2⟩
theorem gL {src:TId} {b:BT} {tb:TCd} (ms:bw src) (mb:b6 tb) (σ:St) (H:Hp) (N:St->Hp->Prop) (h:lC K p (bv src b tb) σ H N):(lI K src) σ H fun J H1=>bc J (lG K b) (lC K p tb) N σ H1:=by
 obtain ⟨ρ,M,acc,rs,rm,n,⟨vs,B,ra⟩,q⟩:=h;refine ⟨ρ,M,rs,rm,ms _ _ _ _ (fun xs chk M1 G J H1 z F it => ?_) q⟩;have j:=z.keep p _ n B;have L:=z.new p _ n B;have st:=z.stab rm;exact kG mb it (rs.mono st) F L ⟨vs,j,ra.mono st⟩ G fun ρ' M' acc' σ' H' x2 rs' rm' ac' k=>k σ' H' (z.toP.trans B ⟨vs,j⟩ x2) rs' rm' ac'
theorem dG {fr:List (Option Nat)} {src:TId} {b:BT} {tb:TCd} (ms:bw src) (mb:b6 tb) (σ:St) (H:Hp) (Q:VK) (h:lE K (gj fr src b tb) σ H Q):rf (lI K src) (lG K b) (fun p=>lC K p tb) fr σ H Q:=by
 obtain ⟨ρ,M,rs,rm,q⟩:=h;refine ⟨ρ,M,rs,rm,ms _ _ _ _ (fun xs chk M1 O J H1 F j it p n => ?_) q⟩;have st:=F.stab rm;have xn:Ext M1 H1 M1 (upd H1 p (.lst [])):=OS n;have stn:=xn.stab j;have L:M1 p=none:=j.out n;refine kG (p:=p) mb (xs:=xs) (chk:=chk) (fun M' H' st'=>it M' H' ⟨fun a xs e=>st'.tup _ _ (stn.tup _ _ e),fun a o u e=>st'.frz _ _ _ (stn.frz _ _ _ e)⟩) (((rs.mono st).mono stn).inh fr) (j.new n) L ⟨[],ax,RDs.nil⟩ O fun ρ' M' acc' σ' H' G rs' rm' ac' k => ?_;obtain ⟨vs,U,ra⟩:=ac';have n':M' p=none:=G.new p _ L ax;refine k p n' (.ref p) H' ⟨fun a o m e => ?_,fun a o m e => ?_⟩ (fun a o e => ?_) (OK.mpr rfl)
 ·have B:=F.kp a o m e;have ne:a≠p:=fun z=>by subst z;rw [n] at B;cases B
  exact G.kp a o ne (by rw [F.nw a o m e];exact m) (by rw [ai ne];exact B)
 ·have B:=F.kp a o m e;have ne:a≠p:=fun z=>by subst z;rw [n] at B;cases B
  rw [ab ne];exact (G.nw a o (by rw [F.nw a o m e];exact m) (by rw [ai ne];exact B)).trans (F.nw a o m e)
 ·by_cases z:a=p
  ·subst z;rw [aa] at e;cases e;exact ⟨vs,U,ra⟩
  ·rw [ab z] at e;exact rm' a o e
end
end
section
noncomputable def gk:TSd:=fun D ρ M=>D.nx ρ M
noncomputable def nD (t u:TSd):TSd:=fun D ρ M=>t { D with nx:=u D } ρ M
noncomputable def fI:TSd:=fun D ρ M=>D.bk ρ M
noncomputable def iZ:TSd:=fun D ρ M=>D.ct ρ M
noncomputable def j5 (te:TEd):TSd:=fun D ρ M=>te ρ M fun _ M1=>D.nx ρ M1
noncomputable def nE (te:TEd):TSd:=fun D ρ M=>te ρ M D.rt
noncomputable def sIf (c:TTd) (t u:TSd):TSd:=fun D ρ M=>c ρ M fun b M1=>if b=true then t D ρ M1 else u D ρ M1
noncomputable def gX (te:TEd) (b:BT):TSd:=fun D ρ M=>te ρ M fun x M1 => ∃ ρ',b x ρ = some ρ'/\D.nx ρ' M1
noncomputable def nF (ta:TAd) (bs:BTs):TSd:=fun D ρ M=>ta ρ M fun xs M1 => ∃ ρ',bs xs ρ = some ρ'/\D.nx ρ' M1
noncomputable def bp (b:BT) (tb:TSd) (chk:Mem->Prop) (D:b3):List Mi.D->ak->Mem->Prop
 | [] => fun ρ M=>chk M/\D.nx ρ M
 | x::xs=>fun ρ M=>chk M /\ ∃ ρ',b x ρ = some ρ'/\tb { D with nx:=bp b tb chk D xs,ct:=bp b tb chk D xs,bk:=D.nx } ρ' M
noncomputable def nG (src:TId) (b:BT) (tb:TSd):TSd:=fun D ρ M=>src ρ M fun xs chk M1=>bp b tb chk D xs ρ M1
noncomputable def aL (c:TTd) (tb:TSd) (D:b3):Nat->ak->Mem->Prop
 | 0=>fun _ _=>False
 | n+1=>fun ρ M=>c ρ M fun b M1=>if b=true then tb { D with nx:=aL c tb D n,ct:=aL c tb D n,bk:=D.nx } ρ M1 else D.nx ρ M1
noncomputable def fJ (c:TTd) (tb:TSd):TSd:=fun D ρ M => ∃ n,aL c tb D n ρ M
theorem kH:aF gk:=fun _ _ _ _ h q=>h.nx _ _ q
theorem rJ:aF fI:=fun _ _ _ _ h q=>h.bk _ _ q
theorem uj:aF iZ:=fun _ _ _ _ h q=>h.ct _ _ q
theorem uk {t u:TSd} (j:aF t) (z:aF u):aF (nD t u):=fun a b ρ M h q=>j { a with nx:=u a } { b with nx:=u b } _ _ ⟨fun ρ' M' q'=>z _ _ _ _ h q',h.rt,h.bk,h.ct⟩ q
theorem um {te:TEd} (h:ae te):aF (j5 te):=fun a b ρ M i q=>h _ _ _ _ (fun _ M1 j=>i.nx _ _ j) q
theorem xj {te:TEd} (h:ae te):aF (nE te):=fun a b ρ M i q=>h _ _ _ _ (fun d M1 j=>i.rt _ _ j) q
theorem xk {c:TTd} {t u:TSd} (z:aE c) (B:aF t) (F:aF u):aF (sIf c t u):=fun a b ρ M i q=>z _ _ _ _ (fun k M1 j=>by
 cases k with
 | true=>rw [if_pos rfl] at j ⊢;exact B _ _ _ _ i j
 | false=>rw [if_neg i4] at j ⊢;exact F _ _ _ _ i j) q
theorem xl {te:TEd} {bt:BT} (h:ae te):aF (gX te bt):=fun a b ρ M i q=>h _ _ _ _ (fun d M1 ⟨ρ',e,j⟩=>⟨ρ',e,i.nx _ _ j⟩) q
theorem xm {ta:TAd} {bs:BTs} (h:b4 ta):aF (nF ta bs):=fun a b ρ M i q=>h _ _ _ _ (fun d M1 ⟨ρ',e,j⟩=>⟨ρ',e,i.nx _ _ j⟩) q
theorem fK {bt:BT} {tb:TSd} (j:aF tb) {chk:Mem->Prop} {a b:b3} (i:LeD a b):∀ (xs:List D) (ρ:ak) (M:Mem),bp bt tb chk a xs ρ M->bp bt tb chk b xs ρ M
 | [], ρ,M,h=>⟨h.1,i.nx _ _ h.2⟩
 | x::xs, ρ,M,⟨c, ρ',e,q⟩=>⟨c, ρ',e,j { a with nx:=bp bt tb chk a xs,ct:=bp bt tb chk a xs,bk:=a.nx } { b with nx:=bp bt tb chk b xs,ct:=bp bt tb chk b xs,bk:=b.nx } _ _ ⟨fun ρ2 M2 z=>fK j i xs ρ2 M2 z,i.rt,i.nx,fun ρ2 M2 z=>fK j i xs ρ2 M2 z⟩ q⟩
theorem xo {src:TId} {bt:BT} {tb:TSd} (hs:bw src) (j:aF tb):aF (nG src bt tb):=fun a b ρ M i q=>hs _ _ _ _ (fun xs c M1 z=>fK j i xs _ _ z) q
theorem dO {c:TTd} {tb:TSd} (q:aE c) (z:aF tb) {a b:b3} (i:LeD a b):∀ (n:Nat) (ρ:ak) (M:Mem),aL c tb a n ρ M->aL c tb b n ρ M
 | 0, ρ,M,h=>h
 | n+1, ρ,M,h=>q _ _ _ _ (fun k M1 j=>by
   cases k with
   | true=>rw [if_pos rfl] at j ⊢;exact z { a with nx:=aL c tb a n,ct:=aL c tb a n,bk:=a.nx } { b with nx:=aL c tb b n,ct:=aL c tb b n,bk:=b.nx } _ _ ⟨fun ρ2 M2 B=>dO q z i n ρ2 M2 B,i.rt,i.nx,fun ρ2 M2 B=>dO q z i n ρ2 M2 B⟩ j
   | false=>rw [if_neg i4] at j ⊢;exact i.nx _ _ j) h
theorem rK {c:TTd} {tb:TSd} (j:aE c) (z:aF tb):aF (fJ c tb):=fun a b ρ M i ⟨n,q⟩=>⟨n,dO j z i n _ _ q⟩
section
variable {K:Frag}
theorem kI (D:bn) (σ:St) (H:Hp) (h:lS K gk D σ H):qO D σ H:=by
 obtain ⟨ρ,M,A,rs,rm,l,q⟩:=h;exact l.nx ρ M σ H Ext.refl rs rm q
theorem rL (D:bn) (σ:St) (H:Hp) (h:lS K fI D σ H):t7 D σ H:=by
 obtain ⟨ρ,M,A,rs,rm,l,q⟩:=h;exact l.bk ρ M σ H Ext.refl rs rm q
theorem uo (D:bn) (σ:St) (H:Hp) (h:lS K iZ D σ H):yp D σ H:=by
 obtain ⟨ρ,M,A,rs,rm,l,q⟩:=h;exact l.ct ρ M σ H Ext.refl rs rm q
theorem xp {t u:TSd} (mt:aF t) (mu:aF u) (D:bn) (σ:St) (H:Hp) (h:lS K (nD t u) D σ H):B5 (lS K t) (lS K u) D σ H:=by
 obtain ⟨ρ,M,A,rs,rm,l,q⟩:=h;exact ⟨ρ,M, { A with nx:=u A },rs,rm,⟨fun ρ' M' σ' H' x rs' rm' q'=>⟨ρ',M',A,rs',rm',l.ext x,q'⟩,l.rt,l.bk,l.ct⟩,q⟩
theorem uq {te:TEd} (m:ae te) (D:bn) (σ:St) (H:Hp) (h:lS K (j5 te) D σ H):yq (lE K te) D σ H:=by
 obtain ⟨ρ,M,A,rs,rm,l,q⟩:=h;exact ⟨ρ,M,rs,rm,m _ _ _ _ (fun d M1 B v H1 z j F=>l.nx ρ M1 σ H1 z (rs.mono (z.stab rm)) j B) q⟩
theorem xq {te:TEd} (m:ae te) (D:bn) (σ:St) (H:Hp) (h:lS K (nE te) D σ H):B6 (lE K te) D σ H:=by
 obtain ⟨ρ,M,A,rs,rm,l,q⟩:=h;exact ⟨ρ,M,rs,rm,m _ _ _ _ (fun d M1 B v H1 F j z=>l.rt d M1 v H1 F j z B) q⟩
theorem zZ {c:TTd} {t u:TSd} (mc:aE c) (D:bn) (σ:St) (H:Hp) (h:lS K (sIf c t u) D σ H):B8 (lT K c) (lS K t) (lS K u) D σ H:=by
 obtain ⟨ρ,M,A,rs,rm,l,q⟩:=h;refine ⟨ρ,M,rs,rm,mc _ _ _ _ (fun k M1 z H1 B j => ?_) q⟩
 cases k with
 | true=>rw [if_pos rfl] at z ⊢;exact ⟨ρ,M1,A,rs.mono (B.stab rm),j,l.ext B,z⟩
 | false=>rw [if_neg i4] at z ⊢;exact ⟨ρ,M1,A,rs.mono (B.stab rm),j,l.ext B,z⟩
theorem xr {te:TEd} {b:BT} (m:ae te) (D:bn) (σ:St) (H:Hp) (h:lS K (gX te b) D σ H):qQ (lE K te) (lG K b) D σ H:=by
 obtain ⟨ρ,M,A,rs,rm,l,q⟩:=h;refine ⟨ρ,M,rs,rm,m _ _ _ _ (fun d M1 ⟨ρ',e,F⟩ v H1 B j z => ?_) q⟩;exact ⟨d, ρ, ρ',z,rs.mono (B.stab rm),e,fun σ' rs'=>l.nx ρ' M1 σ' H1 B rs' j F⟩
theorem kJ {te:TEd} {i:Nat} (m:ae te) (D:bn) (σ:St) (H:Hp) (h:lS K (gX te (bT i)) D σ H):qQ (lE K te) (iy i) D σ H:=by
 obtain ⟨ρ,M,A,rs,rm,l,q⟩:=h;refine ⟨ρ,M,rs,rm,m _ _ _ _ (fun d M1 ⟨ρ',e,z⟩ v H1 j rm1 rd1 => ?_) q⟩
 cases e
 exact l.nx _ M1 _ H1 j ((rs.mono (j.stab rm)).set i rd1) rm1 z
theorem xt {src:TId} {b:BT} {tb:TSd} (ms:bw src) (mb:aF tb) (D:bn) (σ:St) (H:Hp) (h:lS K (nG src b tb) D σ H):Bc (lI K src) (lG K b) (lS K tb) D σ H:=by
 obtain ⟨ρ,M,A,rs,rm,l,q⟩:=h;refine ⟨ρ,M,rs,rm,ms _ _ _ _ (fun xs chk M1 q1 J H1 x1 G it => ?_) q⟩;refine ⟨fun i m σ H'=>m=xs.length - i/\i<=xs.length /\ ∃ ρ M2,RS K H' σ ρ /\ RM K M2 H'/\Ext M1 H1 M2 H'/\bp b tb chk A (xs.drop i) ρ M2,⟨xs.length,by simp,GW _, ρ,M1,rs.mono (x1.stab rm),G,Ext.refl,q1⟩, ?_⟩
 rintro i m σ2 H2 ⟨rfl,hi, ρ2,M2,L,j,x2,O⟩;have U:=x2.stab G
 by_cases B:i < xs.length
 ·rw [HJ B] at O;obtain ⟨c, ρ',hb,q3⟩:=O;obtain ⟨go,yl⟩:=(it M2 H2 U j c i).2 B;refine .inr ⟨go,fun σ' H' => ∃ m',m' < xs.length - i/\(m'=xs.length - (i+1)/\i+1<=xs.length /\ ∃ ρ M,RS K H' σ' ρ /\ RM K M H'/\Ext M1 H1 M H'/\bp b tb chk A (xs.drop (i+1)) ρ M),fun σ' H' h=>h,fun x' H' y => ?_⟩;obtain ⟨yy,d,hd,rd⟩:=yl x' H' y;rw [r4 B] at hd
  cases hd
  obtain ⟨xy,rmy⟩:=yy.ext j;have Y:=x1.trans (x2.trans xy);refine ⟨_, ρ2, ρ',rd,L.mono (xy.stab j),hb,fun σ3 Ef => ?_⟩;have nx:∀ ρ5 F σ5 z,Ext M2 H' F z->RS K z σ5 ρ5->RM K F z->bp b tb chk A (xs.drop (i+1)) ρ5 F -> ∃ m',m' < xs.length - i/\(m'=xs.length - (i+1)/\i+1<=xs.length /\ ∃ ρ M,RS K z σ5 ρ /\ RM K M z/\Ext M1 H1 M z/\bp b tb chk A (xs.drop (i+1)) ρ M) :=
   fun ρ5 F σ5 z Z Eg Eh q5=>⟨xs.length - (i+1),by lia,rfl,B, ρ5,F,Eg,Eh,(x2.trans xy).trans Z,q5⟩
  refine ⟨ρ',M2, { A with nx:=bp b tb chk A (xs.drop (i+1)),ct:=bp b tb chk A (xs.drop (i+1)),bk:=A.nx },Ef,rmy,⟨nx,fun d F v z Z=>l.rt d F v z (Y.trans Z),fun ρ5 F σ5 z Z=>l.nx ρ5 F σ5 z (Y.trans Z),nx⟩,q3⟩
 ·have e:i=xs.length:=by lia
  subst e;rw [L7] at O;exact .inl ⟨(it M2 H2 U j O.1 _).1 (Fy _),l.nx ρ2 M2 σ2 H2 (x1.trans x2) L j O.2⟩
theorem rM {c:TTd} {tb:TSd} (mc:aE c) (mb:aF tb) (D:bn) (σ:St) (H:Hp) (h:lS K (fJ c tb) D σ H):t9 (lT K c) (lS K tb) D σ H:=by
 obtain ⟨ρ,M,A,rs,rm,l,n,q⟩:=h;refine ⟨fun m σ' H' => ∃ ρ' M',RS K H' σ' ρ'/\RM K M' H'/\Ext M H M' H'/\aL c tb A m ρ' M',⟨n, ρ,M,rs,rm,Ext.refl,q⟩, ?_⟩;rintro m σ1 H1 ⟨ρ1,M1,J,L,x1,q1⟩
 cases m with
 | zero=>exact q1.elim
 | succ m =>
   refine ⟨ρ1,M1,J,L,mc _ _ _ _ (fun k M2 Z H2 x2 O => ?_) q1⟩;have j:=x1.trans x2;have U:=J.mono (x2.stab L)
   cases k with
   | false=>rw [if_neg i4] at Z;dsimp only;rw [if_neg i4];exact l.nx ρ1 M2 σ1 H2 j U O Z
   | true =>
     rw [if_pos rfl] at Z;dsimp only;rw [if_pos rfl];refine ⟨fun σ' H' => ∃ ρ' M',RS K H' σ' ρ'/\RM K M' H'/\Ext M H M' H'/\aL c tb A m ρ' M',fun σ' H' h=>⟨m,NL m,h⟩, ρ1,M2, { A with nx:=aL c tb A m,ct:=aL c tb A m,bk:=A.nx },U,O,⟨?_,fun d z v Y B=>l.rt d z v Y (j.trans B),fun ρ5 z σ5 Y B=>l.nx ρ5 z σ5 Y (j.trans B), ?_⟩,Z⟩
     ·exact fun ρ5 z σ5 Y B F G q5=>⟨ρ5,z,F,G,j.trans B,q5⟩
     ·exact fun ρ5 z σ5 Y B F G q5=>⟨ρ5,z,F,G,j.trans B,q5⟩
end
noncomputable def gm:D->D->D->Mem->(Mem->Prop)->Prop:=fun o i v M Q => ∃ a,o = .ref a /\
 ((∃ xs k j,i = .int k/\M a=some (.lst xs)/\ixN xs.length k=some j/\Q (ad M a (.lst (xs.set j v)))) ∨
  ∃ t kvs,M a=some (.dct t kvs)/\eQ t i=true/\kvs.length < D0/\Q (ad M a (.dct t (bO kvs i v))))
noncomputable def nH (te to ti:TEd):TSd:=fun D ρ M=>te ρ M fun v M1=>to ρ M1 fun o M2=>ti ρ M2 fun i M3=>gm o i v M3 fun M4=>D.nx ρ M4
theorem ur {o i v:D} {M:Mem} {Q Q':Mem->Prop} (h:∀ M',Q M'->Q' M') (q:gm o i v M Q):gm o i v M Q':=by
 obtain ⟨a,e,⟨xs,k,j,z,B,F,q⟩ | ⟨t,kvs,z,B,F,q⟩⟩:=q
 ·exact ⟨a,e, .inl ⟨xs,k,j,z,B,F,h _ q⟩⟩
 ·exact ⟨a,e, .inr ⟨t,kvs,z,B,F,h _ q⟩⟩
theorem xu {te to ti:TEd} (he:ae te) (ho:ae to) (hi:ae ti):aF (nH te to ti):=fun a b ρ M i q =>
 he _ _ _ _ (fun v M1 j=>ho _ _ _ _ (fun o M2 z=>hi _ _ _ _ (fun k F B=>ur (fun M' q'=>i.nx _ _ q') B) z) j) q
section
variable {X:Cx} {K:Frag}
theorem xv (j:X.A.units+1 < Ib):PSet X (fun o i v H Q => ∃ a H',o = .ref a/\DPut H a i v H'/\Q H'):=by
 intro pins s σ H o i v ov iv u Q I ro ri rv h;obtain ⟨a,H',rfl,g,q⟩:=h
 cases ro
 exact tO j I g ri rv fun s' I'=>⟨H',I',q⟩
theorem PSet.or {t t':qP} (h:PSet X t) (h':PSet X t'):PSet X (fun o i v H Q=>t o i v H Q∨t' o i v H Q):=by
 intro pins s σ H o i v ov iv u Q I ro ri rv q
 rcases q with q | q
 ·exact h pins s σ H o i v ov iv u Q I ro ri rv q
 ·exact h' pins s σ H o i v ov iv u Q I ro ri rv q
section
variable {κ:Type} [DecidableEq κ] {H:Hp} {RK:D -> κ -> Prop} (inj:∀ {d e:D} {k : κ},RK d k->RK e k->d=e) (fn:∀ {d:D} {k k' : κ},RK d k->RK d k'->k=k')
include inj fn
theorem q8 {k:D} {q : κ} (j:RK k q):∀ {kvs:List (D×D)} {ps:List (κ × V)},Gn (fun p r=>RK p.1 r.1/\RD K H p.2 r.2) kvs ps ->
 (kvs.any fun p=>decide (p.1=k))=(ps.any fun p=>decide (p.1=q))
 | _,_, .nil=>rfl
 | _,_, .cons (a:=p) (b:=r) hr t=>by
   rw [Hc,Hc,q8 j t];congr 1
   by_cases e:p.1=k
   ·have e':r.1=q:=by have h1:=hr.1;rw [e] at h1;exact fn h1 j
    rw [decide_eq_true e,decide_eq_true e']
   ·have e' : ¬ r.1=q:=fun z=>e (by have h1:=hr.1;rw [z] at h1;exact inj h1 j)
    rw [decide_eq_false e,decide_eq_false e']
theorem q9 {k:D} {q : κ} (j:RK k q) {d:D} {v:V} (B:RD K H d v):∀ {kvs:List (D×D)} {ps:List (κ × V)},Gn (fun p r=>RK p.1 r.1/\RD K H p.2 r.2) kvs ps ->
 Gn (fun p r=>RK p.1 r.1/\RD K H p.2 r.2) (kvs.map fun p=>if p.1=k then (p.1,d) else p) (ps.map fun p=>if p.1=q then (p.1,v) else p)
 | _,_, .nil => .nil
 | _,_, .cons (a:=p) (b:=r) hr t=>by
   refine .cons ?_ (q9 j B t)
   by_cases e:p.1=k
   ·have e':r.1=q:=by have h1:=hr.1;rw [e] at h1;exact fn h1 j
    dsimp only;rw [if_pos e,if_pos e'];exact ⟨hr.1,B⟩
   ·have e' : ¬ r.1=q:=fun z=>e (by have h1:=hr.1;rw [z] at h1;exact inj h1 j)
    dsimp only;rw [if_neg e,if_neg e'];exact hr
theorem gY {k:D} {q : κ} (j:RK k q) {d:D} {v:V} (z:RD K H d v) {kvs:List (D×D)} {ps:List (κ × V)} (r:Gn (fun p r=>RK p.1 r.1/\RD K H p.2 r.2) kvs ps) :
 Gn (fun p r=>RK p.1 r.1/\RD K H p.2 r.2) (bO kvs k d) (bg ps q v):=by
 unfold bO bg;rw [q8 (K:=K) (H:=H) (RK:=RK) inj fn j r]
 by_cases e:(ps.any fun p=>decide (p.1=q))=true
 ·rw [if_pos e,if_pos e];exact q9 (RK:=RK) inj fn j z r
 ·rw [if_neg e,if_neg e];exact r.snoc ⟨j,z⟩
end
theorem xw {M:Mem} {H:Hp} {o i v:D} {ov iv vv:V} {Qd:Mem->Prop} {Q:Hp->Prop} (rm:RM K M H) (ro:RD K H o ov) (ri:RD K H i iv) (rv:RD K H v vv) (h:gm o i v M Qd) (O:∀ M' H',Ext M H M' H'->RM K M' H'->Qd M'->Q H') :
 yw ov iv vv H Q ∨ ∃ a H',ov = .ref a/\DPut H a iv vv H'/\Q H':=by
 obtain ⟨a,rfl,⟨xs,k,j,rfl,B,L,q⟩ | ⟨t,kvs,F,B,L,q⟩⟩:=h
 ·cases OK.mp ro
  cases OJ.mp ri
  obtain ⟨vs,Z,rs⟩:=rm _ _ B;have st:Stab H (upd H a (.lst (vs.set j vv))):=rm.stabPut B;exact .inl ⟨a,vs,k,j,rfl,rfl,Z,by rw [rs.length];exact L,O _ _ (Ext.put B) (rm.put (o := .lst (xs.set j v)) B ⟨_,ax,(rs.set j rv).mono st⟩) q⟩
 ·cases OK.mp ro
  have ro':=rm _ _ F
  cases t with
  | false =>
    obtain ⟨ps,U,pr⟩:=ro';obtain ⟨kq,J⟩:=dS (show cv i=true from B);have st:Stab H (upd H a (.dK (bg ps kq vv))):=rm.stabPut F;have G:=gY (RK:=RKey) RKey.inj RKey.fun J rv pr;rw [cY J ri];refine .inr ⟨a,_,rfl,DPut.k U (by rw [<- IU pr];exact L),O _ _ (Ext.put F) (rm.put (o := .dct false (bO kvs i v)) F ⟨_,ax,ON G fun _ _ z=>⟨z.1,z.2.mono st⟩⟩) q⟩
  | true =>
    obtain ⟨ps,U,pr⟩:=ro';obtain ⟨kq,J⟩:=pW (show dq i=true from B);have st:Stab H (upd H a (.dT (bg ps kq vv))):=rm.stabPut F;have G:=gY (RK:=RKeys) RKeys.inj RKeys.fun J rv pr
    cases i <;> first
     | exact J.elim
     | (obtain ⟨b,us,rfl,Y,ru⟩:=P2 (pX B) ri
        rw [gT J ru] at Y;exact .inr ⟨a,_,rfl,DPut.t U Y (by rw [<- IU pr];exact L),O _ _ (Ext.put F) (rm.put (o := .dct true (bO kvs _ v)) F ⟨_,ax,ON G fun _ _ z=>⟨z.1,z.2.mono st⟩⟩) q⟩)
theorem BV {o i e:Expr} {te to ti:TEd} {pos tpos:Pos} (hu:X.A.units+1 < Ib) (me:ae te) (mo:ae to) (mi:ae ti) (he:PE X e (lE X.K te)) (ho:PE X o (lE X.K to)) (hi:PE X i (lE X.K ti))
 (hs:IV [.Subscript o i tpos] e pos.line X.env=pure false) (hw:HV [.Subscript o i tpos] e X.env=pure none)
 (ha:∀ v,assign (.Subscript o i tpos) X.env v=(do
   let ov <- holding [v] (eval o X.env)
   let iv <- holding [v,ov] (eval i X.env)
   Iw tpos
   holding [v,ov,iv] (setItem ov iv v)
   release [v,ov,iv] [])):PS X (.Assign [.Subscript o i tpos] e pos) (lS X.K (nH te to ti)):=by
 refine PS.imp (t8 he (Ba ho hi (PSet.or wp (xv hu)) ha) hs hw rfl) fun D σ H h => ?_;obtain ⟨ρ,M,A,rs,rm,l,q⟩:=h;refine ⟨ρ,M,rs,rm,me _ _ _ _ (fun v M1 q1 vv H1 F j G => ?_) q⟩;refine ⟨ρ,M1,rs.mono (F.stab rm),j,mo _ _ _ _ (fun ov M2 q2 vo H2 J z L => ?_) q1⟩;refine ⟨ρ,M2,(rs.mono (F.stab rm)).mono (J.stab j),z,mi _ _ _ _ (fun iv M3 q3 vi H3 O U Y => ?_) q2⟩;have B:=F.trans (J.trans O);exact xw U (L.mono (O.stab z)) Y ((G.mono (J.stab j)).mono (O.stab z)) q3 fun M' H' x4 Z q4=>l.nx ρ M' σ H' (B.trans x4) (rs.mono ((B.trans x4).stab rm)) Z q4
noncomputable def lV:R2d
 | .int i, .int j,M,Q=>Q (.int (i+j)) M
 | _,_,_,_=>False
noncomputable def lW:R2d
 | .int i, .int j,M,Q=>Q (.int (i - j)) M
 | _,_,_,_=>False
noncomputable def lX:R2d
 | .int i, .int j,M,Q=>MulOk i j/\Q (.int (i*j)) M
 | _,_,_,_=>False
theorem kK:aB lV:=by
 intro x y M Q Q' h q
 cases x <;> cases y <;> first | exact q.elim | exact h _ _ q
theorem kL:aB lW:=by
 intro x y M Q Q' h q
 cases x <;> cases y <;> first | exact q.elim | exact h _ _ q
theorem kM:aB lX:=by
 intro x y M Q Q' h q
 cases x <;> cases y <;> first | exact q.elim | exact ⟨q.1,h _ _ q.2⟩
theorem ut:OpR X (HK .Add) (l2 X.K lV):=by
 refine OpR.of zi fun v u H Q h => ?_;obtain ⟨x,y,M,rm,rx,ry,q⟩:=h
 cases x <;> cases y <;> first
  | exact q.elim
  | (cases OJ.mp rx;cases OJ.mp ry;exact ⟨_,_,rfl,rfl,q _ H Ext.refl rm (OJ.mpr rfl)⟩)
theorem uu:OpR X (HK .Sub) (l2 X.K lW):=by
 refine OpR.of zj fun v u H Q h => ?_;obtain ⟨x,y,M,rm,rx,ry,q⟩:=h
 cases x <;> cases y <;> first
  | exact q.elim
  | (cases OJ.mp rx;cases OJ.mp ry;exact ⟨_,_,rfl,rfl,q _ H Ext.refl rm (OJ.mpr rfl)⟩)
theorem uv:OpR X (HK .Mult) (rI MulOk fun i j => .int (i*j)):=opI fun _ _ _ _ _ _ _ z q=>imul_int q z.ok
theorem uw:OpR X (HK .Mult) (l2 X.K lX):=by
 refine OpR.of uv fun v u H Q h => ?_;obtain ⟨x,y,M,rm,rx,ry,q⟩:=h
 cases x <;> cases y <;> first
  | exact q.elim
  | (cases OJ.mp rx;cases OJ.mp ry;exact ⟨_,_,rfl,rfl,q.1,q.2 _ H Ext.refl rm (OJ.mpr rfl)⟩)
noncomputable def nI (i:Nat) (rd:R2d) (te:TEd):TSd:=fun D ρ M => ∃ x, ρ[i]? = some (some x)/\te ρ M fun y M1=>rd x y M1 fun z M2=>D.nx (ρ.set i (some z)) M2
theorem xx {i:Nat} {rd:R2d} {te:TEd} (hr:aB rd) (he:ae te):aF (nI i rd te):=fun a b ρ M l ⟨x,e,q⟩=>⟨x,e,he _ _ _ _ (fun y M1 j=>hr _ _ _ _ _ (fun z M2 B=>l.nx _ _ B) j) q⟩
theorem j6 {i:Nat} {x:Str} {e:Expr} {te:TEd} {op:Ji} {rd:R2d} {pos pos':Pos} (U:X.N.Nodup) (hi:X.N[i]? = some x) (hx:Loc X.env.scope x) (he:PE X e (lE X.K te)) (ho:OpR X (HK op) (l2 X.K rd)) (hr:aB rd) (me:ae te)
 (hf:X.fn x=true∨X.env.scope.names.lookup x=some .local):PS X (.AugAssign (.Name x pos') op e pos) (lS X.K (nI i rd te)):=by
 refine PS.imp (Bb U hi hx he (ti:=l2 X.K rd) ho hf) fun D σ H h => ?_;obtain ⟨ρ,M,A,rs,rm,l,d,e,q⟩:=h;obtain ⟨v,Y,j⟩:=rs.2 i d e;refine ⟨v,Y, ρ,M,rs,rm,me _ _ _ _ (fun y M1 Z u H1 B F G => ?_) q⟩;refine ⟨d,y,M1,F,j.mono (B.stab rm),G,hr _ _ _ _ _ (fun z M2 q2 w H2 O J L => ?_) Z⟩;exact l.nx _ M2 _ H2 (B.trans O) ((rs.mono ((B.trans O).stab rm)).set i L) J q2
end
end
end Mi
end L2
namespace L2
open PySem PySem.Spec PyProof.Rows
section
section
variable {X:Cx} {pos:Pos}
noncomputable def yF (i j l:Nat) (ta:TA):TS:=fun D σ H=>ta σ H fun vs H1 => ∃ u v w,vs=[u,v,w]/\D.nx (((σ.set i (some u)).set j (some v)).set l (some w)) H1
theorem A0 {i j l:Nat} {x y z:Str} {a b c:Expr} {ta:TA} {px py pz pt:Pos} {kt L B} (hc:X.calm=true) (O:X.N.Nodup) (hi:X.N[i]? = some x) (hj:X.N[j]? = some y) (hl:X.N[l]? = some z) (U:i≠j) (Y:i≠l) (Z:j≠l)
 (hx:X.env.scope.names.lookup x=some .local) (hy:X.env.scope.names.lookup y=some .local) (hz:X.env.scope.names.lookup z=some .local) (ha:PA X [a,b,c] ta)
 (hw:HV [.Tuple [.Name x px, .Name y py, .Name z pz] kt pt] (.Tuple [a,b,c] L B) X.env=pure (some [x,y,z]))
 (hs:IV [.Tuple [.Name x px, .Name y py, .Name z pz] kt pt] (.Tuple [a,b,c] L B) pos.line X.env=pure false:=by rfl) :
 PS X (.Assign [.Tuple [.Name x px, .Name y py, .Name z pz] kt pt] (.Tuple [a,b,c] L B) pos) (yF i j l ta):=by
 intro pins s σ H D I h;rw [exec_Assign_arm];refine e6 (GX ?_);rw [hs];refine e6 (hQ ?_);rw [if_neg (by decide)]
 refine e6 (Tuple_ (thn (ha _ pins s σ H _ I h) fun us s1 ⟨vs,H1,I1,r1,q1⟩ => ?_));obtain ⟨v1,v2,v3,e1,q1⟩:=q1;subst e1;obtain ⟨F,G,J,rfl,w1,w2,w3⟩:∃ F G J,us=[F,G,J]/\RelV v1 F/\RelV v2 G/\RelV v3 J:=by
  cases r1 with
  | cons p q=>cases q with
    | cons p' q'=>cases q' with
      | cons p'' q''=>cases q'';exact ⟨_,_,_,rfl,p,p',p''⟩
 refine GU ?_ (by show 3<=D0;decide)
 have I2:Inv X pins σ H1 { s1 with heap:=s1.heap.push { cls := .type "tuple",data := .seq [F,G,J].toArray } }:=I1.kept (t':=s1.toks) fun b o e=>h7 _ e
 rw [hw];refine e6 (hQ ?_);show FG (model X.prog X.w) X.A (do rule "assign.swapped-stores";let items <- unpackItems (.ref s1.heap.objs.size) 3 none;Mt [fun v=>LX X.env z v,fun v=>LX X.env y v,fun v=>LX X.env x v] items.reverse;pure Flow.next) _ _ _
 refine e6 (H9 (e6 (unpackItems_tuple (items := #[F,G,J]) (I.ok.hd hc) (Kf s1.heap _) fun h' Ef => ?_)));have I3:=I2.kept (h':=h') (t':=s1.toks) fun b o e=>Ef b o (G0 (Fz e)) e;show FG _ _ (Mt [fun v=>LX X.env z v,fun v=>LX X.env y v,fun v=>LX X.env x v] [J,G,F] >>= fun _=>pure Flow.next) _ _ _;refine e6 (J7 (LY (di I3 O hl (.inl hz) w3 (fun s2 I4 => ?_) (.inr hz))));refine J7 (LY (di I4 O hj (.inl hy) w2 (fun s3 I5 => ?_) (.inr hy)));refine J7 (LY (di I5 O hi (.inl hx) w1 (fun s4 I6=>MZ (hQ ?_)) (.inr hx)));have e:(((σ.set l (some v3)).set j (some v2)).set i (some v1))=((σ.set i (some v1)).set j (some v2)).set l (some v3):=by
  rw [Mv _ _ (Ne.symm Z),Mv _ _ (Ne.symm Y),Mv _ _ (Ne.symm U)]
 rw [e] at I6;exact ⟨_,H1,I6,q1⟩
end
namespace Mi
variable {K:Frag}
theorem uz {ta:TAd} {i j k:Nat} (m:b4 ta) (D:bn) (σ:St) (H:Hp) (h:lS K (nF ta (bM (bT i) (bM (bT j) (bM (bT k) gW)))) D σ H):yF i j k (lA K ta) D σ H:=by
 obtain ⟨ρ,M,A,rs,rm,l,q⟩:=h;refine ⟨ρ,M,rs,rm,m _ _ _ _ (fun ds M1 ⟨ρ',e,J⟩ vs H1 G B z => ?_) q⟩
 match ds,e,z with
 | [d1,d2,d3],e,z =>
  obtain ⟨v,r,rfl,r1,F⟩:=OM.mp z;obtain ⟨u,w,rfl,r2,r3⟩:=F.two;simp only [bM,bT,gW,JI,Nj] at e;subst e;exact ⟨v,u,w,rfl,l.nx _ M1 _ H1 G ((((rs.mono (G.stab rm)).set i r1).set j r2).set k r3) B J⟩
end Mi
end
end L2
namespace L2
open PySem PySem.Spec PyProof.Rows
namespace Mi
end Mi
end L2
namespace L2
namespace Mi
open PySem PySem.Spec PyProof.Rows
section
section
variable {X:Cx}
noncomputable def isD:D->D->Option Bool
 | x, .non=>some (match x with | .non=>true | _=>false)
 | x, .bl b=>some (match x with | .bl c=>c==b | _=>false)
 | _,_=>none
noncomputable def wIs:R2d:=fun x y M Q => ∃ k,isD x y=some k/\Q (.bl k) M
theorem A1:aB wIs:=fun _ _ _ _ _ h ⟨k,e,q⟩=>⟨k,e,h _ _ q⟩
theorem A2 {M:JP} {A:Gg} {E:e7->h8->Prop} {s:h8} {Q:e7->h8->Prop} {v:e7} {b:Bool} (j:∀ id,v ≠ .builtin id) (h:Q (.bool (v == .bool b)) s):FG M A (GA .Is v (.bool b)) Q E s:=by
 cases v <;> first | exact hQ h | exact absurd rfl (j _)
theorem BW {K:Frag} {H:Hp} {x y:D} {v w:V} {u t:e7} {k:Bool} (e:isD x y=some k) (rx:RD K H x v) (ry:RD K H y w) (ru:RelV v u) (rt:RelV w t):(t = .none/\(u == .none)=k) ∨ ∃ b,t = .bool b/\(u == .bool b)=k /\ ∀ id,u ≠ .builtin id:=by
 cases y with
 | non =>
   cases OP.mp ry
   cases rt
   refine .inl ⟨rfl, ?_⟩
   cases x with
   | non=>cases OP.mp rx;cases ru;cases e;rfl
   | bl c=>cases OL.mp rx;cases ru;cases e;rfl
   | int i=>cases OJ.mp rx;obtain ⟨tk,rfl⟩:=ru;cases e;rfl
   | str z=>cases OR.mp rx;obtain ⟨tk,rfl⟩:=ru;cases e;rfl
   | tup ds=>obtain ⟨a,vs,rfl,_⟩:=OQ rx;cases ru;cases e;rfl
   | con ds=>obtain ⟨a,vs,rfl,_⟩:=OO.mp rx;cases ru;cases e;rfl
   | ref a=>cases OK.mp rx;cases ru;cases e;rfl
   | fn z=>obtain ⟨a,rfl,_⟩:=OZ.mp rx;cases ru;cases e;rfl
 | bl b =>
   cases OL.mp ry
   cases rt
   refine .inr ⟨b,rfl, ?_⟩
   cases x with
   | non=>cases OP.mp rx;cases ru;cases e;exact ⟨rfl,fun _ z=>by cases z⟩
   | bl c=>cases OL.mp rx;cases ru;cases e;exact ⟨by cases b <;> cases c <;> rfl,fun _ z=>by cases z⟩
   | int i=>cases OJ.mp rx;obtain ⟨tk,rfl⟩:=ru;cases e;exact ⟨rfl,fun _ z=>by cases z⟩
   | str z=>cases OR.mp rx;obtain ⟨tk,rfl⟩:=ru;cases e;exact ⟨rfl,fun _ z=>by cases z⟩
   | tup ds=>obtain ⟨a,vs,rfl,_⟩:=OQ rx;cases ru;cases e;exact ⟨rfl,fun _ z=>by cases z⟩
   | con ds=>obtain ⟨a,vs,rfl,_⟩:=OO.mp rx;cases ru;cases e;exact ⟨rfl,fun _ z=>by cases z⟩
   | ref a=>cases OK.mp rx;cases ru;cases e;exact ⟨rfl,fun _ z=>by cases z⟩
   | fn z=>obtain ⟨a,rfl,_⟩:=OZ.mp rx;cases ru;cases e;exact ⟨rfl,fun _ z=>by cases z⟩
 | _=>cases e
theorem A3:OpR X (GA .Is) (l2 X.K wIs):=by
 intro pins s σ H v w u t Q I ru rt h;obtain ⟨x,y,M,rm,rx,ry,k,e,q⟩:=h;have fin:EP X pins σ Q (.bool k) s:=⟨.bl k,H,I,rfl,q _ H Ext.refl rm (OL.mpr rfl)⟩
 rcases BW e rx ry ru rt with ⟨rfl,j⟩ | ⟨b,rfl,j,nb⟩
 ·exact is_none_gen (by rw [j];exact fin)
 ·exact A2 nb (by rw [j];exact fin)
noncomputable def fL:D->Option Bool
 | .bl b=>some b
 | .int i=>some (i != 0)
 | _=>none
noncomputable def rN:RAd:=fun xs M Q => ∃ x ds ts,xs=[x]/\au M x=some ds/\aA fL ds=some ts/\Q (.bl (ts.all id)) M
noncomputable def xz:RAd:=fun xs M Q => ∃ x ds ts,xs=[x]/\au M x=some ds/\aA fL ds=some ts/\Q (.bl (ts.any id)) M
theorem nJ:aR rN:=fun _ _ _ _ h ⟨x,ds,ts,e,j,z,q⟩=>⟨x,ds,ts,e,j,z,h _ _ q⟩
theorem nK:aR xz:=fun _ _ _ _ h ⟨x,ds,ts,e,j,z,q⟩=>⟨x,ds,ts,e,j,z,h _ _ q⟩
theorem nL {α β:Type} {f : α -> Option β}:∀ {xs:List α} {ys:List β},aA f xs=some ys->ys.length=xs.length /\ ∀ (i:Nat) x,xs[i]? = some x -> ∃ y,ys[i]? = some y/\f x=some y
 | [],ys,h=>by cases h;exact ⟨rfl,fun i x e=>by simp at e⟩
 | x::xs,ys,h=>by
   simp only [aA] at h
   cases j:f x with
   | none=>rw [j] at h;cases h
   | some y =>
     rw [j] at h;simp only [JI] at h
     cases e2:aA f xs with
     | none=>rw [e2] at h;cases h
     | some r =>
       rw [e2] at h;cases h;obtain ⟨l,g⟩:=nL e2;refine ⟨by simp [l],fun i z e => ?_⟩
       cases i with
       | zero=>simp at e;subst e;exact ⟨y,rfl,j⟩
       | succ i=>simp at e;simpa using g i z e
theorem A4 {P:FR} {w:G7} {A:Gg} {E:e7->h8->Prop} {s:h8} {K:Frag} {H:Hp} {d:D} {v:V} {u:e7} {b:Bool} {Q:Bool->h8->Prop} (e:fL d=some b) (rd:RD K H d v) (ru:RelV v u) (q:Q b s):FG (model P w) A (truthy u) Q E s:=by
 cases d with
 | bl c=>cases OL.mp rd;cases ru;cases e;exact HN q
 | int i=>cases OJ.mp rd;obtain ⟨t,rfl⟩:=ru;cases e;exact PyProof.Rows.truthy_int q
 | _=>cases e
theorem range_all {ts:List Bool}:(Gc ts.length).all (fun i=>ts.getD i false)=ts.all id/\(Gc ts.length).any (fun i=>ts.getD i false)=ts.any id:=by
 have e:(Gc ts.length).map (fun i=>ts.getD i false)=ts:=by
  apply List.ext_getElem
  ·simp
  ·intro i h1 h2;simp [IG,r4 h2]
 constructor
 ·conv=>rhs;rw [<- e]
  rw [List.all_map];rfl
 ·conv=>rhs;rw [<- e]
  rw [Jt];rfl
theorem nN (J:X.calm=true) {pins:List (Addr×Obj)} {s:h8} {σ:St} {H:Hp} {M:Mem} {x:D} {ds:List D} {ts:List Bool} {v:V} {u:e7} {Q:e7->h8->Prop} {g:List Bool->Bool} (I:Inv X pins σ H s) (rm:RM X.K M H) (rd:RD X.K H x v) (ru:RelV v u) (O:au M x=some ds) (U:aA fL ds=some ts)
 (fin:∀ h' tk,Inv X pins σ H { s with heap:=h',toks:=tk }->Q (.bool (g ts)) { s with heap:=h',toks:=tk })
 (gg:Nat->(Nat->Bool)->Bool) (L:gg ts.length (fun i=>ts.getD i false)=g ts) :
 FG (model X.prog X.w) X.A.in1 (KJ u) (fun it s₂ => ∃ I fp wr n P St tr,it = .ref I/\Walks X.prog X.w X.A.in1 I fp wr n P St/\St 0 s₂.heap/\TruthOf X.prog X.w X.A.in1 P tr /\
  ∀ h' tk,(∀ b o,b∉wr->s₂.heap.get? b=some o->h'.get? b=some o)->Q (.bool (gg n tr)) { s₂ with heap:=h',toks:=tk }) X.xe s:=by
 obtain ⟨p,vs,rfl,sq,r2⟩:=iO rm rd O
 cases ru
 obtain ⟨lt,get⟩:=nL U;have lv:=r2.length;have tr:∀ (its:List e7),Vals vs its->TruthOf X.prog X.w X.A.in1 (fun i w=>its.toArray[i]? = some w) (fun i=>ts.getD i false):=by
  intro its rv i w s' Q' E' Y B;have q:its[i]? = some w:=by simpa using Y
  have li:=rv.length;have hi:i < its.length:=(FN.mp q).1;obtain ⟨d,hd⟩:∃ d,ds[i]? = some d:=⟨ds[i]'(by lia),r4 (by lia)⟩
  obtain ⟨v',F,rd'⟩:=r2.get hd;obtain ⟨u',z,ru'⟩:=rv.get F;rw [q] at z;cases z;obtain ⟨b,Z,eb⟩:=get i d hd;have:ts.getD i false=b:=by rw [IG,Z];rfl
  have B:Q' (ts.getD i false) s':=B;rw [this] at B;exact A4 eb rd' ru' B
 rcases sq with sq | sq
 ·obtain ⟨its,rv,pl,hz⟩:=I.list sq;have li:=rv.length;have j:p < s.heap.objs.size:=by obtain ⟨o,n,e,_⟩:=pl;exact Fz e
  refine Hu pl.isList ⟨s.heap.objs.size,_,_,_,_,_,_,rfl,Walks.list (by rw [MV];exact I.ok.hd J) s.heap.objs.size p (G0 j) its.toArray,⟨⟨_,FF _ rfl,rfl,rfl⟩,pl.isList.at fun o e=>h7 _ e⟩,tr its rv,fun h' tk k => ?_⟩
  have G:its.toArray.size=ts.length:=by rw [D1];lia
  rw [G,L];exact fin h' tk (I.kept (t':=tk) fun b o e=>k b o (by simp;exact G0 (Fz e)) (h7 _ e))
 ·obtain ⟨its,rv,pl,hz⟩:=I.tuple sq;have li:=rv.length;have j:p < s.heap.objs.size:=by obtain ⟨o,e,_⟩:=pl;exact Fz e
  have pt:s.heap.IsTuple p its.toArray:=pl;refine Ha pt ⟨s.heap.objs.size,_,_,_,_,_,_,rfl,Walks.tuple (by rw [MV];exact I.ok.hd J) s.heap.objs.size p (G0 j) its.toArray,⟨⟨_,FF _ rfl,rfl,rfl⟩,pt.push _⟩,tr its rv,fun h' tk k => ?_⟩
  have G:its.toArray.size=ts.length:=by rw [D1];lia
  rw [G,L];exact fin h' tk (I.kept (t':=tk) fun b o e=>k b o (by simp;exact G0 (Fz e)) (h7 _ e))
theorem rO (j:X.calm=true):CallR X (.builtin "all") (lR X.K rN):=by
 intro pins s σ H xs us Q I rv h;obtain ⟨ds,M,rm,rs,x,es,ts,rfl,z,B,q⟩:=h;obtain ⟨v,rfl,r⟩:=rs.one;obtain ⟨u,rfl,ru⟩:=cq rv;exact call_all_walk (nN j I rm r ru z B (g:=fun ts=>ts.all id) (fun h' tk I'=>⟨.bl _,H,I',rfl,q _ H Ext.refl rm (OL.mpr rfl)⟩) (fun n tr=>(Gc n).all tr) range_all.1)
theorem rP (j:X.calm=true):CallR X (.builtin "any") (lR X.K xz):=by
 intro pins s σ H xs us Q I rv h;obtain ⟨ds,M,rm,rs,x,es,ts,rfl,z,B,q⟩:=h;obtain ⟨v,rfl,r⟩:=rs.one;obtain ⟨u,rfl,ru⟩:=cq rv;exact call_any_walk (nN j I rm r ru z B (g:=fun ts=>ts.any id) (fun h' tk I'=>⟨.bl _,H,I',rfl,q _ H Ext.refl rm (OL.mpr rfl)⟩) (fun n tr=>(Gc n).any tr) range_all.2)
noncomputable def j7 (t:Bool):TEd:=fun _ M Q => ∀ p,M p=none->Q (.ref p) (ad M p (.dct t []))
theorem uA {t:Bool}:ae (j7 t):=fun _ _ _ _ i q p n=>i _ _ (q p n)
theorem A5 {t:Bool} {pos:Pos}:PE X (.Dict [] [] pos) (lE X.K (j7 t)):=by
 cases t with
 | false =>
   refine PE.imp ww fun σ H Q ⟨ρ,M,rs,rm,q⟩ p n => ?_;exact q p (rm.out n) (.ref p) _ (Ext.lay n) (rm.lay n ⟨[],ax, .nil⟩) (OK.mpr rfl)
 | true =>
   refine PE.imp wx fun σ H Q ⟨ρ,M,rs,rm,q⟩ p n => ?_;exact q p (rm.out n) (.ref p) _ (Ext.lay n) (rm.lay n ⟨[],ax, .nil⟩) (OK.mpr rfl)
end
end
end Mi
end L2
namespace L2
namespace Srt
open PySem PySem.Spec PyProof.Rows
structure Cm (prog:FR) (w:G7) (A:Gg) (s:h8) (kd:JT) (P:FT->Prop) (lt:FT->FT->Bool):Prop where
 asym:∀ x y,lt x y=true->lt y x=false
 neg:∀ x y z,lt x z=true->lt x y=true∨lt y z=true
 run:∀ (x y:FT) (E:e7->h8->Prop) (Q:Bool->h8->Prop),P x->P y->Q (lt x y) s->FG (FQ prog w) A (keyLt' kd x.1 y.1) Q E s
section
variable {prog:FR} {w:G7} {A:Gg} {E:e7->h8->Prop} {s:h8} {kd:JT} {P:FT->Prop} {lt:FT->FT->Bool}
theorem ao {σ α:Type} {M:JP} {x : α} {st : σ} {Q : α -> σ -> Prop} (q:Q x st):wpS M A E s (pure x) Q st :=
 fun _ _ _=>⟨rfl,q⟩
theorem nO {σ:Type} {M:JP} {tag:String} {st : σ} {Q:Unit -> σ -> Prop} (q:Q () st):wpS M A E s (liftM (PySem.rule tag)) Q st :=
 wpS_lift (H9 ⟨rfl,q⟩)
theorem Dj (c:Cm prog w A s kd P lt) {x y:FT} {st:Hr} {Q:Option Bool->Hr->Prop} (j:Hz st=kd) (hx:P x) (z:P y) (q:Q (some (lt x y)) st):wpS (FQ prog w) A E s (lt' x y) Q st:=by
 rw [lt'_eq];refine Gi (Nk ?_);refine Gi (wpS_lift ?_);rw [j];intro Γ p hp;rw [Sem.wp_attempt];exact c.run x y (fun e s'=>s'=s/\wpS (FQ prog w) A E s (do modify fun s=>JJ (Hz s) (Gk s) (HD s) (gallopOf s) (some e);pure none) Q st) (fun b s'=>s'=s/\wpS (FQ prog w) A E s (pure (some b)) Q st) hx z ⟨rfl,ao q⟩ Γ p hp
theorem qc {arr:Array FT} {i:Nat} {x:FT} {st:Hr} {Q:FT->Hr->Prop} (h:arr[i]? = some x) (q:Q x st):wpS (FQ prog w) A E s (elem' arr i) Q st:=by
 rw [elem'_eq,h];exact ao q
theorem Cm.le_trans (c:Cm prog w A s kd P lt) {x y z:FT} (h:lt y x=false) (h2:lt z y=false):lt z x=false:=by
 cases e:lt z x with
 | false=>rfl
 | true=>rcases c.neg z y x e with q | q <;> simp_all
theorem Cm.irr (c:Cm prog w A s kd P lt) {x:FT}:lt x x=false:=by
 cases e:lt x x with
 | false=>rfl
 | true=>have:=c.asym x x e;rw [e] at this;exact this
theorem bq {σ α:Type} {M:JP} {m:StateT σ Sem α} {st : σ} {Q Q' : α -> σ -> Prop} (h:wpS M A E s m Q st) (q:∀ a st',Q a st'->Q' a st'):wpS M A E s m Q' st :=
 H8 h (fun a s' z=>⟨z.1,q _ _ z.2⟩) fun _ _ z=>z
end
noncomputable def bey (lt:FT->FT->Bool) (left:Bool) (key x:FT):Bool:=if left=true then lt x key else !(lt key x)
structure Same (st st':Hr):Prop where
 arr:Gk st'=Gk st
 kind:Hz st'=Hz st
 pend:HD st'=HD st
 fail:J1 st'=J1 st
section
variable {prog:FR} {w:G7} {A:Gg} {E:e7->h8->Prop} {s:h8} {kd:JT} {P:FT->Prop} {lt:FT->FT->Bool}
theorem nP (c:Cm prog w A s kd P lt) {left:Bool} {key x y:FT} (h:lt y x=false) (j:bey lt left key y=true):bey lt left key x=true:=by
 unfold bey at j ⊢
 cases left with
 | true =>
   rw [if_pos rfl] at j ⊢
   rcases c.neg y x key j with q | q
   ·rw [h] at q;cases q
   ·exact q
 | false =>
   simp at j ⊢
   cases e:lt key x with
   | false=>rfl
   | true =>
     rcases c.neg key y x e with q | q
     ·rw [j] at q;cases q
     ·rw [h] at q;cases q
structure Gal (lt:FT->FT->Bool) (left:Bool) (key:FT) (xs:List FT) (lo hi:Nat):Prop where
 le:lo<=hi
 len:hi<=xs.length
 up:∀ i x,i < lo->xs[i]? = some x->bey lt left key x=true
 dn:∀ i x,hi<=i->xs[i]? = some x->bey lt left key x=false
theorem j8 {xs:List FT} {R:FT->FT->Prop} (h:xs.Pairwise R) {i j:Nat} {x y:FT} (q:i < j) (hx:xs[i]? = some x) (z:xs[j]? = some y):R x y:=by
 obtain ⟨h1,B⟩:=FN.mp hx;obtain ⟨h2,F⟩:=FN.mp z;rw [<- B, <- F];exact List.pairwise_iff_getElem.mp h i j h1 h2 q
theorem Dl (c:Cm prog w A s kd P lt) {left:Bool} {key:FT} {xs:List FT} (h:xs.Pairwise (fun x y=>lt y x=false)) {j:Nat} {y:FT} (q:xs[j]? = some y) (z:bey lt left key y=true):∀ i x,i < j+1->xs[i]? = some x->bey lt left key x=true:=by
 intro i x hi hx
 by_cases e:i=j
 ·subst e;rw [hx] at q;cases q;exact z
 ·exact nP c (j8 h (by lia) hx q) z
theorem Dm (c:Cm prog w A s kd P lt) {left:Bool} {key:FT} {xs:List FT} (h:xs.Pairwise (fun x y=>lt y x=false)) {j:Nat} {y:FT} (z:xs[j]? = some y) (B:bey lt left key y=false):∀ i x,j<=i->xs[i]? = some x->bey lt left key x=false:=by
 intro i x hi hx
 by_cases e:i=j
 ·subst e;rw [hx] at z;cases z;exact B
 ·cases q:bey lt left key x with
  | false=>rfl
  | true=>have:=nP c (j8 h (by lia) z hx) q;rw [B] at this;cases this
theorem Gal.out {left:Bool} {key:FT} {xs:List FT} {k:Nat} (g:Gal lt left key xs k k):∃ X Y,xs=X++Y/\X.length=k/\(∀ x∈X,bey lt left key x=true)/\(∀ x∈Y,bey lt left key x=false):=by
 refine ⟨xs.take k,xs.drop k,(HH k xs).symm,by rw [G9];exact JZ g.len,fun x hx => ?_,fun x hx => ?_⟩
 ·obtain ⟨i,hi,e⟩:=IH.mp hx;rw [G9] at hi;exact g.up i x (by lia) (by rw [List.getElem_take] at e;rw [<- e];exact r4 _)
 ·obtain ⟨i,hi,e⟩:=IH.mp hx;rw [JE] at hi;refine g.dn (k+i) x (by lia) ?_
  rw [List.getElem_drop] at e;rw [<- e];exact r4 _
noncomputable abbrev Ord (lt:FT->FT->Bool) (l:List FT):Prop:=l.Pairwise fun x y=>lt y x=false
structure ML (lt:FT->FT->Bool) (la lb out:List FT) (ia ib:Nat):Prop where
 pa:Ord lt (out++la.drop ia)
 pb:Ord lt (out++lb.drop ib)
 pm:(out++(la.drop ia++lb.drop ib)).Perm (la++lb)
theorem xA {l:List FT} {i:Nat} {x:FT} (h:l[i]? = some x):l.drop i=[x]++l.drop (i+1):=by
 obtain ⟨hi,e⟩:=FN.mp h;rw [HJ hi,e];rfl
theorem ML.size {la lb out:List FT} {ia ib:Nat} (m:ML lt la lb out ia ib) (j:ia<=la.length) (q:ib<=lb.length):out.length=ia+ib:=by
 have:=m.pm.length_eq;simp only [i5,JE] at this;lia
theorem Same.trans {a b c:Hr} (h:Same a b) (g:Same b c):Same a c:=⟨g.arr.trans h.arr,g.kind.trans h.kind,g.pend.trans h.pend,g.fail.trans h.fail⟩
structure MH (lt:FT->FT->Bool) (la lb out:List FT) (na nb:Nat):Prop where
 pa:Ord lt (la.take na++out.reverse)
 pb:Ord lt (lb.take nb++out.reverse)
 pm:(la.take na++lb.take nb++out.reverse).Perm (la++lb)
theorem qd (c:Cm prog w A s kd P lt) {l:List FT} {n:Nat} {x y:FT} (h:Ord lt (l.take n)) (G : 0 < n) (B:l[n - 1]? = some y) (hx:lt x y=false):∀ z∈l.take n,lt x z=false:=by
 intro z F;obtain ⟨i,hi,e⟩:=IH.mp F;have j:(l.take n)[i]? = some z:=by rw [<- e];exact r4 hi
 have q:(l.take n)[n - 1]? = some y:=by rw [IX (by lia)];exact B
 rw [G9] at hi
 by_cases hin:i=n - 1
 ·subst hin;rw [q] at j;cases j;exact hx
 ·exact c.le_trans (j8 h (by lia) j q) hx
theorem nQ {l:List FT} {n:Nat} {x:FT} (j : 0 < n) (h:l[n - 1]? = some x):l.take n=l.take (n - 1)++[x]:=by
 obtain ⟨k,rfl⟩:∃ k,n=k+1:=⟨n - 1,by lia⟩
 rw [Nat.add_sub_cancel] at h ⊢;rw [Nl,h];rfl
theorem MH.size {la lb out:List FT} {na nb:Nat} (m:MH lt la lb out na nb) (j:na<=la.length) (q:nb<=lb.length):out.length+na+nb=la.length+lb.length:=by
 have:=m.pm.length_eq;simp only [i5,G9,Mo] at this;lia
theorem bj {σ α:Type} {M:JP} {p:Prop} [Decidable p] {j q:StateT σ Sem α} {st : σ} {Q : α -> σ -> Prop} (h1:p->wpS M A E s j Q st) (h2 : ¬p->wpS M A E s q Q st):wpS M A E s (if p then j else q) Q st:=by
 split
 ·next h=>exact h1 h
 ·next h=>exact h2 h
end
end Srt
end L2
namespace L2
namespace Srt
open PySem PySem.Spec PyProof.Rows
section
variable {prog:FR} {w:G7} {A:Gg} {E:e7->h8->Prop} {s:h8} {kd:JT} {P:FT->Prop} {lt:FT->FT->Bool}
structure Kp (st st':Hr):Prop where
 kind:Hz st'=Hz st
 pend:HD st'=HD st
 fail:J1 st'=J1 st
theorem Kp.refl {st:Hr}:Kp st st:=⟨rfl,rfl,rfl⟩
theorem Kp.trans {a b c:Hr} (h:Kp a b) (g:Kp b c):Kp a c:=⟨g.kind.trans h.kind,g.pend.trans h.pend,g.fail.trans h.fail⟩
theorem pw {a:Array FT} {L B R:List FT} (e:a.toList=L++(B++R)) {i j:Nat} (hi:i=L.length) (q:j=L.length+B.length):(mirror a i j ((j - i) / 2)).toList=L++(B.reverse++R):=by
 have hs:a.size=L.length+(B.length+R.length):=by rw [<- GC,e];simp
 apply HR;intro k;rw [GG,getElem?_mirror_all (by lia)]
 have g:∀ n:Nat,a[n]? = (L++(B++R))[n]? := fun n=>by rw [<- GG,e]
 rw [g,g]
 by_cases h1:k < L.length
 ·rw [if_neg (by lia),FH h1,FH h1]
 ·by_cases h2:k < j
  ·rw [if_pos (by lia),z4 (by lia),FH (by lia),z4 (by lia),FH (by simp;lia),List.getElem?_reverse (by lia)]
   congr 1;lia
  ·rw [if_neg (by lia),z4 (by lia),z4 (by lia),z4 (by lia),z4 (by simp;lia)]
   simp
theorem pB {a:Array FT} {L j q R:List FT} {x:FT} (e:a.toList=L++((j++q)++x::R)) {src d:Nat} (hi:src=L.length+(j.length+q.length)) (hd:d=q.length):(bubble a src d).toList=L++((j++x::q)++R):=by
 have hs:a.size=L.length+(j.length+q.length+(R.length+1)):=by rw [<- GC,e];simp;lia
 apply HR;intro k;rw [GG,getElem?_bubble (by lia) d (by lia)]
 have g:∀ n:Nat,a[n]? = (L++((j++q)++x::R))[n]? := fun n=>by rw [<- GG,e]
 rw [g,g,g]
 by_cases h1:k < L.length
 ·rw [if_neg (by lia),if_neg (by lia),FH h1,FH h1]
 ·by_cases h2:k < L.length+j.length
  ·rw [if_neg (by lia),if_neg (by lia),z4 (by lia),FH (by simp;lia),FH (by lia),z4 (by lia),FH (by simp;lia),FH (by lia)]
  ·by_cases h3:k=L.length+j.length
   ·rw [if_pos (by lia),z4 (by lia),z4 (by simp;lia),z4 (by lia),FH (by simp;lia),z4 (by lia)]
    have B:src - L.length - (j++q).length=0:=by simp;lia
    have z:k - L.length - j.length=0:=by lia
    rw [B,z];rfl
   ·by_cases h4:k<=src
    ·rw [if_neg (by lia),if_pos (by lia),z4 (by lia),FH (by simp;lia),z4 (by lia),z4 (by lia),FH (by simp;lia),z4 (by lia)]
     have z:k - L.length - j.length=(k - 1 - L.length - j.length)+1:=by lia
     rw [z,I7]
    ·rw [if_neg (by lia),if_neg (by lia),z4 (by lia),z4 (by simp;lia),z4 (by lia),z4 (by simp;lia)]
     have z:k - L.length - (j++q).length=(k - L.length - (j++x::q).length)+1:=by simp;lia
     rw [z,I7]
theorem cZ (c:Cm prog w A s kd P lt) {i j:Nat} {x y:FT} {st:Hr} {Q:Option Bool->Hr->Prop} (z:Hz st=kd) (hx:(Gk st)[i]? = some x) (B:(Gk st)[j]? = some y) (px:P x) (py:P y) (q:Q (some (lt x y)) st):wpS (FQ prog w) A E s (ltAt' i j) Q st:=by
 rw [ltAt'_eq];exact Gi (Nk (Gi (qc hx (Gi (qc B (Dj c z px py q))))))
theorem j9 {i j:Nat} {st:Hr} {Q:Unit->Hr->Prop} {L B R:List FT} (e:(Gk st).toList=L++(B++R)) (hi:i=L.length) (z:j=L.length+B.length) (q:∀ st',(Gk st').toList=L++(B.reverse++R)->Kp st st'->Q () st'):wpS (FQ prog w) A E s (reverseSlice' i j) Q st:=by
 rw [reverseSlice'_eq];exact Ow (q _ (pw e hi z) ⟨rfl,rfl,rfl⟩)
theorem bQ {st:Hr} {L xs:List FT} (e:(Gk st).toList=L++xs) {i n:Nat} (hi:i=L.length+n):(Gk st)[i]? = xs[n]? := by
 rw [<- GG,e,hi,z4 (by lia)]
 congr 1;lia
theorem nR (c:Cm prog w A s kd P lt) {xs:List FT} {n:Nat} {x y:FT} (h:Ord lt (xs.take n)) (q : 0 < n) (hx:xs[n]? = some x) (B:xs[n - 1]? = some y) (F:lt x y=false):Ord lt (xs.take (n+1)):=by
 rw [Nl,hx];refine Gu.mpr ⟨h,by simp,fun z G u j => ?_⟩
 simp at j;subst j;exact qd c h q B F z G
noncomputable abbrev cB (lt:FT->FT->Bool) (l:List FT):Prop:=l.Pairwise fun x y=>lt x y=false
theorem gZ (c:Cm prog w A s kd P lt) {D:List FT} {e x:FT} (h:cB lt (D++[e])) (hx:lt e x=false):cB lt (D++[e]++[x]):=by
 refine Gu.mpr ⟨h,by simp,fun z B u j => ?_⟩
 simp at j;subst j;obtain ⟨_,_,F⟩:=Gu.mp h
 rcases FC.mp B with g | g
 ·cases q:lt z u with
  | false=>rfl
  | true=>rcases c.neg z e u q with r | r
          ·rw [F z g e (by simp)] at r;cases r
          ·rw [hx] at r;cases r
 ·simp at g;subst g;exact hx
theorem qe {q F:List FT} (h:cB lt (q++F)) (he:∀ x∈F, ∀ y∈F,lt x y=false):cB lt (q++F.reverse):=by
 obtain ⟨h1,h2,z⟩:=Gu.mp h;refine Gu.mpr ⟨h1, ?_,fun x hx y j=>z x hx y (IJ.mp j)⟩;rw [LC];exact h2.imp_of_mem fun hx j _=>he _ j _ hx
theorem perm_take {xs:List FT} {n:Nat}:(xs.take n++xs.drop n).Perm xs:=by rw [HH]
theorem pC (c:Cm prog w A s kd P lt) {L xs:List FT} {st:Hr} {Q:Option Nat->Hr->Prop} (hk:Hz st=kd) (O:(Gk st).toList=L++xs) (h0:xs≠[]) (hP:∀ x∈xs,P x)
 (q:∀ r R st',(Gk st').toList=L++(r++R)->(r++R).Perm xs->r≠[]->Ord lt r->Kp st st'->Q (some r.length) st'):wpS (FQ prog w) A E s (countRun' L.length xs.length) Q st:=by
 have EE : 0 < xs.length:=K6.mpr h0;rw [countRun'_eq]
 try dsimp -zeta -zetaHave -zetaUnused only
 refine Gi (bq (Q:=fun r st'=>st'=st /\ ∃ n,r=(none,n)/\1<=n/\n<=xs.length/\Ord lt (xs.take n)/\(n=xs.length ∨ ∃ x y,xs[n]? = some x/\xs[n - 1]? = some y/\lt x y=true))
  (IK (fun i r st'=>st'=st/\r=(none,i)/\Ord lt (xs.take i)) ?_ ?_ ⟨rfl,rfl,by
    cases xs with
    | nil=>exact absurd rfl h0
    | cons x t=>simp⟩) ?_)
 ·rintro i r st' h1 hi ⟨rfl,rfl,ho⟩;dsimp only;obtain ⟨x,hx⟩:∃ x,xs[i]? = some x:=⟨_,r4 hi⟩;obtain ⟨y,hy⟩:∃ y,xs[i - 1]? = some y:=⟨_,r4 (by lia)⟩
  refine Gi (cZ c hk ((bQ O rfl).trans hx) ((bQ O (by lia)).trans hy) (hP _ (FU hx)) (hP _ (FU hy)) ?_)
  dsimp only;refine bj (fun h => ?_) (fun h => ?_)
  ·exact ao ⟨rfl,i,rfl,h1,by lia,ho, .inr ⟨x,y,hx,hy,h⟩⟩
  ·exact ao ⟨rfl,rfl,nR c ho (by lia) hx hy (by simpa using h)⟩
 ·rintro r st' ⟨rfl,rfl,ho⟩;exact ⟨rfl,_,rfl,by lia,by lia,ho, .inl (by lia)⟩
 ·rintro r st' ⟨rfl,n,rfl,F4,EF,ho,hc⟩;dsimp -zeta -zetaHave -zetaUnused only;have Es:Q (some n) st':=by
   have:=q (xs.take n) (xs.drop n) st' (by rw [O,HH]) perm_take (fun z=>by
    have h3:=congrArg Hh z;rw [G9,Io] at h3;lia) ho Kp.refl
   rw [G9,JZ EF] at this;exact this
  extract_lets -underBinder +onlyGivenNames vr vn
  dsimp -zeta -zetaHave -zetaUnused only [vr];clear vr;have en:n=vn:=rfl
  clear_value vn
  subst en;refine bj (fun h=>ao Es) (fun h => ?_);have ER:n≠xs.length:=by simpa using h
  obtain ⟨x,y,hx,hy,ES⟩:=hc.resolve_left ER;have F5:n < xs.length:=by lia
  have exs:xs=xs.take n++x::xs.drop (n+1):=by
   have h1:=(HH n xs).symm;rw [xA hx] at h1;exact h1
  have EG:y∈xs.take n:=by rw [nQ (by lia) hy];simp
  extract_lets -underBinder +onlyGivenNames jp
  have EH:∀ (B:List FT) (Eg:Hr),(Gk Eg).toList=L++(B++x::xs.drop (n+1))->B.Perm (xs.take n)->B.length=n->(∀ u∈B, ∀ v∈B,lt u v=false)->y∈B->Kp st' Eg->wpS (FQ prog w) A E s (jp ()) Q Eg:=by
   intro B Eg e1 hB Eh Ei Ej Ek;dsimp -zeta -zetaHave -zetaUnused only [jp];clear jp;refine Gi (nO ?_)
   try dsimp -zeta -zetaHave -zetaUnused only
   extract_lets -underBinder +onlyGivenNames vn1 vq1
   have ET:vn1=n+1:=rfl;have eq1:vq1=0:=rfl
   clear_value vn1 vq1
   subst ET eq1;refine Gi (bq (Q:=fun r U => ∃ G F R neq,Kp st' U/\(Gk U).toList=L++((G++F)++R)/\((G++F)++R).Perm xs/\r=(none,(G++F).length,neq)/\F.length=neq+1/\cB lt (G++F)/\(∀ u∈F, ∀ v∈F,lt u v=false))
    (IK (fun i r U => ∃ G F R neq,Kp st' U/\(Gk U).toList=L++((G++F)++R)/\((G++F)++R).Perm xs/\r=(none,(G++F).length,neq)/\F.length=neq+1/\cB lt (G++F)/\(∀ u∈F, ∀ v∈F,lt u v=false)/\(G++F).length=i) ?_ ?_ ?_) ?_)
   ·rintro i r U F6 hi ⟨G,F,R,neq,kp,ea,hp,rfl,hF,hN,hE,EI⟩;subst EI;have hlen:=hp.length_eq;rw [i5] at hlen;obtain ⟨z,R',rfl⟩:∃ z R',R=z::R':=by
     cases R with
     | nil=>simp at hlen;simp at hi;lia
     | cons z R'=>exact ⟨z,R',rfl⟩
    have EU:F≠[]:=fun z=>by rw [z] at hF;simp at hF
    obtain ⟨F0,e,rfl⟩:∃ F0 e,F=F0++[e]:=⟨F.dropLast,F.getLast EU,(List.dropLast_concat_getLast _).symm⟩;have hz:(Gk U)[L.length+(G++(F0++[e])).length]? = some z:=by
     rw [bQ ea rfl,z4 (by lia),Nm];rfl
    have he:(Gk U)[L.length+(G++(F0++[e])).length - 1]? = some e:=by
     rw [bQ ea (n:=(G++F0).length) (by simp <;> lia),FH (by simp <;> lia), <- Gb,z4 (by lia),Nm];rfl
    have EJ:P z:=hP z (hp.mem_iff.mp (by simp))
    have EK:P e:=hP e (hp.mem_iff.mp (by simp))
    dsimp only;refine Gi (cZ c (kp.kind.trans hk) hz he EJ EK ?_);dsimp only;have Ew:cB lt (G++F0++[e]):=by rw [Gb];exact hN
    refine bj (fun Ex => ?_) (fun Ex => ?_)
    ·have El:lt e z=false:=c.asym _ _ Ex;refine bj (fun Em => ?_) (fun Em => ?_)
     ·refine Gi (j9 (L:=L++G) (B:=F0++[e]) (R:=z::R') (by rw [ea];simp) (by simp only [i5] at hF ⊢;simp only [G6] at hF ⊢;lia) (by simp <;> lia) fun Z e3 Y => ?_)
      refine ao ⟨G++(F0++[e]).reverse,[z],R',0,kp.trans Y,by rw [e3];simp, ?_,by simp <;> lia,rfl, ?_, ?_,by simp <;> lia⟩
      ·refine List.Perm.trans ?_ hp;rw [Gb,Gb,Gb];exact JB _ (Il _ (Ju _))
      ·have h1:=qe hN hE;refine Gu.mpr ⟨h1,by simp,fun u j v J => ?_⟩
       simp at J;subst J;have hm:=gZ c Ew El;refine (Gu.mp hm).2.2 u ?_ v (by simp)
       rw [Gb]
       rcases FC.mp j with g | g
       ·exact G4 _ g
       ·exact FE _ (IJ.mp g)
      ·intro u j v J;simp at j J;subst j J;exact c.irr
     ·refine ao ⟨G++(F0++[e]),[z],R',0,kp,by rw [ea];simp,by simpa using hp,by simp <;> lia,rfl, ?_, ?_,by simp <;> lia⟩
      ·have hm:=gZ c Ew El;simpa using hm
      ·intro u j v J;simp at j J;subst j J;exact c.irr
    ·have EV:lt z e=false:=by simpa using Ex
     refine Gi (cZ c (kp.kind.trans hk) he hz EK EJ ?_);dsimp only;refine bj (fun EL => ?_) (fun EL => ?_)
     ·exact ao ⟨G,F0++[e],z::R',neq,kp,ea,hp,rfl,hF,hN,hE⟩
     ·have El:lt e z=false:=by simpa using EL
      refine ao ⟨G,(F0++[e])++[z],R',neq+1,kp,by rw [ea];simp,by simpa using hp,by simp <;> lia,by simp at hF ⊢;lia, ?_, ?_,by simp <;> lia⟩
      ·have hm:=gZ c Ew El;simpa using hm
      ·have EW:∀ u∈F0++[e],lt u z=false:=fun u j=>by
        cases q1:lt u z with
        | false=>rfl
        | true=>rcases c.neg u e z q1 with r | r
                ·rw [hE u j e (by simp)] at r;cases r
                ·rw [El] at r;cases r
       have EX:∀ u∈F0++[e],lt z u=false:=fun u j=>by
        cases q1:lt z u with
        | false=>rfl
        | true=>rcases c.neg z e u q1 with r | r
                ·rw [EV] at r;cases r
                ·rw [hE e (by simp) u j] at r;cases r
       intro u j v J
       rcases FC.mp j with g | g <;> rcases FC.mp J with g2 | g2
       ·exact hE u g v g2
       ·simp at g2;subst g2;exact EW u g
       ·simp at g;subst g;exact EX v g2
       ·simp at g g2;subst g g2;exact c.irr
   ·rintro r U ⟨G,F,R,neq,kp,ea,hp,hr,hF,hN,hE,EI⟩;exact ⟨G,F,R,neq,kp,ea,hp,hr,hF,hN,hE⟩
   ·refine ⟨B,[x],xs.drop (n+1),0,Ek,by rw [e1];simp, ?_,by simp [Eh],rfl, ?_, ?_,by simp [Eh]⟩
    ·have h9:(B++x::xs.drop (n+1)).Perm xs:=by
      have h9:=Il (x::xs.drop (n+1)) hB;rw [<- exs] at h9;exact h9
     simpa using h9
    ·refine Gu.mpr ⟨List.Pairwise.imp_of_mem (fun j J _=>Ei _ j _ J) (List.pairwise_of_forall_mem_list (r:=fun _ _=>True) fun _ _ _ _=>trivial),by simp,fun u j v J => ?_⟩
     simp at J;subst J
     cases q1:lt u v with
     | false=>rfl
     | true=>rcases c.neg u y v q1 with r | r
             ·rw [Ei u j y Ej] at r;cases r
             ·rw [c.asym _ _ ES] at r;cases r
    ·intro u j v J;simp at j J;subst j J;exact c.irr
   ·rintro r U ⟨G,F,R,neq,kp,ea,hp,rfl,hF,hN,hE⟩;dsimp -zeta -zetaHave -zetaUnused only
    extract_lets -underBinder +onlyGivenNames vr vs vn2 vq2
    dsimp -zeta -zetaHave -zetaUnused only [vr];have EY:vn2=(G++F).length:=rfl;have eq2:neq=vq2:=rfl
    clear_value vn2 vq2
    clear vs vr;subst EY eq2
    extract_lets -underBinder +onlyGivenNames Eo
    have Et:∀ (D:List FT) (Z:Hr),(Gk Z).toList=L++(D++R)->cB lt D->(D++R).Perm xs->D.length=(G++F).length->0 < D.length->Kp st' Z->wpS (FQ prog w) A E s (Eo ()) Q Z:=by
     intro D Z e3 Ey Ez Ep Eu Y;dsimp -zeta -zetaHave -zetaUnused only [Eo];clear Eo;have EZ : 0 < D.length:=by lia
     refine Gi (j9 (L:=L) (B:=D) (R:=R) e3 rfl (by rw [Ep]) fun EM e4 EN => ?_)
     have o4:Ord lt D.reverse:=LC.mpr Ey;have Er:(D.reverse++R).Perm xs:=(Il _ (Ju D)).trans Ez;have EO:(D.reverse++R).length=xs.length:=Er.length_eq;have EA:Ord lt ((D.reverse++R).take D.length):=by
      rw [List.take_append_of_le_length (by simp),Lp (by simp)];exact o4
     have EB:∀ u∈D.reverse++R,P u:=fun u j=>hP u (Er.mem_iff.mp j);have F1:D.length<=xs.length:=by rw [<- EO];simp
     rw [<- Ep];generalize D.length=N0 at EA EZ F1;generalize D.reverse++R=ys at e4 Er EO EA EB;refine Gi (bq (Q:=fun r Ef=>Ef=EM /\ ∃ n,r=(none,n)/\1<=n/\n<=xs.length/\Ord lt (ys.take n))
      (IK (fun i r Ef=>Ef=EM/\r=(none,i)/\Ord lt (ys.take i)) ?_ ?_ ⟨rfl,rfl,EA⟩) ?_)
     ·rintro i r Ef h1 hi ⟨rfl,rfl,ho⟩;dsimp only;obtain ⟨u,j⟩:∃ u,ys[i]? = some u:=⟨_,r4 (by lia)⟩
      obtain ⟨v,J⟩:∃ v,ys[i - 1]? = some v:=⟨_,r4 (by lia)⟩
      refine Gi (cZ c ((Y.trans EN).kind.trans hk) ((bQ e4 rfl).trans j) ((bQ e4 (by lia)).trans J) (EB _ (FU j)) (EB _ (FU J)) ?_)
      dsimp only;refine bj (fun h => ?_) (fun h => ?_)
      ·exact ao ⟨rfl,i,rfl,by lia,by lia,ho⟩
      ·exact ao ⟨rfl,rfl,nR c ho (by lia) j J (by simpa using h)⟩
     ·rintro r Ef ⟨rfl,rfl,ho⟩;exact ⟨rfl,_,rfl,by lia,by lia,ho⟩
     ·rintro r Ef ⟨rfl,m,rfl,F7,F8,ho⟩;refine ao ?_;have:=q (ys.take m) (ys.drop m) Ef (by rw [e4,HH]) (perm_take.trans Er) (fun z=>by
       have h3:=congrArg Hh z;rw [G9,Io] at h3;lia) ho (Y.trans EN)
      rw [G9,JZ (by lia)] at this
      exact this
    clear_value Eo
    refine bj (fun Em => ?_) (fun Em => ?_)
    ·refine Gi (j9 (L:=L++G) (B:=F) (R:=R) (by rw [ea];simp) (by simp <;> lia) (by simp <;> lia) fun Z e3 Y => ?_)
     have Y:=kp.trans Y;have e3:(Gk Z).toList=L++((G++F.reverse)++R):=by rw [e3];simp
     have Ey:=qe hN hE;have Ez:((G++F.reverse)++R).Perm xs:=(Il _ (JB _ (Ju _))).trans hp;have Ep:(G++F.reverse).length=(G++F).length:=by simp
     have Eu : 0 < (G++F.reverse).length:=by simp <;> lia
     exact Et _ _ e3 Ey Ez Ep Eu Y
    ·exact Et _ _ ea hN hp rfl (by simp <;> lia) kp
  clear_value jp
  refine bj (fun h1 => ?_) (fun h1 => ?_)
  ·obtain ⟨x0,EC⟩:∃ x0,xs[0]? = some x0:=⟨_,r4 EE⟩;refine Gi (cZ c hk ((bQ O (n := 0) (by lia)).trans EC) ((bQ O (by lia)).trans hy) (hP _ (FU EC)) (hP _ (FU hy)) ?_)
   dsimp only;refine bj (fun hr=>ao Es) (fun hr => ?_);have hr:lt x0 y=false:=by simpa using hr
   have EQ:∀ u∈xs.take n,lt u x0=false:=fun u j=>by
    obtain ⟨i,hi,eu⟩:=IH.mp j;have ED:(xs.take n)[i]? = some u:=by rw [<- eu];exact r4 hi
    have Ev:(xs.take n)[0]? = some x0:=by rw [IX (by lia)];exact EC
    by_cases hi0:i=0
    ·subst hi0;rw [Ev] at ED;cases ED;exact c.irr
    ·exact j8 ho (by lia) Ev ED
   have F3:∀ u∈xs.take n,lt y u=false:=qd c ho (by lia) hy c.irr
   have heq:∀ u∈xs.take n, ∀ v∈xs.take n,lt u v=false:=fun u j v J=>by
    exact c.le_trans (c.le_trans (F3 v J) hr) (EQ u j)
   refine Gi (j9 (L:=L) (B:=xs.take n) (R:=x::xs.drop (n+1)) (by rw [O];exact congrArg (L ++ ·) exs) rfl (by rw [G9,JZ EF]) fun Eg e1 Ek => ?_)
   have hB:(xs.take n).reverse.Perm (xs.take n):=Ju _;have Eh:(xs.take n).reverse.length=n:=by rw [Mo,G9];lia
   have Ei:∀ u∈(xs.take n).reverse, ∀ v∈(xs.take n).reverse,lt u v=false:=fun u j v J=>heq u (IJ.mp j) v (IJ.mp J);have Ej:y∈(xs.take n).reverse:=IJ.mpr EG;exact EH _ _ e1 hB Eh Ei Ej Ek
  ·have Eg:=st';have hn:n=1:=by lia
   have Ek:Kp st' st':=Kp.refl;have e1:(Gk st').toList=L++(xs.take n++x::xs.drop (n+1)):=by rw [O];exact congrArg (L ++ ·) exs
   have hB:(xs.take n).Perm (xs.take n):=Ks _;have Eh:(xs.take n).length=n:=by rw [G9];lia
   have Ej:=EG;have Ei:∀ u∈xs.take n, ∀ v∈xs.take n,lt u v=false:=fun u j v J=>by
    have e0:xs.take n=[y]:=by
     subst hn;rw [nQ (by lia) hy];rfl
    rw [e0] at j J;simp at j J;subst j J;exact c.irr
   exact EH _ _ e1 hB Eh Ei Ej Ek
end
end Srt
end L2
namespace L2
namespace Srt
open PySem PySem.Spec PyProof.Rows
section
variable {prog:FR} {w:G7} {A:Gg} {E:e7->h8->Prop} {s:h8} {kd:JT} {P:FT->Prop} {lt:FT->FT->Bool}
theorem uB (c:Cm prog w A s kd P lt) {L r R:List FT} {n:Nat} {st:Hr} {Q:Bool->Hr->Prop} (hk:Hz st=kd) (Z:(Gk st).toList=L++(r++R)) (h0:r≠[]) (ho:Ord lt r) (hn:r.length<=n) (Ef:n<=(r++R).length) (hP:∀ x∈r++R,P x)
 (q:∀ r' R' st',(Gk st').toList=L++(r'++R')->(r'++R').Perm (r++R)->r'.length=n->Ord lt r'->Kp st st'->Q true st'):wpS (FQ prog w) A E s (binarySort' L.length n r.length) Q st:=by
 have El : 0 < r.length:=K6.mpr h0;rw [binarySort'_eq];refine Gi (bq (Q:=fun x st'=>x=(none,()) /\ ∃ D T,Kp st st'/\(Gk st').toList=L++(D++T)/\(D++T).Perm (r++R)/\D.length=n/\Ord lt D)
  (IK (fun i x st'=>x=(none,()) /\ ∃ D T,Kp st st'/\(Gk st').toList=L++(D++T)/\(D++T).Perm (r++R)/\D.length=i/\Ord lt D) ?_ ?_ ⟨rfl,r,R,Kp.refl,Z,Ks _,by lia,ho⟩) ?_)
 ·rintro k x B Em Eo ⟨rfl,D,T,kp,ea,J,hD,O⟩;dsimp only;subst hD;have hlen:=J.length_eq;rw [i5] at hlen;obtain ⟨z,T',rfl⟩:∃ z T',T=z::T':=by
   cases T with
   | nil=>simp at hlen Ef;lia
   | cons z T'=>exact ⟨z,T',rfl⟩
  have Eg:∀ u∈D,P u:=fun u G=>hP u (J.mem_iff.mp (G4 _ G));have Eh:P z:=hP z (J.mem_iff.mp (by simp))
  have hz:(Gk B)[L.length+D.length]? = some z:=by
   rw [bQ ea rfl,z4 (by lia),Nm];rfl
  refine Gi (bq (Q:=fun x st'=>st'=B /\ ∃ k,x=(none,k,k)/\Gal lt false z D k k)
   (IK (fun i x st'=>st'=B /\ ∃ lo hi,x=(none,lo,hi)/\Gal lt false z D lo hi/\hi - lo+i<=D.length) ?_ ?_ ⟨rfl,0,D.length,rfl,⟨by lia,by lia,fun _ _ h=>by lia,fun i x hi hx=>by
     have:=(FN.mp hx).1;lia⟩,by lia⟩) ?_)
  ·rintro i x U _ hi ⟨rfl,lo,j,rfl,F,hm⟩;dsimp only;have hl:=F.le;have Ei:=F.len;refine bj (fun Ej => ?_) (fun Ej => ?_)
   ·exact ao ⟨rfl,j,by rw [show lo=j by lia],by rw [show lo=j by lia] at F;exact F⟩
   ·obtain ⟨u,G⟩:∃ u,D[(lo+j) / 2]? = some u:=⟨_,r4 (by lia)⟩
    have Ek:(Gk U)[L.length+(lo+j) / 2]? = some u:=by
     rw [bQ ea rfl,FH (by lia)];exact G
    refine Gi (cZ c (kp.kind.trans hk) hz Ek Eh (Eg _ (FU G)) ?_);dsimp only;refine bj (fun hf => ?_) (fun hf => ?_)
    ·exact ao ⟨rfl,_,_,rfl,⟨by lia,by lia,F.up,Dm c O G (by simp [bey,hf])⟩,by lia⟩
    ·exact ao ⟨rfl,_,_,rfl,⟨by lia,Ei,Dl c O G (by simpa [bey] using hf),F.dn⟩,by lia⟩
  ·rintro x U ⟨rfl,lo,j,rfl,F,hm⟩;have hl:=F.le;exact ⟨rfl,j,by rw [show lo=j by lia],by rw [show lo=j by lia] at F;exact F⟩
  ·rintro x U ⟨rfl,l,rfl,F⟩;dsimp only;obtain ⟨X,Y,e,hl,hX,hY⟩:=F.out;subst hl e;rw [moveDown'_eq];refine Gi (Ow ?_);refine ao ⟨rfl,X++z::Y,T',kp.trans ⟨rfl,rfl,rfl⟩,pB ea (by simp) (by simp;lia), ?_,by simp;lia, ?_⟩
   ·refine List.Perm.trans ?_ J;rw [Gb,Gb];refine JB _ ?_;rw [IM];exact List.perm_middle.symm
   ·obtain ⟨o1,o2,o3⟩:=Gu.mp O;refine Gu.mpr ⟨o1,List.pairwise_cons.mpr ⟨fun u G=>c.asym _ _ (by have:=hY u G;simpa [bey] using this),o2⟩,fun u G v hv => ?_⟩
    rcases Fx.mp hv with g | g
    ·subst g;have:=hX u G;simpa [bey] using this
    ·exact o3 u G v g
 ·rintro x B ⟨rfl,D,T,kp,ea,J,hD,O⟩;exact ⟨rfl,D,T,kp,ea,J,by lia,O⟩
 ·rintro x B ⟨rfl,D,T,kp,ea,J,hD,O⟩;exact ao (q D T B ea J hD O kp)
noncomputable def Pd:Nat->List (List FT)->List (Nat×Nat×Nat)->Prop
 | _,[],ps=>ps=[]
 | s,r::rs,ps => ∃ p t,ps=(s,r.length,p)::t/\Pd (s+r.length) rs t
theorem Pd.split:∀ {l t:List (List FT)} {s:Nat} {ps:List (Nat×Nat×Nat)},Pd s (l++t) ps -> ∃ pl pt,ps=pl++pt/\pl.length=l.length/\Pd s l pl/\Pd (s+l.flatten.length) t pt
 | [],t,s,ps,h=>⟨[],ps,rfl,rfl,rfl,by simpa using h⟩
 | r::l,t,s,ps,h=>by
   obtain ⟨p,q,e,h⟩:=h;obtain ⟨pl,pt,j,z,h1,h2⟩:=Pd.split h;refine ⟨(s,r.length,p)::pl,pt,by rw [e,j];rfl,by simp [z],⟨p,pl,rfl,h1⟩, ?_⟩
   rw [Hd,i5, <- Nat.add_assoc];exact h2
theorem Pd.length:∀ {l:List (List FT)} {s:Nat} {ps:List (Nat×Nat×Nat)},Pd s l ps->ps.length=l.length
 | [],_,_,h=>by rw [show _=[] from h];rfl
 | r::l,s,ps,h=>by
   obtain ⟨p,q,e,h⟩:=h;rw [e];simp [h.length]
structure Rn (lt:FT->FT->Bool) (kd:JT) (a₀:List FT) (st:Hr) (rs:List (List FT)) (R:List FT):Prop where
 arr:(Gk st).toList=rs.flatten++R
 perm:(rs.flatten++R).Perm a₀
 ord:∀ r∈rs,r≠[]/\Ord lt r
 pend:Pd 0 rs (HD st).toList
 kind:Hz st=kd
 fail:J1 st=none
theorem Rn.size {a₀:List FT} {st:Hr} {rs:List (List FT)} {R:List FT} (h:Rn lt kd a₀ st rs R):rs.flatten.length+R.length=a₀.length:=by
 have:=h.perm.length_eq;rw [i5] at this;exact this
end
end Srt
end L2
namespace L2
namespace Srt
open PySem PySem.Spec PyProof.Rows
def gn (cap:Nat):Prop := ∀ (prog:FR) (w:G7) (A:Gg) (E:e7->h8->Prop) (s:h8) (kd:JT) (P:FT->Prop) (lt:FT->FT->Bool),Cm prog w A s kd P lt -> ∀ (st:Hr) (Q:Unit->Hr->Prop),Hz st=kd->J1 st=none->HD st = #[]->(∀ x∈(Gk st).toList,P x)->2<=(Gk st).size->(Gk st).size<=cap ->
 (∀ st',(Gk st').toList.Perm (Gk st).toList->Ord lt (Gk st').toList->J1 st'=none->Q () st')->wpS (FQ prog w) A E s sortRuns' Q st
theorem pE:gn 63:=by
 intro prog w A E s kd P lt c st Q hk hf Y Z h2 Ef q;rw [sortRuns'_eq];refine Gi (Nk ?_);dsimp only;have J:minRun' (Gk st).size (Gk st).size 0=(Gk st).size:=by
  obtain ⟨f,hf⟩:∃ f,(Gk st).size=f+1:=⟨(Gk st).size - 1,by lia⟩
  have:minRun' (f+1) (Gk st).size 0=(Gk st).size:=by rw [minRun'_succ,if_pos (by lia)];rfl
  rwa [<- hf] at this
 rw [J];have hsz:(Gk st).size=(Gk st).toList.length:=by simp
 generalize hA:(Gk st).toList=a₀ at Z q hsz;generalize hS:(Gk st).size=size at hsz h2 Ef J;have h0:a₀ ≠ []:=fun z=>by rw [z] at hsz;simp at hsz;lia
 refine Gi (bq (Q:=fun r st'=>r=(none,size)/\(Gk st').toList.Perm a₀ /\ Ord lt (Gk st').toList/\J1 st'=none/\HD st' = #[(0,size,0)])
  (IK (fun i r st'=>(i=0/\r=(none,0)/\st'=st)∨(1<=i/\r=(none,size)/\(Gk st').toList.Perm a₀ /\ Ord lt (Gk st').toList/\J1 st'=none/\HD st' = #[(0,size,0)])) ?_ ?_ (.inl ⟨rfl,rfl,rfl⟩)) ?_)
 ·rintro i r B _ hi (⟨rfl,rfl,rfl⟩ | ⟨_,rfl,hD⟩)
  ·dsimp only;rw [if_neg (by lia)]
   rw [show size - 0=a₀.length by lia,show min a₀.length size=size by lia]
   refine Gi (pC (L := []) c hk hA h0 Z fun r R O ea F Eg ho kp => ?_);dsimp only;have hl:=F.length_eq;rw [i5] at hl;have fin:∀ (r':List FT) (j:Hr),(Gk j).toList=r'->r'.Perm a₀ -> Ord lt r'->Kp B j->wpS (FQ prog w) A E s (modify fun z=>setPending z ((HD z).push (0,size,0))) (fun _ st'=>(Gk st').toList.Perm a₀ /\ Ord lt (Gk st').toList/\J1 st'=none/\HD st' = #[(0,size,0)]) j:=fun r' j e3 p3 o3 k3=>by
    refine Ow ?_;exact ⟨by show (Gk j).toList.Perm a₀;rw [e3];exact p3,by show Ord lt (Gk j).toList;rw [e3];exact o3,k3.fail.trans hf,by show (HD j).push _=_;rw [k3.pend,Y];rfl⟩
   by_cases hlt:r.length < size
   ·rw [if_pos hlt];refine Gi (nO ?_);refine Gi (uB (L := []) c (kp.kind.trans hk) ea Eg ho (n:=size) (by lia) (by simp;lia) (fun x hx=>Z x (F.mem_iff.mp hx)) fun r2 R2 j Eh G Em Ei U => ?_)
    rw [if_neg (by simp)]
    refine Gi (Nk ?_);have hb:(HD j).back? = none:=by rw [U.pend,kp.pend,Y];rfl
    rw [hb];dsimp only;have Ej:=G.length_eq;rw [i5,i5] at Ej;have:R2=[]:=GK.mp (by lia)
    subst this;rw [show 0+size=size by lia]
    refine Gi (bq (fin r2 j (by simpa using Eh) (by simpa using G.trans F) Ei (kp.trans U)) fun _ Ek h4=>ao (.inr ⟨by lia,rfl,h4⟩))
   ·rw [if_neg hlt];refine Gi (Nk ?_);have hb:(HD O).back? = none:=by rw [kp.pend,Y];rfl
    rw [hb];dsimp only;have:R=[]:=GK.mp (by lia)
    subst this;have El:r.length=size:=by simp at hl;lia
    rw [El,show 0+size=size by lia]
    refine Gi (bq (fin r O (by simpa using ea) (by simpa using F) ho kp) fun _ Ek h4=>ao (.inr ⟨by lia,rfl,h4⟩))
  ·dsimp only;rw [if_pos (Fy _)];exact ao ⟨rfl,hD⟩
 ·rintro r B (⟨h,_,_⟩ | ⟨_,rfl,hD⟩)
  ·lia
  ·exact ⟨rfl,hD⟩
 ·rintro r B ⟨rfl,p1,o1,f1,pd⟩;dsimp only;refine Gi (bq (IK (I:=fun _ c st''=>st''=B/\c=(none,())) (Q:=fun c st''=>st''=B/\c=(none,())) ?_ (fun _ _ hh=>hh) ⟨rfl,rfl⟩) ?_)
  ·rintro x c st'' _ _ ⟨rfl,rfl⟩;refine Gi (Nk ?_);rw [if_pos (by rw [pd];exact Fy 1)]
   exact ao ⟨rfl,rfl⟩
  ·rintro c st'' ⟨rfl,rfl⟩;exact ao (q _ p1 o1 f1)
end Srt
end L2
namespace L2
namespace Srt
open PySem PySem.Spec PyProof.Rows
inductive Ky where
 | int (i:Int)
 | tup (l:List Ky)
mutual
noncomputable def aw:Ky->Ky->Ordering
 | .int a, .int b=>if a < b then .lt else if a=b then .eq else .gt
 | .int _, .tup _ => .lt
 | .tup _, .int _ => .gt
 | .tup a, .tup b=>cmpKs a b
noncomputable def cmpKs:List Ky->List Ky->Ordering
 | [],[] => .eq
 | [],_::_ => .lt
 | _::_,[] => .gt
 | x::xs,y::ys=>(aw x y).then (cmpKs xs ys)
end
mutual
theorem cC:∀ a b,aw b a=(aw a b).swap
 | .int a, .int b=>by
  simp only [aw]
  by_cases h1:a < b
  ·rw [if_pos h1,if_neg (by lia),if_neg (by lia)];rfl
  ·by_cases h2:a=b
   ·rw [if_neg h1,if_pos h2,if_neg (by lia),if_pos h2.symm];rfl
   ·rw [if_neg h1,if_neg h2,if_pos (by lia)];rfl
 | .int _, .tup _=>by simp [aw]
 | .tup _, .int _=>by simp [aw]
 | .tup a, .tup b=>by simp only [aw];exact cmpKs_swap a b
theorem cmpKs_swap:∀ a b,cmpKs b a=(cmpKs a b).swap
 | [],[] => rfl
 | [],_::_=>rfl
 | _::_,[] => rfl
 | x::xs,y::ys=>by
   simp only [cmpKs];rw [cC x y,cmpKs_swap xs ys]
   cases aw x y <;> rfl
end
mutual
theorem gp:∀ a b,aw a b = .eq->a=b
 | .int a, .int b,h=>by
  simp only [aw] at h
  by_cases h1:a < b
  ·rw [if_pos h1] at h;cases h
  ·by_cases h2:a=b
   ·rw [h2]
   ·rw [if_neg h1,if_neg h2] at h;cases h
 | .int _, .tup _,h=>by simp [aw] at h
 | .tup _, .int _,h=>by simp [aw] at h
 | .tup a, .tup b,h=>by simp only [aw] at h;rw [cmpKs_eq a b h]
theorem cmpKs_eq:∀ a b,cmpKs a b = .eq->a=b
 | [],[],_=>rfl
 | [],_::_,h=>by simp [cmpKs] at h
 | _::_,[],h=>by simp [cmpKs] at h
 | x::xs,y::ys,h=>by
   simp only [cmpKs] at h
   cases e:aw x y with
   | lt=>rw [e] at h;cases h
   | gt=>rw [e] at h;cases h
   | eq=>rw [e] at h;rw [gp x y e,cmpKs_eq xs ys h]
end
mutual
theorem ja:∀ a b c,aw a b = .lt->aw b c = .lt->aw a c = .lt
 | .int a, .int b, .int c,h,g=>by
  simp only [aw] at h g ⊢;have h1:a < b:=by
   by_cases h1:a < b
   ·exact h1
   ·rw [if_neg h1] at h;split at h <;> cases h
  have h2:b < c:=by
   by_cases h1:b < c
   ·exact h1
   ·rw [if_neg h1] at g;split at g <;> cases g
  rw [if_pos (by lia)]
 | .int _, .tup _, .int _,_,g=>by simp [aw] at g
 | .int _, .int _, .tup _,_,_=>by simp [aw]
 | .int _, .tup _, .tup _,_,_=>by simp [aw]
 | .tup _, .int _,_,h,_=>by simp [aw] at h
 | .tup _, .tup _, .int _,_,g=>by simp [aw] at g
 | .tup a, .tup b, .tup c,h,g=>by simp only [aw] at h g ⊢;exact cmpKs_trans a b c h g
theorem cmpKs_trans:∀ a b c,cmpKs a b = .lt->cmpKs b c = .lt->cmpKs a c = .lt
 | [],[],_,h,_=>by simp [cmpKs] at h
 | [],_::_,[],_,g=>by simp [cmpKs] at g
 | [],_::_,_::_,_,_=>by simp [cmpKs]
 | _::_,[],_,h,_=>by simp [cmpKs] at h
 | _::_,_::_,[],_,g=>by simp [cmpKs] at g
 | x::xs,y::ys,z::zs,h,g=>by
   simp only [cmpKs] at h g ⊢
   cases e:aw x y with
   | gt=>rw [e] at h;cases h
   | eq =>
     have:=gp x y e;subst this;rw [e] at h
     cases e2:aw x z with
     | gt=>rw [e2] at g;cases g
     | lt=>rfl
     | eq=>rw [e2] at g;exact cmpKs_trans xs ys zs h g
   | lt =>
     cases e2:aw y z with
     | gt=>rw [e2] at g;cases g
     | lt=>rw [ja x y z e e2];rfl
     | eq =>
       have:=gp y z e2;subst this;rw [e];rfl
end
noncomputable def ltK (a b:Ky):Bool:=aw a b == .lt
noncomputable def nS (a b:List Ky):Bool:=cmpKs a b == .lt
theorem xB (a b:Ky) (h:ltK a b=true):ltK b a=false:=by
 unfold ltK at h ⊢;rw [cC a b,(by simpa using h:aw a b = .lt)];rfl
theorem kN (a b:Ky) (h:ltK a b=false) (g:ltK b a=false):a=b:=by
 unfold ltK at h g;rw [cC a b] at g;apply gp
 cases e:aw a b with
 | eq=>rfl
 | lt=>rw [e] at h;cases h
 | gt=>rw [e] at g;cases g
theorem A6 (a b c:Ky) (h:ltK a c=true):ltK a b=true∨ltK b c=true:=by
 cases e:ltK a b with
 | true=>exact .inl rfl
 | false =>
   right
   cases j:ltK b a with
   | false=>rw [kN a b e j] at h;exact h
   | true =>
     unfold ltK at h j ⊢;rw [ja b a c (by simpa using j) (by simpa using h)];rfl
theorem uC (x y:Ky) (xs ys:List Ky):nS (x::xs) (y::ys)=if (!ltK x y && !ltK y x)=true then nS xs ys else ltK x y:=by
 unfold nS ltK;rw [cC x y];simp only [cmpKs]
 cases aw x y <;> simp
mutual
noncomputable def toK:Gw->Ky
 | .int i => .int i
 | .tuple xs => .tup (toKs xs)
 | _ => .int 0
noncomputable def toKs:List Gw->List Ky
 | [] => []
 | x::xs=>toK x::toKs xs
end
inductive Cmpb:Gw->Gw->Prop where
 | int (a b:Int):Cmpb (.int a) (.int b)
 | nil (ys:List Gw):Cmpb (.tuple []) (.tuple ys)
 | nil' (xs:List Gw):Cmpb (.tuple xs) (.tuple [])
 | cons {x y:Gw} {xs ys:List Gw}:Cmpb x y->Cmpb (.tuple xs) (.tuple ys)->Cmpb (.tuple (x::xs)) (.tuple (y::ys))
theorem Cmpb.eqv {x y:Gw} (h:Cmpb x y):Gh x y=(!ltK (toK x) (toK y) && !ltK (toK y) (toK x)):=by
 have g:∀ {x y:Gw},Cmpb x y->Gh x y=(aw (toK x) (toK y) == .eq):=by
  intro x y h
  induction h with
  | int a b =>
    simp only [Gh,toK,aw]
    by_cases h1:a < b
    ·rw [if_pos h1];simp;lia
    ·by_cases h2:a=b
     ·rw [if_neg h1,if_pos h2];simp [h2]
     ·rw [if_neg h1,if_neg h2];simp;lia
  | nil ys=>cases ys <;> simp [Gh,Hq,toK,toKs,aw,cmpKs]
  | nil' xs=>cases xs <;> simp [Gh,Hq,toK,toKs,aw,cmpKs]
  | @cons x y xs ys h1 h2 ih1 j =>
   simp only [Gh] at j ⊢;simp only [Hq,toK,toKs,aw,cmpKs] at j ⊢;rw [ih1,j]
   cases aw (toK x) (toK y) <;> simp
 rw [g h];unfold ltK;rw [cC (toK x) (toK y)]
 cases aw (toK x) (toK y) <;> rfl
section
variable {prog:FR} {w:G7} {A:Gg} {E:e7->h8->Prop} {s:h8}
theorem trd {b:Bool} {Q:Bool->h8->Prop} (q:Q b s):FG (FQ prog w) A (truthOfDropped (.bool b)) Q E s:=by
 unfold truthOfDropped
 wp_walk
 exact q
theorem gr (a b:Int):ltK (.int a) (.int b)=decide (a < b):=by
 simp only [ltK,aw]
 by_cases h:a < b
 ·simp [h]
 ·by_cases h2:a=b <;> simp [h,h2]
theorem uD {a b:Int} {t u:Tok} {Q:e7->h8->Prop} (q:Q (.bool (decide (a < b))) s):FG (FQ prog w) A (O0 .Lt (.int a t) (.int b u)) Q E s :=
 wpAny_richCompare_same (T := "int") rfl rfl F.slot_int_lt (call_int_lt ⟨by simp,q⟩)
noncomputable def bU:List Gw->List Gw->Option Bool
 | x::xs,y::ys=>if Gh x y=true then bU xs ys else some (ltK (toK x) (toK y))
 | _,_=>none
theorem hJ:∀ {xs ys:List Gw},Cmpb (.tuple xs) (.tuple ys)->ltK (toK (.tuple xs)) (toK (.tuple ys))=match bU xs ys with | some b=>b | none=>decide (xs.length < ys.length)
 | [],[],_=>rfl
 | [],_::_,_=>by simp [bU,toK,toKs,ltK,aw,cmpKs]
 | _::_,[],_=>by simp [bU,toK,toKs,ltK,aw,cmpKs]
 | x::xs,y::ys,h=>by
   cases h with
   | cons h1 h2 =>
     have ih:=hJ h2;have e:∀ a b:List Ky,ltK (.tup a) (.tup b)=nS a b:=fun a b=>by simp [ltK,nS,aw]
     simp only [toK,toKs,e] at ih ⊢;rw [uC, <- h1.eqv];simp only [bU]
     split
     ·rw [ih];simp
     ·rfl
noncomputable def bc {α β:Type} (M:JP) (A:Gg) (E:e7->h8->Prop) (f : α -> β -> Sem (ForInStep β)) (Q : β -> h8->Prop):List α -> β -> h8->Prop
 | [],c,s=>Q c s
 | x::xs,c,s=>FG M A (f x c) (fun r s'=>match r with | .done c'=>Q c' s' | .yield c'=>bc M A E f Q xs c' s') E s
theorem eY {α β:Type} {M:JP} {f : α -> β -> Sem (ForInStep β)} {Q : β -> h8->Prop}:∀ {l:List α} {c : β} {s:h8},bc M A E f Q l c s->FG M A (forIn l c f) Q E s
 | [],c,s,h=>by rw [LN];exact hQ h
 | x::xs,c,s,h=>by
   rw [Iq];refine e6 (H8 h (fun r s' hr => ?_) fun _ _ z=>z)
   cases r with
   | done c'=>exact hQ hr
   | yield c'=>exact eY hr
theorem bB {h:Heap}:∀ {vs:List e7} {xs:List Gw} {as:List Addr},LW h vs xs as->vs.length=xs.length
 | _,_,_, .nil=>rfl
 | _,_,_, .cons _ r=>by simp [bB r]
theorem hW {α β:Type} {M:JP} {n:Nat} {f : α -> Option β × Unit->Sem (ForInStep (Option β × Unit))} {g:Bool -> β} {pr : α -> e7×e7} {Q:Option β × Unit->h8->Prop} :
 ∀ {l:List α} {vs us:List e7} {xs ys:List Gw} {as bs:List Addr},l.map pr=vs.zip us->LW s.heap vs xs as->LW s.heap us ys bs->Cmpb (.tuple xs) (.tuple ys)->GJ xs=true->GJ ys=true->Hx xs<=n ->
  (∀ (z : α) (x y:e7) (d e:Gw) (as bs:List Addr) (R:ForInStep (Option β × Unit)->h8->Prop),z∈l->pr z=(x,y)->Js s.heap x d as->Js s.heap y e bs->Cmpb d e->d.canLay0=true->e.canLay0=true->d.depth<=n ->
   R (if Gh d e=true then .yield (none,()) else .done (some (g (ltK (toK d) (toK e))),())) s->FG M A (f z (none,())) R E s) ->
  Q ((bU xs ys).map g,()) s->bc M A E f Q l (none,()) s
 | [],vs,us,xs,ys,as,bs,e,j,B,F,_,_,_,_,q=>by
  have h1:=bB j;have h2:=bB B;have:vs=[]∨us=[]:=by
   cases vs with
   | nil=>exact .inl rfl
   | cons v vs=>cases us with
     | nil=>exact .inr rfl
     | cons u us=>simp at e
  have G:bU xs ys=none:=by
   rcases this with rfl | rfl
   ·cases xs with
    | nil=>simp [bU]
    | cons x xs=>simp at h1
   ·cases ys with
    | nil=>cases xs <;> simp [bU]
    | cons y ys=>simp at h2
  rw [G] at q;exact q
 | z::l,vs,us,xs,ys,as,bs,e,j,B,F,lx,ly,hd,hf,q=>by
   cases j with
   | nil=>simp at e
   | cons rx j =>
     cases B with
     | nil=>simp at e
     | cons ry B =>
       simp only [FL,List.zip_cons_cons,Lx] at e;simp only [GJ,hG] at lx ly;simp only [Hx] at hd
       cases F with
       | cons J L =>
         simp only [bc];refine hf z _ _ _ _ _ _ _ (by simp) e.1 rx ry J lx.1 ly.1 (by lia) ?_
         simp only [bU] at q
         split at q
         ·next h =>
          rw [if_pos h];exact hW e.2 j B L lx.2 ly.2 (by lia) (fun z x y d e as bs R O=>hf z x y d e as bs R (by simp [O])) q
         ·next h =>
          rw [if_neg h];exact q
def E9 (n:Nat):Prop := ∀ (prog:FR) (w:G7) (A:Gg) (s:h8) (a b:e7) (d e:Gw) (as bs:List Addr) (E:e7->h8->Prop) (Q:e7->h8->Prop),d.depth<=n->Cmpb d e->Js s.heap a d as->Js s.heap b e bs->d.canLay0=true->e.canLay0=true->A.units+n+1 < Ib ->
 Q (.bool (ltK (toK d) (toK e))) s->FG (FQ prog w) A (O0 .Lt a b) Q E s
theorem Dn:∀ n,E9 n:=by
 intro n
 induction n with
 | zero =>
   intro prog w A s a b d e as bs E Q hd z ra rb ld le Z q
   cases z with
   | int i j =>
     cases ra;cases rb
     exact uD (by rw [<- gr];exact q)
   | nil ys=>simp [Im] at hd
   | nil' xs=>simp [Im] at hd
   | cons _ _=>simp [Im] at hd
 | succ n ih =>
   intro prog w A s a b d e as bs E Q hd z ra rb ld le Z q;have tup:∀ xs ys,d = .tuple xs->e = .tuple ys->FG (FQ prog w) A (O0 .Lt a b) Q E s:=by
    rintro xs ys rfl rfl
    cases ra with
    | tuple h1 h2 h3 J =>
      cases rb with
      | tuple g1 g2 g3 L =>
        rename_i l ol vl nl p ob vb nb;have tl:s.TypeIs (.ref l) "tuple" := ⟨_,h1,h2⟩;have tb:s.TypeIs (.ref p) "tuple" := ⟨_,g1,g2⟩;refine wpAny_richCompare_same_room tl tb Oe (Gq Oe tl F.entry_tuple_lt ?_ (F.args_tuple_lt_2 _ _)) (by lia)
        unfold IA.«tuple.__lt__»;refine e6 ?_;have O:isSubtype (.type "tuple") (.type "tuple")=pure true:=by rw [LZ];kernel_rfl
        wp_walk
        rw [h3]
        wp_walk
        rw [g3];refine hQ ?_;refine hQ ?_;refine e6 (eY (hW (n:=n) (g:=fun b=>Fin.done (Flow.ret (Ld b))) (pr:=id) (O1 _) J L z ld le (by simp [Im] at hd;lia) ?_ ?_))
        ·rintro ⟨x,y⟩ x' y' d e as bs R _ hz rx ry z ld le hd r
         cases hz
         dsimp only;refine e6 (NM d e _ _ _ _ _ _ rx ry ld le ?_ prog w E _ ?_)
         ·show A.units+1+min d.depth e.depth < Ib;lia
         ·by_cases B:Gh d e=true
          ·rw [if_pos B] at r;rw [B];exact hQ r
          ·rw [if_neg B] at r;have B:Gh d e=false:=by simpa using B
           rw [B];refine e6 (H9 (e6 (ih prog w _ s x y d e as bs E _ hd z rx ry ld le ?_ ?_)))
           ·show A.units+1+n+1 < Ib;lia
           ·exact hQ r
        ·have G:=hJ z
         cases e2:bU xs ys with
         | some b =>
           rw [e2] at G;dsimp only at G;rw [G] at q;exact hQ ⟨_,rfl,by simp,q⟩
         | none =>
           rw [e2] at G;dsimp only at G;rw [G] at q;have U:=bB J;have Y:=bB L;refine hQ ⟨_,rfl, ?_, ?_⟩
           ·simp [Jz]
           ·simp only [GC] at U Y;simp only [Jz];rw [U,Y];exact q
   cases z with
   | int i j =>
     cases ra;cases rb
     exact uD (by rw [<- gr];exact q)
   | nil ys=>exact tup _ _ rfl rfl
   | nil' xs=>exact tup _ _ rfl rfl
   | cons _ _=>exact tup _ _ rfl rfl
end
end Srt
end L2
namespace L2
namespace Srt
open PySem PySem.Spec PyProof.Rows
section
variable {prog:FR} {w:G7} {A:Gg} {E:e7->h8->Prop} {s:h8}
theorem jb {α β:Type} {M:JP} {f : α -> Sem β} {g : α -> β}:∀ {l:List α} {Q:List β -> h8->Prop},(∀ x∈l, ∀ R : β -> h8->Prop,R (g x) s->FG M A (f x) R E s)->Q (l.map g) s->FG M A (l.mapM f) Q E s
 | [],Q,_,q=>by rw [List.mapM_nil];exact hQ q
 | x::xs,Q,h,q=>by
   rw [List.mapM_cons];refine e6 (h x (by simp) _ (e6 (jb (fun y j=>h y (by simp [j])) (hQ q))))
theorem dH {α β:Type} {M:JP} {f : α -> Sem β} {g : α -> β} {xs:Array α} {Q:Array β -> h8->Prop} (h:∀ x∈xs.toList, ∀ R : β -> h8->Prop,R (g x) s->FG M A (f x) R E s) (q:Q (xs.map g) s):FG M A (xs.mapM f) Q E s:=by
 rw [Array.mapM_eq_mapM_toList];rw [map_eq_pure_bind];refine e6 (jb h (hQ ?_));have:(xs.toList.map g).toArray=xs.map g:=by
  apply JK.mp;simp
 rw [this];exact q
theorem kP {a:Addr} {v:e7} {vs:List e7} {o:Obj} {n:Nat} (h1:s.heap.get? a=some o) (h2:o.cls = .type "tuple") (j:o.data = .seq (v::vs).toArray n) {Q:Option e7->h8->Prop} (q:Q (some v) s):FG (FQ prog w) A (firstOfTuple' (.ref a)) Q E s:=by
 unfold firstOfTuple';have ty:s.TypeIs (.ref a) "tuple" := ⟨_,h1,h2⟩
 wp_walk
 rw [j];refine hQ ?_;refine hQ ?_;exact hQ q
theorem A7 {a:Addr} {o:Obj} {T:e7} (h1:s.heap.get? a=some o) (h2:o.cls=T) {Q:e7->h8->Prop} (q:Q T s):FG (FQ prog w) A (typeOf (.ref a)) Q E s:=by
 wp_walk
 rw [h2];exact q
theorem uE {n:Nat} {x y:e7} {d e:Gw} {as bs:List Addr} (j:Cmpb d e) (rx:Js s.heap x d as) (ry:Js s.heap y e bs) (ld:d.canLay0=true) (le:e.canLay0=true) (hd:d.depth<=n) (z:A.units+n+1 < Ib) {Q:Bool->h8->Prop} (q:Q (ltK (toK d) (toK e)) s):FG (FQ prog w) A (oneLt' false x y) Q E s:=by
 rw [oneLt'_eq];exact e6 (Dn n prog w A s x y d e as bs E _ hd j rx ry ld le z (trd q))
theorem kQ {n:Nat} {b:Bool} {x y:e7} {xs ys:List Gw} {as bs:List Addr} (hb:b=true -> ∀ d e,xs.head? = some d->ys.head? = some e->(∃ i,d = .int i) /\ ∃ i,e = .int i)
 (G:Cmpb (.tuple xs) (.tuple ys)) (rx:Js s.heap x (.tuple xs) as) (ry:Js s.heap y (.tuple ys) bs) (lx:GJ xs=true) (ly:GJ ys=true) (hd:Hx xs<=n) (hu:A.units+n+1 < Ib) {Q:Bool->h8->Prop} (q:Q (ltK (toK (.tuple xs)) (toK (.tuple ys))) s) :
 FG (FQ prog w) A (keyLt' (tuples' b) x y) Q E s:=by
 cases rx with
 | tuple h1 h2 h3 J =>
   cases ry with
   | tuple g1 g2 g3 L =>
     refine e6 (Np h1 h3 ?_);refine e6 (Np g1 g3 ?_);refine e6 (eY (hW (n:=n) (g:=id) (pr:=Prod.fst) (Mp _ _) J L G lx ly hd ?_ ?_))
     ·rintro ⟨⟨x,y⟩,i⟩ x' y' d e as bs R hz hp rx ry G ld le hd r
      cases hp
      dsimp only;refine e6 (NM d e _ _ _ _ _ _ rx ry ld le (by lia) prog w E _ ?_)
      by_cases F:Gh d e=true
      ·rw [if_pos F] at r;rw [F];exact hQ r
      ·rw [if_neg F] at r;have F:Gh d e=false:=by simpa using F
       rw [F];refine e6 ?_
       by_cases z:(b&&i==0)=true
       ·rw [z];simp only [hG,beq_iff_eq] at z;obtain ⟨rfl,rfl⟩:=z;have j:=List.mem_zipIdx_iff_getElem?.mp hz;obtain ⟨U,Y,t1,Z,B,O⟩:∃ (U Y:Int) (t1 Z:Tok),x = .int U t1/\y = .int Y Z:=by
         generalize hV:Le _=vl at J j;generalize hU:Le _=ul at L j
         cases J with
         | nil=>simp at j
         | cons p1 p2 =>
           cases L with
           | nil=>simp at j
           | cons q1 q2 =>
             simp at j;obtain ⟨⟨U,ei⟩,⟨Y,ej⟩⟩:=hb rfl _ _ rfl rfl;subst ei ej
             cases p1;cases q1
             exact ⟨_,_,_,_,j.1.symm,j.2.symm⟩
        subst B O
        cases rx;cases ry
        refine oneLt_int ?_;rw [<- gr];exact hQ r
       ·have z:(b&&i==0)=false:=by simpa using z
        rw [z];exact uE G rx ry ld le hd hu (hQ r)
     ·have B:=hJ G
      cases O:bU xs ys with
      | some b =>
        rw [O] at B;dsimp only at B;rw [B] at q;exact hQ q
      | none =>
        rw [O] at B;dsimp only at B;rw [B] at q;have n1:=bB J;have n2:=bB L;refine hQ ?_;simp only [GC] at n1 n2;rw [n1,n2];exact q
end
end Srt
end L2
namespace L2
namespace Srt
open PySem PySem.Spec PyProof.Rows
structure nT (n:Nat) (ds:List Gw):Prop where
 cmp:∀ d∈ds, ∀ e∈ds,Cmpb d e
 lay:∀ d∈ds,d.canLay0=true/\d.depth<=n
 kind:(∀ d∈ds, ∃ i,d = .int i)∨(∀ d∈ds, ∃ i xs,d = .tuple (.int i::xs))∨(∀ d∈ds, ∃ ys xs,d = .tuple (.tuple ys::xs))
noncomputable def ce (h:Heap):e7->Option e7
 | .ref a=>(h.get? a).bind fun o=>match o.data with | .seq xs _=>xs[0]? | _=>none
 | _=>none
section
variable {prog:FR} {w:G7} {A:Gg} {E:e7->h8->Prop} {s:h8}
noncomputable def cR (h:Heap) (x:FT):Ky:=toK (He h x.1)
def RdL (h:Heap) (vs:List e7) (ds:List Gw):Prop := ∀ v∈vs, ∃ d∈ds, ∃ as,Js h v d as
theorem fM {arr:Array e7} {T:String} (h0 : 0 < arr.size) (h:∀ v∈arr.toList, ∀ R:e7->h8->Prop,R (.type T) s->FG (FQ prog w) A (typeOf v) R E s) {Q:Option e7->h8->Prop} (q:Q (some (.type T)) s):FG (FQ prog w) A (oneTypeOnly' arr) Q E s:=by
 rw [oneTypeOnly'_eq];refine e6 (dH (g:=fun _=>GF T) h ?_);have e:(JL (fun _=>GF T) arr)[0]? = some (GF T):=by
  rw [Array.getElem?_map,Hj h0];rfl
 rw [e];dsimp only;have j:((JL (fun _=>GF T) arr).all fun x=>x==GF T)=true:=by
  rw [Nq];intro i hi;simp
 rw [j];exact hQ q
theorem rQ {n:Nat} {kd:JT} {vs:List e7} {ds:List Gw} (hr:RdL s.heap vs ds) (hs:nT n ds)
 (h:∀ (x y:e7) (d e:Gw) (as bs:List Addr) (E:e7->h8->Prop) (Q:Bool->h8->Prop),d∈ds->e∈ds->Js s.heap x d as->Js s.heap y e bs->Q (ltK (toK d) (toK e)) s->FG (FQ prog w) A (keyLt' kd x y) Q E s) :
 Cm prog w A s kd (fun x=>x.1∈vs) (fun x y=>ltK (cR s.heap x) (cR s.heap y)) where
 asym:=fun x y=>xB _ _
 neg:=fun x y z=>A6 _ _ _
 run:=fun x y E Q hx j q=>by
  obtain ⟨d,hd,as,ra⟩:=hr _ hx;obtain ⟨e,he,bs,rb⟩:=hr _ j;have B:=HM (hs.lay d hd).1 ra;have F:=HM (hs.lay e he).1 rb;unfold cR at q;rw [B,F] at q;exact h _ _ d e as bs E Q hd he ra rb q
theorem nU {h:Heap} {vs:List e7} (j:∀ v∈vs, ∃ u,ce h v=some u):((vs.toArray.map (ce h)).all fun x=>x.isSome)=true:=by
 rw [Nq];intro i hi;simp at hi;obtain ⟨u,q⟩:=j vs[i] (IP hi);simp [q]
theorem uF {h:Heap} {vs:List e7} {x:e7} (hx:x∈(Of id (vs.toArray.map (ce h))).toList):∃ v∈vs,ce h v=some x:=by
 simp at hx;exact hx
theorem uG {h:Heap} {v:e7} {vs:List e7} {u:e7} (j:ce h v=some u) : 0 < (Of id ((v::vs).toArray.map (ce h))).size:=by
 rw [<- GC];simp [j]
theorem kR {h:Heap} {v:e7} {d:Gw} {xs:List Gw} {as:List Addr} (r:Js h v (.tuple (d::xs)) as):∃ a o u us n bs,v = .ref a/\h.get? a=some o/\o.cls = .type "tuple" /\ o.data = .seq (u::us).toArray n/\Js h u d bs:=by
 cases r with
 | @tuple a o vs n xs as h1 h2 j h4 =>
  generalize q:vs.toList=vl at h4
  cases h4 with
  | @cons u us _ _ bs _ z p2=>exact ⟨_,_,u,us,n,bs,rfl,h1,h2,by rw [j];congr 1;apply JK.mp;simpa using q,z⟩
theorem Do {n:Nat} {v:e7} {vs:List e7} {ds:List Gw} (hr:RdL s.heap (v::vs) ds) (hs:nT n ds) (z:A.units+n+1 < Ib) :
 ∃ kd,(∀ (E:e7->h8->Prop) (Q:JT->h8->Prop),Q kd s->FG (FQ prog w) A (keyKind' (v::vs).toArray) Q E s)/\Cm prog w A s kd (fun x=>x.1∈v::vs) (fun x y=>ltK (cR s.heap x) (cR s.heap y)):=by
 rcases hs.kind with J | J | J
 ·refine ⟨oneType',fun E Q q => ?_,rQ hr hs fun x y d e as bs E Q hd he ra rb q => ?_⟩
  ·have hint:∀ u∈v::vs, ∃ i t,u = .int i t:=fun u z=>by
    obtain ⟨d,hd,as,ra⟩:=hr u z;obtain ⟨i,rfl⟩:=J d hd
    cases ra
    exact ⟨_,_,rfl⟩
   rw [O6];refine e6 (dH (g:=fun _=>(none:Option e7)) (fun u z R r => ?_) ?_)
   ·obtain ⟨i,t,rfl⟩:=hint u (by simpa using z)
    rw [firstOfTuple'_int];exact hQ r
   ·have Y:((JL (fun _=>(none:Option e7)) (v::vs).toArray).all fun x=>x.isSome)=false:=by
     simp
    rw [Y];have B:((JL (fun _=>(none:Option e7)) (v::vs).toArray)[0]?.bind id).isSome=false:=by simp
    simp only [B,Hl,if_false];refine e6 (fM (T := "int") (by simp) (fun u z R r => ?_) ?_)
    ·obtain ⟨i,t,rfl⟩:=hint u (by simpa using z)
     exact hQ r
    ·exact hQ q
  ·obtain ⟨i,rfl⟩:=J d hd;obtain ⟨j,rfl⟩:=J e he
   cases ra;cases rb
   rw [keyLt'_oneType];exact oneLt_int (by rw [<- gr];exact q)
 ·refine ⟨tuples' true,fun E Q q => ?_,rQ hr hs fun x y d e as bs E Q hd he ra rb q => ?_⟩
  ·have hf:∀ u∈v::vs, ∃ a o i t us n,u = .ref a/\s.heap.get? a=some o/\o.cls = .type "tuple" /\ o.data = .seq (.int i t::us).toArray n:=fun u z=>by
    obtain ⟨d,hd,as,ra⟩:=hr u z;obtain ⟨i,xs,rfl⟩:=J d hd;obtain ⟨a,o,u1,us,n,bs,Y,B,L,G,O⟩:=kR ra
    cases O
    exact ⟨a,o,_,_,us,n,Y,B,L,G⟩
   have F:∀ u∈v::vs, ∃ i t,ce s.heap u=some (.int i t):=fun u z=>by
    obtain ⟨a,o,i,t,us,n,rfl,B,L,G⟩:=hf u z;exact ⟨i,t,by simp [ce,B,G]⟩
   rw [O6];refine e6 (dH (g:=ce s.heap) (fun u z R r => ?_) ?_)
   ·obtain ⟨a,o,i,t,us,n,rfl,B,L,G⟩:=hf u (by simpa using z)
    refine kP B L G ?_;simpa [ce,B,G] using r
   ·rw [nU (fun u z=>let ⟨i,t,e⟩:=F u z; ⟨_,e⟩)];refine e6 (H9 ?_);obtain ⟨i0,t0,e0⟩:=F v (by simp)
    refine e6 (fM (T := "int") (uG e0) (fun u z R r => ?_) ?_)
    ·obtain ⟨u',U,e⟩:=uF z;obtain ⟨i,t,e'⟩:=F u' U;rw [e'] at e;cases e;exact hQ r
    ·exact hQ q
  ·obtain ⟨i,xs,rfl⟩:=J d hd;obtain ⟨j,ys,rfl⟩:=J e he;have l1:=hs.lay _ hd;have l2:=hs.lay _ he;refine kQ (n:=n) (fun _ d e hd he => ?_) (hs.cmp _ hd _ he) ra rb (by simpa [Jv] using l1.1) (by simpa [Jv] using l2.1) (by have:=l1.2;simp [Im] at this;lia) z q
   simp at hd he;subst hd he;exact ⟨⟨_,rfl⟩,_,rfl⟩
 ·refine ⟨tuples' false,fun E Q q => ?_,rQ hr hs fun x y d e as bs E Q hd he ra rb q => ?_⟩
  ·have hf:∀ u∈v::vs, ∃ a o b ob us n,u = .ref a/\s.heap.get? a=some o/\o.cls = .type "tuple" /\ o.data = .seq (.ref b::us).toArray n/\s.heap.get? b=some ob/\ob.cls = .type "tuple" := fun u z=>by
    obtain ⟨d,hd,as,ra⟩:=hr u z;obtain ⟨ys,xs,rfl⟩:=J d hd;obtain ⟨a,o,u1,us,n,bs,Y,B,L,G,O⟩:=kR ra
    cases O with
    | tuple h1 h2 h3 h4=>exact ⟨a,o,_,_,us,n,Y,B,L,G,h1,h2⟩
   have F:∀ u∈v::vs, ∃ b ob,ce s.heap u=some (.ref b)/\s.heap.get? b=some ob/\ob.cls = .type "tuple" := fun u z=>by
    obtain ⟨a,o,b,ob,us,n,rfl,B,L,G,O,Z⟩:=hf u z;exact ⟨b,ob,by simp [ce,B,G],O,Z⟩
   rw [O6];refine e6 (dH (g:=ce s.heap) (fun u z R r => ?_) ?_)
   ·obtain ⟨a,o,b,ob,us,n,rfl,B,L,G,O,Z⟩:=hf u (by simpa using z)
    refine kP B L G ?_;simpa [ce,B,G] using r
   ·rw [nU (fun u z=>let ⟨i,t,e,_⟩:=F u z; ⟨_,e⟩)];refine e6 (H9 ?_);obtain ⟨i0,t0,e0,_⟩:=F v (by simp)
    refine e6 (fM (T := "tuple") (uG e0) (fun u z R r => ?_) ?_)
    ·obtain ⟨u',U,e⟩:=uF z;obtain ⟨b,ob,e',O,Z⟩:=F u' U;rw [e'] at e;cases e;exact A7 O Z r
    ·exact hQ q
  ·obtain ⟨zs,xs,rfl⟩:=J d hd;obtain ⟨zs',ys,rfl⟩:=J e he;have l1:=hs.lay _ hd;have l2:=hs.lay _ he;exact kQ (n:=n) (fun h=>by cases h) (hs.cmp _ hd _ he) ra rb (by simpa [Jv] using l1.1) (by simpa [Jv] using l2.1) (by have:=l1.2;simp [Im] at this;lia) z q
end
end Srt
end L2
namespace L2
namespace Srt
open PySem PySem.Spec PyProof.Rows
inductive Pl:Gw->Prop where
 | int (i:Int):Pl (.int i)
 | tup (xs:List Gw):(∀ x∈xs,Pl x)->Pl (.tuple xs)
theorem be {h h':Heap} (k:∀ b o,h.get? b=some o->o.cls = .type "tuple" -> h'.get? b=some o) {d:Gw} (p:Pl d):∀ {v:e7} {as:List Addr},Js h v d as->Js h' v d as:=by
 induction p with
 | int i=>intro v as r;cases r;exact .int _ _
 | tup xs hx ih =>
   intro v as r
   cases r with
   | tuple h1 h2 q z =>
     refine .tuple (k _ _ h1 h2) h2 q ?_;have g:∀ (xs:List Gw),(∀ x∈xs, ∀ {v:e7} {as:List Addr},Js h v x as->Js h' v x as) -> ∀ (vs:List e7) (as:List Addr),LW h vs xs as->LW h' vs xs as:=by
      intro xs
      induction xs with
      | nil=>intro _ vs as r;cases r;exact .nil
      | cons x xs ihx =>
        intro j vs as r
        cases r with
        | cons B p2=>exact .cons (j x (by simp) B) (ihx (fun y F=>j y (by simp [F])) _ _ p2)
     exact g xs ih _ _ z
section
variable {prog:FR} {w:G7} {A:Gg} {E:e7->h8->Prop} {s:h8}
theorem A8 {cap:Nat} (S:gn cap) {m:Nat} {a:Addr} {vs:List e7} {n:Nat} {ds:List Gw} (ha:s.heap.get? a=some (NN "list" vs.toArray n)) (hr:RdL s.heap vs ds) (hs:nT m ds) (hp:∀ d∈ds,Pl d) (hl:vs.length<=D0) (Ej:vs.length<=cap) (hu:A.units+m+1 < Ib) {Q:PySem.Fin->h8->Prop}
 (q:∀ (h':Heap) (out:List e7) (n':Nat),(∀ b o,b≠a->s.heap.get? b=some o->h'.get? b=some o)->h'.get? a=some (NN "list" out.toArray n')->out.Perm vs->out.Pairwise (fun x y=>ltK (toK (He s.heap y)) (toK (He s.heap x))=false)->Q (.done (.ret .none)) { s with heap:=h' }) :
 FG (FQ prog w) A (IA.«list.sort» ⟨[.ref a],[]⟩) Q E s:=by
 rw [list_sort_plain];refine e6 (Np ha rfl ?_);refine e6 (JO ha rfl ?_ (by simpa using hl) (by simp))
 have g1:=J6 ha (fun _ => #[]);generalize Ek:s.heap.update a (Ik fun _ => #[])=h1 at g1;generalize (if ((#[]:Array e7).size==vs.toArray.size)=true then n else n+1)=n1 at g1
 refine e6 (O7 g1 rfl ?_);refine e6 (LP ?_ (by simpa using hl))
 refine e6 (KO ?_ (by simp))
 refine Gz ?_;dsimp only;generalize O:({ heap:=(h1.push { cls:=GF "tuple",data:=JR vs.toArray.toList.toArray }).push { cls:=GF "list",data:=JR [].toArray },gens:=s.gens,drawn:=s.drawn,toks:=s.toks,os:=s.os }:h8)=s3;have g3:s3.heap.get? a=some (NN "list" #[] n1):=by
  rw [<- O];exact h7 _ (h7 _ g1)
 have keep:∀ b o,b≠a->s.heap.get? b=some o->s3.heap.get? b=some o:=fun b o G J=>by
  rw [<- O, <- Ek];exact h7 _ (h7 _ (by rw [Hg _ _ _ _ G];exact J))
 have keepT:∀ b o,s.heap.get? b=some o->o.cls = .type "tuple" -> s3.heap.get? b=some o:=fun b o G hc=>keep b o (fun z=>by
  rw [z,ha] at G;cases G;simp at hc) G
 have El:RdL s3.heap vs ds:=fun v hv=>by
  obtain ⟨d,hd,as,r⟩:=hr v hv;exact ⟨d,hd,as,be keepT (hp d hd) r⟩
 have same:∀ v∈vs,He s3.heap v=He s.heap v:=fun v hv=>by
  obtain ⟨d,hd,as,r⟩:=hr v hv;rw [HM (hs.lay d hd).1 r,HM (hs.lay d hd).1 (be keepT (hp d hd) r)]
 have q:∀ (h':Heap) (out:List e7) (n':Nat),(∀ b o,b≠a->s.heap.get? b=some o->h'.get? b=some o)->h'.get? a=some (NN "list" out.toArray n')->out.Perm vs->out.Pairwise (fun x y=>ltK (toK (He s.heap y)) (toK (He s.heap x))=false)->Q (.done (.ret .none)) { s3 with heap:=h' }:=by
  rw [<- O];exact q
 have Em:∀ A':Gg,A'.units=A.units->True:=fun _ _=>trivial;clear O
 let Good:Hr->Prop:=fun st'=>J1 st'=none/\(Gk st').toList.Perm (vs.zip vs)/\(Gk st').toList.Pairwise (fun x y=>ltK (cR s3.heap y) (cR s3.heap x)=false)
 by_cases F:vs.toArray.size < 2
 ·rw [if_pos F,if_pos F];refine e6 (hQ ?_);have B:vs.length < 2:=by simpa using F
  have run:FG (FQ prog w) A ((pure ():StateT Hr Sem Unit).run (JJ general' (vs.toArray.zip vs.toArray) #[] 7 none)) (fun r s'=>s'=s3/\Good r.2) E s3:=by
   refine hQ ⟨rfl,rfl, ?_, ?_⟩
   ·show (vs.toArray.zip vs.toArray).toList.Perm _;simp
   ·show List.Pairwise _ (vs.toArray.zip vs.toArray).toList
    match vs,B with
    | [],_=>simp
    | [x],_=>simp
  refine e6 (H8 (Q:=fun r s'=>s'=s3/\Good r.2) run (fun r s' hr => ?_) (fun _ _ z=>z));obtain ⟨rfl,L,j,U⟩:=hr;obtain ⟨u,st'⟩:=r;refine e6 (O7 g3 rfl ?_);refine e6 (JO g3 rfl ?_ (by simp) (by simp only [Array.size_map];have:=j.length_eq;simp at this;rw [this];lia))
  dsimp only at L;rw [L];simp only [bne_self_eq_false,Hl,if_false];refine hQ ?_;have gq:=J6 g3 (fun _=>JL (fun x=>x.snd) (Gk st'));have eo:JL (fun x=>x.snd) (Gk st')=((Gk st').toList.map fun x=>x.snd).toArray:=by apply JK.mp;simp
  refine q _ ((Gk st').toList.map fun x=>x.snd) _ (fun b o G J => ?_) (by rw [gq,eo]) ?_ ?_
  ·rw [Hg _ _ _ _ G];exact keep b o G J
  ·have Z:=j.map (fun x:FT=>x.snd);rw [NO (by simp)] at Z
   exact Z
  ·rw [Jw];refine U.imp_of_mem fun {x y} hx hy hxy => ?_;have mx:=Kd (j.mem_iff.mp hx);have my:=Kd (j.mem_iff.mp hy);unfold cR at hxy;rw [mx.1,my.1,same y.2 (by rw [<- my.1];exact my.2),same x.2 (by rw [<- mx.1];exact mx.2)] at hxy
   exact hxy
 ·rw [if_neg F,if_neg F];have B : 2<=vs.length:=by simpa using F
  obtain ⟨v0,Y,Ef⟩:∃ v0 Y,vs=v0::Y:=by
   match vs,B with
   | v::t,_=>exact ⟨v,t,rfl⟩
  obtain ⟨kd,Eg,Eh⟩:=Do (prog:=prog) (w:=w) (A:=A) (v:=v0) (vs:=Y) (by rw [<- Ef];exact El) hs hu
  rw [<- Ef] at Eg Eh;refine e6 (Eg E _ ?_);have run:FG (FQ prog w) A (sortRuns'.run (JJ kd (vs.toArray.zip vs.toArray) #[] 7 none)) (fun r s'=>s'=s3/\Good r.2) E s3:=by
   have ez:(Gk (JJ kd (vs.toArray.zip vs.toArray) #[] 7 none)).toList=vs.zip vs:=by
    show (vs.toArray.zip vs.toArray).toList=_;simp
   have h9:wpS (FQ prog w) A E s3 sortRuns' (fun _ st'=>Good st') (JJ kd (vs.toArray.zip vs.toArray) #[] 7 none):=by
    have Ei:(Gk (JJ kd (vs.toArray.zip vs.toArray) #[] 7 none)).size=vs.length:=by rw [<- GC,ez];simp
    refine S _ _ _ _ _ _ _ _ Eh (JJ kd (vs.toArray.zip vs.toArray) #[] 7 none) _ rfl rfl rfl (fun x hx => ?_) (by rw [Ei];exact B) (by rw [Ei];exact Ej) fun st' p1 p2 p3=>⟨p3,by rw [ez] at p1;exact p1,p2⟩
    rw [ez] at hx;exact (Kd hx).2
   exact h9
  refine e6 (H8 (Q:=fun r s'=>s'=s3/\Good r.2) run (fun r s' hr => ?_) (fun _ _ z=>z));obtain ⟨rfl,L,j,U⟩:=hr;obtain ⟨u,st'⟩:=r;refine e6 (O7 g3 rfl ?_);refine e6 (JO g3 rfl ?_ (by simp) (by simp only [Array.size_map];have:=j.length_eq;simp at this;rw [this];lia))
  dsimp only at L;rw [L];simp only [bne_self_eq_false,Hl,if_false];refine hQ ?_;have gq:=J6 g3 (fun _=>JL (fun x=>x.snd) (Gk st'));have eo:JL (fun x=>x.snd) (Gk st')=((Gk st').toList.map fun x=>x.snd).toArray:=by apply JK.mp;simp
  refine q _ ((Gk st').toList.map fun x=>x.snd) _ (fun b o G J => ?_) (by rw [gq,eo]) ?_ ?_
  ·rw [Hg _ _ _ _ G];exact keep b o G J
  ·have Z:=j.map (fun x:FT=>x.snd);rw [NO (by simp)] at Z
   exact Z
  ·rw [Jw];refine U.imp_of_mem fun {x y} hx hy hxy => ?_;have mx:=Kd (j.mem_iff.mp hx);have my:=Kd (j.mem_iff.mp hy);unfold cR at hxy;rw [mx.1,my.1,same y.2 (by rw [<- my.1];exact my.2),same x.2 (by rw [<- mx.1];exact mx.2)] at hxy
   exact hxy
theorem rR (u:e7):checkBuiltinCall "sorted" ⟨[u],[]⟩=pure ():=by kernel_rfl
theorem uH {cap:Nat} (S:gn cap) {m:Nat} {u:e7} {ds:List Gw} {C:Heap->List e7->Prop} {Q:e7->h8->Prop} (hu:A.units+m+3 < Ib) (hs:nT m ds) (F:∀ d∈ds,Pl d)
 (G:∀ (E:e7->h8->Prop) (R:List e7->h8->Prop),(∀ (h':Heap) (vs':List e7) (t':Nat),C h' vs'->RdL h' vs' ds->vs'.length<=D0/\vs'.length<=cap->s.toks<=t'->R vs' { s with heap:=h',toks:=t' })->FG (FQ prog w) A.in1 (collect u) R E s)
 (q:∀ (h1 h2:Heap) (vs out:List e7) (n' t':Nat),C h1 vs->(∀ b o,h1.get? b=some o->h2.get? b=some o)->h2.get? h1.objs.size=some (NN "list" out.toArray n')->out.Perm vs->out.Pairwise (fun x y=>ltK (toK (He h2 y)) (toK (He h2 x))=false)->RdL h2 out ds->vs.length<=D0->s.toks<=t'->Q (.ref h1.objs.size) { s with heap:=h2,toks:=t' }) :
 FG (FQ prog w) A (call (.builtin "sorted") [u]) Q E s:=by
 refine wpAny_call (codeAny_call_builtin plain_sorted entry_sorted (Ic (rR u) ?_));unfold Builtin.sorted;refine e6 (Ic (a:=()) (by kernel_rfl) ?_)
 refine e6 (G _ _ fun h1 vs t' hC hr J ht => ?_);obtain ⟨J,L⟩:=J;refine e6 (KO ?_ J);refine e6 (Gz ?_);have O:RdL (h1.push { cls:=GF "list",data:=JR vs.toArray }) vs ds:=fun v B=>by
  obtain ⟨d,hd,as,r⟩:=hr v B;exact ⟨d,hd,as,be (fun b o z _=>h7 _ z) (F d hd) r⟩
 have Z:(h1.push { cls:=GF "list",data:=JR vs.toArray }).get? h1.objs.size=some (NN "list" vs.toArray 0):=FF _ rfl;refine Gq slot_list_sort (T := "list") ⟨_,Z,rfl⟩ entry_list_sort ?_ (args_list_sort _);refine A8 S (m:=m) Z O hs F J L (by show A.units+1+1+m+1 < Ib;lia) fun h2 out n' keep g2 j U=>⟨_,rfl,hQ ?_⟩
 have old:∀ b o,h1.get? b=some o->h2.get? b=some o:=fun b o z=>keep b o (G0 (Fz z)) (h7 _ z);have Y:RdL h2 vs ds:=fun v B=>by
  obtain ⟨d,hd,as,r⟩:=hr v B;exact ⟨d,hd,as,be (fun b o z _=>old b o z) (F d hd) r⟩
 refine q h1 h2 vs out n' t' hC old g2 j ?_ (fun v B=>Y v (j.mem_iff.mp B)) J ht;have same:∀ v∈vs,He (h1.push { cls:=GF "list",data:=JR vs.toArray }) v=He h2 v:=fun v B=>by
  obtain ⟨d,hd,as,r⟩:=hr v B;rw [HM (hs.lay d hd).1 (be (fun b o z _=>old b o z) (F d hd) r),HM (hs.lay d hd).1 (be (fun b o z _=>h7 _ z) (F d hd) r)]
 refine U.imp_of_mem fun {x y} hx hy hxy => ?_;rw [same y (j.mem_iff.mp hy),same x (j.mem_iff.mp hx)] at hxy;exact hxy
end
end Srt
end L2
namespace L2
namespace It
open PySem PySem.Spec PyProof.Rows
end It
end L2
namespace L2
namespace It
open PySem PySem.Spec PyProof.Rows
end It
end L2
namespace L2
namespace It
open PySem PySem.Spec PyProof.Rows
end It
end L2
namespace L2
open PySem PySem.Spec PyProof.Rows
section
section
variable {P:FR} {w:G7} {H:Hp} {h:Heap} {a:Addr} {o:HO}
theorem ObjOk.there (x:ObjOk P w H h a o):∃ ob,h.get? a=some ob:=by
 cases o with
 | lst xs=>obtain ⟨_,_,_,_,e⟩:=x;exact ⟨_,e⟩
 | tup xs=>obtain ⟨_,_,_,_,e,_⟩:=x;exact ⟨_,e⟩
 | dK kvs=>obtain ⟨_,_,_,_,o,_,_,e,_⟩:=x;exact ⟨_,e⟩
 | dT kvs=>obtain ⟨_,_,_,_,o,_,_,e,_⟩:=x;exact ⟨_,e⟩
 | set S n=>obtain ⟨o,_,_,_,e,_⟩:=x;exact ⟨_,e⟩
 | ins C dx fs=>obtain ⟨_,_,_,e,_⟩:=x;exact ⟨_,e⟩
 | own y=>obtain ⟨_,e⟩:=x;exact ⟨_,e⟩
 | xd fs=>obtain ⟨_,⟨_,_,_,e,_⟩,_⟩:=x;exact ⟨_,e⟩
 | rng lo hi=>obtain ⟨_,_,_,e⟩:=x;exact ⟨_,e⟩
 | frz ob u=>obtain ⟨e,_⟩:=x;exact ⟨_,e⟩
 | tbl ps=>exact ⟨_,show h.get? a=some _ from x⟩
 | met f y=>exact ⟨_,show h.get? a=some _ from x⟩
 | ext φ => obtain ⟨_,⟨_,e⟩,_⟩:=x;exact ⟨_,e⟩
end
noncomputable def lay (H:Hp) (N:Addr->Option HO):Hp:=fun b=>match N b with | some o=>some o | none=>H b
section
variable {X:Cx} {pins:List (Addr×Obj)} {σ:List (Option V)} {H:Hp} {s:h8} {h':Heap} {N:Addr->Option HO}
theorem A9 {b:Addr} {o:HO} (e:N b=some o):lay H N b=some o:=by unfold lay;rw [e]
theorem jJ {b:Addr} (e:N b=none):lay H N b=H b:=by unfold lay;rw [e]
theorem Inv.fresh' (I:Inv X pins σ H s) {b:Addr} (e:s.heap.get? b=none):H b=none:=by
 cases q:H b with
 | none=>rfl
 | some o=>obtain ⟨ob,eo⟩:=(I.hok b o q).there;rw [e] at eo;cases eo
theorem Inv.laidN {t':Nat} (I:Inv X pins σ H s) (k:∀ b u,s.heap.get? b=some u->h'.get? b=some u) (j:∀ b o,N b=some o->s.heap.get? b=none) (new:∀ b o,N b=some o->ObjOk X.prog X.w (lay H N) h' b o):Inv X pins σ (lay H N) { s with heap:=h',toks:=t' }:=by
 have old:∀ b u,s.heap.get? b=some u->N b=none:=fun b u e=>by
  cases q:N b with
  | none=>rfl
  | some o=>rw [j b o q] at e;cases e
 have oldH:∀ b o,H b=some o->lay H N b=some o:=fun b o e=>by
  obtain ⟨ob,eo⟩:=(I.hok b o e).there;rw [jJ (old b ob eo)];exact e
 refine I.un ⟨fun b u q _ _ _=>k b u q,fun b u q _ _ _=>⟨u.slots,k b u q⟩,fun b u q n _=>by rw [jJ (old b u q)];exact n,fun b u q _=>⟨u,k b u q⟩,fun b xs q=>oldH b _ q,fun b u xs q=>oldH b _ q,fun b ps q=>⟨#[],by rw [oldH b _ q];simp⟩⟩ fun b o e => ?_
 cases q:N b with
 | some o'=>rw [A9 q] at e;cases e;exact new b o q
 | none =>
   rw [jJ q] at e;exact (I.hok b o e).stay (fun c v _ q=>k c v q) (fun c q=>oldH c _ q) fun c xs q=>oldH c _ q
end
namespace Mi
open L2.Srt
inductive Sh where
 | int
 | tup (l:List Sh)
mutual
noncomputable def hs:Sh->D->Bool
 | .int, .int _=>true
 | .tup l, .tup ds=>hss l ds
 | _,_=>false
noncomputable def hss:List Sh->List D->Bool
 | [],[] => true
 | s::l,d::ds=>hs s d&&hss l ds
 | _,_=>false
end
mutual
noncomputable def pd:D->Gw
 | .int i => .int i
 | .tup ds => .tuple (pds ds)
 | _ => .none
noncomputable def pds:List D->List Gw
 | [] => []
 | d::ds=>pd d::pds ds
end
mutual
noncomputable def dep:Sh->Nat
 | .int => 0
 | .tup l=>deps l+1
noncomputable def deps:List Sh->Nat
 | [] => 0
 | s::l=>max (dep s) (deps l)
end
noncomputable def jK:Sh->Bool
 | .int=>true
 | .tup (.int::l)=>decide (deps l<=6)
 | .tup (.tup a::l)=>decide (deps (.tup a::l)<=6)
 | .tup [] => false
noncomputable def kyD (d:D):Ky:=toK (pd d)
mutual
theorem uI:∀ (s:Sh) (x y:D),hs s x=true->hs s y=true->Cmpb (pd x) (pd y)
 | .int, .int a, .int b,_,_=>by simp only [pd];exact .int a b
 | .tup l, .tup a, .tup b,h,g=>by simp only [hs] at h g;simp only [pd];exact hss_cmp l a b h g
 | .int, .int _, .non,_,g=>by simp [hs] at g
 | .int, .int _, .bl _,_,g=>by simp [hs] at g
 | .int, .int _, .str _,_,g=>by simp [hs] at g
 | .int, .int _, .tup _,_,g=>by simp [hs] at g
 | .int, .int _, .con _,_,g=>by simp [hs] at g
 | .int, .int _, .ref _,_,g=>by simp [hs] at g
 | .int, .non,_,h,_=>by simp [hs] at h
 | .int, .bl _,_,h,_=>by simp [hs] at h
 | .int, .str _,_,h,_=>by simp [hs] at h
 | .int, .tup _,_,h,_=>by simp [hs] at h
 | .int, .con _,_,h,_=>by simp [hs] at h
 | .int, .ref _,_,h,_=>by simp [hs] at h
 | .tup _, .non,_,h,_=>by simp [hs] at h
 | .tup _, .bl _,_,h,_=>by simp [hs] at h
 | .tup _, .int _,_,h,_=>by simp [hs] at h
 | .tup _, .str _,_,h,_=>by simp [hs] at h
 | .tup _, .con _,_,h,_=>by simp [hs] at h
 | .tup _, .ref _,_,h,_=>by simp [hs] at h
 | .tup _, .tup _, .non,_,g=>by simp [hs] at g
 | .tup _, .tup _, .bl _,_,g=>by simp [hs] at g
 | .tup _, .tup _, .int _,_,g=>by simp [hs] at g
 | .tup _, .tup _, .str _,_,g=>by simp [hs] at g
 | .tup _, .tup _, .con _,_,g=>by simp [hs] at g
 | .tup _, .tup _, .ref _,_,g=>by simp [hs] at g
theorem hss_cmp:∀ (l:List Sh) (a b:List D),hss l a=true->hss l b=true->Cmpb (.tuple (pds a)) (.tuple (pds b))
 | [],[],[],_,_=>by simp only [pds];exact .nil _
 | [],[],_::_,_,g=>by simp [hss] at g
 | [],_::_,_,h,_=>by simp [hss] at h
 | _::_,[],_,h,_=>by simp [hss] at h
 | _::_,_::_,[],_,g=>by simp [hss] at g
 | s::l,x::a,y::b,h,g=>by
   simp only [hss,hG] at h g;simp only [pds];exact .cons (uI s x y h.1 g.1) (hss_cmp l a b h.2 g.2)
end
mutual
theorem rS:∀ (s:Sh) (x:D),hs s x=true->Pl (pd x)/\(pd x).canLay0=true/\(pd x).depth<=dep s
 | .int, .int a,_=>by simp only [pd];exact ⟨.int a,rfl,by simp [Im]⟩
 | .tup l, .tup a,h=>by
  simp only [hs] at h;obtain ⟨h1,h2,j⟩:=hss_pl l a h;simp only [pd];exact ⟨.tup _ h1,by simpa [Jv] using h2,by simp [Im,dep];lia⟩
 | .int, .non,h=>by simp [hs] at h
 | .int, .bl _,h=>by simp [hs] at h
 | .int, .str _,h=>by simp [hs] at h
 | .int, .tup _,h=>by simp [hs] at h
 | .int, .con _,h=>by simp [hs] at h
 | .int, .ref _,h=>by simp [hs] at h
 | .tup _, .non,h=>by simp [hs] at h
 | .tup _, .bl _,h=>by simp [hs] at h
 | .tup _, .int _,h=>by simp [hs] at h
 | .tup _, .str _,h=>by simp [hs] at h
 | .tup _, .con _,h=>by simp [hs] at h
 | .tup _, .ref _,h=>by simp [hs] at h
theorem hss_pl:∀ (l:List Sh) (a:List D),hss l a=true->(∀ x∈pds a,Pl x)/\GJ (pds a)=true/\Hx (pds a)<=deps l
 | [],[],_=>by simp [pds,GJ,Hx]
 | [],_::_,h=>by simp [hss] at h
 | _::_,[],h=>by simp [hss] at h
 | s::l,x::a,h=>by
   simp only [hss,hG] at h;obtain ⟨h1,h2,q⟩:=rS s x h.1;obtain ⟨g1,g2,g3⟩:=hss_pl l a h.2;simp only [pds];refine ⟨fun y j => ?_,by simp [GJ,h2,g2],by simp [Hx,deps];lia⟩
   rcases Fx.mp j with z | z
   ·rw [z];exact h1
   ·exact g1 y z
end
mutual
theorem yG (M:Mem):∀ (s:Sh) (x:D) (n:Nat),hs s x=true->dep s<=n->rb n M x=some (pd x)
 | .int, .int a,n,_,_=>by cases n <;> simp [rb,pd]
 | .tup l, .tup a,n,h,j=>by
  simp only [hs] at h;simp only [dep] at j;obtain ⟨k,rfl⟩:∃ k,n=k+1:=⟨n - 1,by lia⟩
  simp only [rb,pd];rw [hss_rb M l a k h (by lia)];rfl
 | .int, .non,_,h,_=>by simp [hs] at h
 | .int, .bl _,_,h,_=>by simp [hs] at h
 | .int, .str _,_,h,_=>by simp [hs] at h
 | .int, .tup _,_,h,_=>by simp [hs] at h
 | .int, .con _,_,h,_=>by simp [hs] at h
 | .int, .ref _,_,h,_=>by simp [hs] at h
 | .tup _, .non,_,h,_=>by simp [hs] at h
 | .tup _, .bl _,_,h,_=>by simp [hs] at h
 | .tup _, .int _,_,h,_=>by simp [hs] at h
 | .tup _, .str _,_,h,_=>by simp [hs] at h
 | .tup _, .con _,_,h,_=>by simp [hs] at h
 | .tup _, .ref _,_,h,_=>by simp [hs] at h
theorem hss_rb (M:Mem):∀ (l:List Sh) (a:List D) (n:Nat),hss l a=true->deps l<=n->aA (rb n M) a=some (pds a)
 | [],[],_,_,_=>by simp [pds,aA]
 | [],_::_,_,h,_=>by simp [hss] at h
 | _::_,[],_,h,_=>by simp [hss] at h
 | s::l,x::a,n,h,j=>by
   simp only [hss,hG] at h;simp only [deps] at j;simp only [pds,aA];rw [yG M s x n h.1 (by lia),hss_rb M l a n h.2 (by lia)];rfl
end
theorem nV {s:Sh} (h:jK s=true):dep s<=7:=by
 match s,h with
 | .int,_=>simp [dep]
 | .tup (.int::l),h=>simp [jK] at h;simp [dep,deps];lia
 | .tup (.tup a::l),h=>simp only [jK,decide_eq_true_eq] at h;simp only [dep];lia
theorem Aa {s:Sh} (h:jK s=true) {xs:List D} (hx:∀ x∈xs,hs s x=true):nT 7 (xs.map pd) /\ ∀ d∈xs.map pd,Pl d:=by
 refine ⟨⟨?_, ?_, ?_⟩, ?_⟩
 ·intro d hd e he;obtain ⟨x,h1,rfl⟩:=FI.mp hd;obtain ⟨y,h2,rfl⟩:=FI.mp he;exact uI s x y (hx x h1) (hx y h2)
 ·intro d hd;obtain ⟨x,h1,rfl⟩:=FI.mp hd;obtain ⟨_,g2,g3⟩:=rS s x (hx x h1);exact ⟨g2,by have:=nV h;lia⟩
 ·match s,h with
  | .int,_ =>
   left
   intro d hd;obtain ⟨x,h1,rfl⟩:=FI.mp hd;have:=hx x h1
   cases x <;> simp [hs] at this
   exact ⟨_,rfl⟩
  | .tup (.int::l),_ =>
   right;left
   intro d hd;obtain ⟨x,h1,rfl⟩:=FI.mp hd;have:=hx x h1
   cases x <;> simp [hs] at this
   rename_i ds
   cases ds with
   | nil=>simp [hss] at this
   | cons y ys =>
     simp [hss] at this
     cases y <;> simp [hs] at this
     exact ⟨_,_,rfl⟩
  | .tup (.tup a::l),_ =>
   right;right
   intro d hd;obtain ⟨x,h1,rfl⟩:=FI.mp hd;have:=hx x h1
   cases x <;> simp [hs] at this
   rename_i ds
   cases ds with
   | nil=>simp [hss] at this
   | cons y ys =>
     simp [hss] at this
     cases y <;> simp [hs] at this
     exact ⟨_,_,rfl⟩
 ·intro d hd;obtain ⟨x,h1,rfl⟩:=FI.mp hd;exact (rS s x (hx x h1)).1
theorem uJ {α β:Type} (f : α -> β):∀ {l m:List β},l.Perm m -> ∀ {t:List α},t.map f=m -> ∃ t':List α,t'.Perm t/\t'.map f=l:=by
 intro l m h
 induction h with
 | nil=>intro t e;exact ⟨[],by rw [Mq.mp e],rfl⟩
 | cons x h ih =>
   intro t e
   cases t with
   | nil=>simp at e
   | cons a t =>
     simp at e;obtain ⟨t',h1,h2⟩:=ih e.2;exact ⟨a::t',h1.cons a,by simp [h2,e.1]⟩
 | swap x y l =>
   intro t e
   match t,e with
   | a::b::t,e =>
     simp at e;exact ⟨b::a::t, .swap _ _ _,by simp [e]⟩
 | trans h1 h2 j q =>
   intro t e;obtain ⟨G,p2,z⟩:=q e;obtain ⟨t1,B,F⟩:=j z;exact ⟨t1,B.trans p2,F⟩
def jL (ys:List D):Prop:=ys.Pairwise fun a b=>ltK (kyD b) (kyD a)=false
theorem qf {K:Frag} {H:Hp}:∀ {ds:List D} {vs:List V} {us:List e7},RDs K H ds vs->Vals vs us -> ∃ t:List (D×V×e7),t.map (·.1)=ds/\t.map (·.2.1)=vs/\t.map (·.2.2)=us /\ ∀ p∈t,RD K H p.1 p.2.1/\RelV p.2.1 p.2.2
 | [],vs,us,h,g=>by
  cases RDs.nil_iff.mp h
  cases g
  exact ⟨[],rfl,rfl,rfl,fun _ h=>by simp at h⟩
 | d::ds,vs,us,h,g=>by
   obtain ⟨v,r,rfl,h1,h2⟩:=OM.mp h
   cases g with
   | cons g1 g2 =>
     rename_i u us;obtain ⟨t,j,q,B,F⟩:=qf h2 g2;exact ⟨(d,v,u)::t,by simp [j],by simp [q],by simp [B],fun p G=>by
      rcases Fx.mp G with z | z
      ·rw [z];exact ⟨h1,g1⟩
      ·exact F p z⟩
theorem qg {K:Frag} {H:Hp}:∀ {t:List (D×V×e7)},(∀ p∈t,RD K H p.1 p.2.1/\RelV p.2.1 p.2.2)->RDs K H (t.map (·.1)) (t.map (·.2.1))/\Vals (t.map (·.2.1)) (t.map (·.2.2))
 | [],_=>⟨RDs.nil, .nil⟩
 | p::t,h=>by
   obtain ⟨h1,h2⟩:=qg (t:=t) fun q j=>h q (by simp [j])
   exact ⟨RDs.cons (h p (by simp)).1 h1, .cons (h p (by simp)).2 h2⟩
section
variable {X:Cx}
theorem pF {cap:Nat} (S:gn cap) (L:X.A.units+16 < Ib) {pins:List (Addr×Obj)} {s:h8} {σ:St} {H:Hp} {Q:VK} (I:Inv X pins σ H s) {M:Mem} (rm:RM X.K M H) {es:List D} {sh:Sh} {vs:List V} {p:Addr} (rvs:RDs X.K H es vs) (hok:jK sh=true) (O:∀ d∈es,hs sh d=true)
 (q:∀ p ys,M p=none->ys.Perm es->jL ys->KE' X.K M H Q (.ref p) (ad M p (.lst ys))) {its:List e7} (hv:Vals vs its) (hl:vs.length<=D0) (Eh:vs.length<=cap)
 (U:∀ (E:e7->h8->Prop) (R:List e7->h8->Prop),(∀ (h':Heap) (tk:Nat),(∀ b o,s.heap.get? b=some o->h'.get? b=some o)->s.toks<=tk->R its { s with heap:=h',toks:=tk })->FG (FQ X.prog X.w) X.A.in1 (collect (.ref p)) R E s) :
 FG (FQ X.prog X.w) X.A (call (.builtin "sorted") [.ref p]) (EP X pins σ Q) X.xe s:=by
 obtain ⟨hS,J⟩:=Aa hok O;have Ek:=nV hok;obtain ⟨t,t1,t2,t3,t4⟩:=qf rvs hv;have Y:∀ pp∈t, ∃ as,Js s.heap pp.2.2 (pd pp.1) as:=fun pp j=>by
  have hm:pp.1∈es:=by rw [<- t1];exact GS j
  exact bA I rm 16 pp.1 (pd pp.1) pp.2.1 pp.2.2 (yG M sh pp.1 16 (O _ hm) (by lia)) (t4 pp j).1 (t4 pp j).2
 have Z:RdL s.heap its (es.map pd):=fun u L=>by
  rw [<- t3] at L;obtain ⟨pp,j,rfl⟩:=FI.mp L;obtain ⟨as,ra⟩:=Y pp j;exact ⟨pd pp.1,GS (by rw [<- t1];exact GS j),as,ra⟩
 refine uH S (m := 7) (ds:=es.map pd) (C:=fun h' vs'=>vs'=its /\ ∀ b o,s.heap.get? b=some o->h'.get? b=some o) (by lia) hS J (fun E R hR => ?_) fun h1 h2 vs' out n' tk hC old g2 F Ef El Em ht => ?_
 ·refine U E R fun h' tk kp Ei=>hR h' its tk ⟨rfl,kp⟩ (fun u L => ?_) ⟨by rw [<- hv.length];exact hl,by rw [<- hv.length];exact Eh⟩ Ei
  obtain ⟨d,hd,as,ra⟩:=Z u L;exact ⟨d,hd,as,be (fun b o e _=>kp b o e) (J d hd) ra⟩
 ·obtain ⟨rfl,kp⟩:=hC;rw [<- t3] at F;obtain ⟨t',p1,p2⟩:=uJ (fun pp:D×V×e7=>pp.2.2) F rfl;have hz:=qg (t:=t') fun pp j=>t4 pp (p1.mem_iff.mp j);have Eg:∀ b o,s.heap.get? b=some o->h2.get? b=some o:=fun b o e=>old b o (kp b o e);have z:s.heap.get? h1.objs.size=none:=by
   cases hq:s.heap.get? h1.objs.size with
   | none=>rfl
   | some o=>exact absurd (Fz (kp _ _ hq)) (Gy _)
  have Ej:=I.fresh' z;have hlen:(t'.map (·.2.1)).length<=D0:=by
   rw [gV,p1.length_eq, <- gV (f:=fun pp:D×V×e7=>pp.2.1),t2];exact hl
  have I2:=I.laidN (t':=tk) (h':=h2) (N:=fun b=>if b=h1.objs.size then some (.lst (t'.map (·.2.1))) else none) Eg (fun b o e=>by
   by_cases B:b=h1.objs.size
   ·rw [B];exact z
   ·rw [if_neg B] at e;cases e) (fun b o e=>by
   by_cases B:b=h1.objs.size
   ·subst B;rw [if_pos rfl] at e;cases e;exact ⟨hlen,out,n',by rw [<- p2];exact hz.2,g2⟩
   ·rw [if_neg B] at e;cases e)
  have eH:lay H (fun b=>if b=h1.objs.size then some (.lst (t'.map (·.2.1))) else none)=upd H h1.objs.size (.lst (t'.map (·.2.1))):=by
   funext b
   unfold lay upd;dsimp only
   by_cases B:b=h1.objs.size
   ·rw [if_pos B,if_pos B]
   ·rw [if_neg B,if_neg B]
  rw [eH] at I2;refine ⟨.ref h1.objs.size,_,I2,rfl, ?_⟩;refine ca rm hz.1 (fun p' n=>q p' _ n ?_ ?_) Ej
  ·have:=p1.map (fun pp:D×V×e7=>pp.1);rw [t1] at this;exact this
  ·unfold jL;rw [Jw];rw [<- p2,Jw] at Ef;refine Ef.imp_of_mem fun {a b} ha B hab => ?_;have rd:∀ pp∈t',He h2 pp.2.2=pd pp.1:=fun pp j=>by
    have G:=p1.mem_iff.mp j;obtain ⟨as,ra⟩:=Y pp G;have hm:pp.1∈es:=by rw [<- t1];exact GS G
    exact HM (hS.lay _ (GS hm)).1 (be (fun b o e _=>Eg b o e) (J _ (GS hm)) ra)
   rw [rd a ha,rd b B] at hab;exact hab
end
end Mi
end
end L2
namespace L2
namespace Mi
open PySem PySem.Spec PyProof.Rows L2.Srt
def nW (K:Frag) (H:Hp) (kv:D×D) (e:I0):Prop := ∃ kV vV,RD K H kv.1 kV/\RelV kV e.key/\RD K H kv.2 vV/\RelV vV e.val
theorem qh {K:Frag} {H:Hp} {d:D} {k:Key} (h:RKey d k):RD K H d (kV k):=by
 cases d <;> first
  | exact h.elim
  | (cases h;first | exact OJ.mpr rfl | exact OR.mpr rfl)
theorem kS {K:Frag} {H:Hp}:∀ {ds:List D} {ks:List Key},Gn RKey ds ks->RDs K H ds (ks.map kV)
 | _,_, .nil=>RDs.nil
 | _,_, .cons r t=>RDs.cons (qh r) (kS t)
theorem yH {P:FR} {w:G7} {K:Frag} {H:Hp}:∀ {kvs:List (D×D)} {ps:List (Key×V)} {vs:List (Key×e7)} {es:List I0},Gn (fun (p:D×D) (q:Key×V)=>RKey p.1 q.1/\RD K H p.2 q.2) kvs ps->KV ps vs->Pairs (aJ P w) es vs->Gn (nW K H) kvs es
 | _,_,_,_, .nil, .nil, .nil => .nil
 | _,_,_,_, .cons r1 t1, .cons r2 B, .cons h1 h2 t3=>by
   refine .cons ⟨kV _,_,qh r1.1, ?_,r1.2,by rw [h2];exact r2.2⟩ (yH t1 B t3)
   rw [<- r2.1] at h1
   rcases aP h1 with ⟨i,t,j,z⟩ | ⟨x,t,j,z⟩
   ·rw [j,z];exact ⟨t,rfl⟩
   ·rw [j,z];exact ⟨t,rfl⟩
theorem yI {P:FR} {w:G7} {K:Frag} {H:Hp}:∀ {kvs:List (D×D)} {ps:List (List Key×V)} {xs:List (List Key×Addr×e7)},Gn (fun (p:D×D) (q:List Key×V)=>RKeys p.1 q.1/\RD K H p.2 q.2) kvs ps->Gn (fun (p:List Key×V) (q:List Key×Addr×e7)=>p.1=q.1/\H q.2.1=some (.tup (p.1.map kV))/\RelV p.2 q.2.2) ps xs->Gn (nW K H) kvs (xs.map (entryOfKey (KY (aJ P w))))
 | _,_,_, .nil, .nil => .nil
 | kv::_,_,_, .cons r1 t1, .cons r2 z=>by
   refine .cons ?_ (yI t1 z);obtain ⟨d,v⟩:=kv;have j:=r1.1
   cases d <;> first
    | exact j.elim
    | exact ⟨.ref _,_,OU ⟨_,_,rfl,r2.2.1,kS j⟩,rfl,r1.2,r2.2.2⟩
theorem cg {α β:Type} {R : α -> β -> Prop}:∀ {l:List α} {m:List β},Gn R l m->l.length=m.length
 | _,_, .nil=>rfl
 | _,_, .cons _ t=>by simp [cg t]
section
variable {X:Cx}
theorem BX {H:Hp} {h:Heap} {P:FR} {w:G7} {K:Frag} {a:Addr} {ps:List (List Key×V)} {kvs:List (D×D)} (ok:ObjOk P w H h a (.dT ps)) (pr:Gn (fun (p:D×D) (q:List Key×V)=>RKeys p.1 q.1/\RD K H p.2 q.2) kvs ps) :
 ∃ cd dd sl es ep,h.get? a=some { cls:=cd,dict:=dd,data := .dict es ep,slots:=sl }/\es.size<=D0/\Gn (nW K H) kvs es.toList:=by
 obtain ⟨G,B,xs,j,o,es,ep,h1,h2,z,F,J⟩:=ok;obtain ⟨cd,dd,dat,sl⟩:=o;dsimp only at z;subst z;have pp:=yI (P:=P) (w:=w) pr j;rw [<- F] at pp;refine ⟨cd,dd,sl,es,ep,h1, ?_,pp⟩;have:=cg pp;have:=cg pr;simp at *;lia
theorem Ab {pins:List (Addr×Obj)} {σ:St} {H:Hp} {s:h8} {M:Mem} (I:Inv X pins σ H s) (rm:RM X.K M H) {a:Addr} {t:Bool} {kvs:List (D×D)} (e:M a=some (.dct t kvs)) :
 ∃ cd dd sl es ep,s.heap.get? a=some { cls:=cd,dict:=dd,data := .dict es ep,slots:=sl }/\es.size<=D0/\Gn (nW X.K H) kvs es.toList/\IsD H a:=by
 have ro:=rm a _ e
 cases t with
 | false =>
   obtain ⟨ps,j,pr⟩:=ro;obtain ⟨G,B,vs,z,o,es,ep,h1,h2,q,J,F,L⟩:=I.hok a _ j;obtain ⟨cd,dd,dat,sl⟩:=o;dsimp only at q;subst q;have pp:=yH pr z F;refine ⟨cd,dd,sl,es,ep,h1, ?_,pp, .inl ⟨_,Rd.of j⟩⟩;have:=cg pp;have:=cg pr;simp at *;lia
 | true =>
   obtain ⟨ps,j,pr⟩:=ro;obtain ⟨cd,dd,sl,es,ep,h1,h2,q⟩:=BX (I.hok a _ j) pr;exact ⟨cd,dd,sl,es,ep,h1,h2,q, .inr ⟨_,Rd.of j⟩⟩
end
section
section
variable {X:Cx}
theorem BY {K:Frag} {M:Mem} {H:Hp} (rm:RM K M H) {a:Addr} {t:Bool} {kvs:List (D×D)} (e:M a=some (.dct t kvs)):IsD H a:=by
 have ro:=rm a _ e
 cases t with
 | false=>obtain ⟨ps,j,_⟩:=ro;exact .inl ⟨_,Rd.of j⟩
 | true=>obtain ⟨ps,j,_⟩:=ro;exact .inr ⟨_,Rd.of j⟩
end
end
end Mi
end L2
namespace L2
open PySem PySem.Spec PyProof.Rows
namespace Mi
end Mi
end L2
namespace L2
open PySem PySem.Spec PyProof.Rows
namespace Mi
end Mi
end L2
namespace L2
open PySem PySem.Spec PyProof.Rows
namespace Mi
end Mi
end L2
namespace L2
open PySem PySem.Spec PyProof.Rows
end L2
namespace L2
namespace Mi
open PySem PySem.Spec PyProof.Rows
section
section
variable {X:Cx}
noncomputable def b7 (kvs:List (D×D)):List (D×D):=kvs.foldl (fun a kv=>bO a kv.1 kv.2) []
end
end
section
section
variable {K:Frag} {M M' M'':Mem} {H H' H'':Hp} {p:Addr}
theorem ExtP.transD {q:HO} (a:ExtP p M H M' H') (j:H' p=some q) (b:ExtP p M' H' M'' H''):ExtP p M H M'' H'' :=
 ⟨fun c o ne n h=>b.kp c o ne (by rw [a.nw c o n h];exact n) (a.kp c o ne n h),fun c o n h=>by
   have n':fz (M' c)=true:=by rw [a.nw c o n h];exact n
   refine Eq.trans ?_ (a.nw c o n h)
   by_cases z:c=p
   ·subst z;exact b.nw c _ n' j
   ·exact b.nw c o n' (a.kp c o z n h)⟩
theorem ExtP.stabD {vs:List (Key×V)} (r:RM K M H) (j:H p=some (.dK vs)) (x:ExtP p M H M' H'):Stab H H' where
 tup:=fun a xs e=>x.kp a _ (fun z=>by subst z;rw [j] at e;cases e) (by rw [r.fzT e];rfl) e
 frz:=fun a o u e=>x.kp a _ (fun z=>by subst z;rw [j] at e;cases e) (r.fzF e) e
theorem qi {vs:List (Key×V)} {ho:HO} (j:H p=some (.dK vs)):Stab H (upd H p ho) :=
 ⟨fun a xs e=>by rw [ai (fun z=>by subst z;rw [j] at e;cases e)];exact e,fun a o u e=>by rw [ai (fun z=>by subst z;rw [j] at e;cases e)];exact e⟩
theorem RM.sideD {vs:List (Key×V)} {ho:HO} (r:RM K M H) (n:M p=none) (j:H p=some (.dK vs)):RM K M (upd H p ho):=fun a o e=>by
 have ne:a≠p:=fun z=>by subst z;rw [n] at e;cases e
 exact (r a o e).mono (qi j) fun B q=>by rw [ai ne];exact q
end
noncomputable def kvT (kv:D×D):D := .tup [kv.1,kv.2]
noncomputable abbrev RKv (K:Frag) (H:Hp):D×D->Key×V->Prop:=fun p q=>RKey p.1 q.1/\RD K H p.2 q.2
def jM (K:Frag) (H:Hp) (p:Addr) (acc:List D):Prop := ∃ kvs ps,acc=kvs.map kvT/\H p=some (.dK ps)/\Gn (RKv K H) (b7 kvs) ps
noncomputable def lCD (K:Frag) (p:Addr) (T:TCd):TC:=fun σ H N => ∃ ρ M acc,RS K H σ ρ /\ RM K M H/\M p=none/\jM K H p acc/\T ρ M acc fun ρ' M' acc' => ∀ σ' H',ExtP p M H M' H'->RS K H' σ' ρ'->RM K M' H'->jM K H' p acc'->N σ' H'
noncomputable def dv (tk tv:TEd):TCd:=fun ρ M acc N=>tk ρ M fun k M1=>tv ρ M1 fun v M2=>cv k=true/\acc.length < D0/\N ρ M2 (acc++[.tup [k,v]])
theorem jc {tk tv:TEd} (h:ae tk) (h2:ae tv):b6 (dv tk tv):=fun ρ M acc N N' i q=>h _ _ _ _ (fun k M1 j=>h2 _ _ _ _ (fun v M2 ⟨z,B,F⟩=>⟨z,B,i _ _ _ F⟩) j) q
noncomputable def fN (fr:List (Option Nat)) (src:TId) (b:BT) (tb:TCd):TEd:=fun ρ M Q=>src ρ M fun xs chk M1=>aY b tb chk (fun _ M' acc => ∀ kvs p,acc=kvs.map kvT->M' p=none->Q (.ref p) (ad M' p (.dct false (b7 kvs)))) xs (gR fr ρ) M1 []
theorem rT {fr:List (Option Nat)} {src:TId} {b:BT} {tb:TCd} (hs:bw src) (j:b6 tb):ae (fN fr src b tb):=fun ρ M Q Q' i q =>
 hs _ _ _ _ (fun xs c M1 z=>dF j (fun _ M' acc B kvs p e n=>i _ _ (B kvs p e n)) xs _ _ _ z) q
theorem xC (k v:D):∀ a:List (D×D),(bO a k v).length<=a.length+1:=by
 intro a;unfold bO
 split <;> simp
theorem uK (kvs:List (D×D)):(b7 kvs).length<=kvs.length:=by
 have h:∀ (l a:List (D×D)),(l.foldl (fun a kv=>bO a kv.1 kv.2) a).length<=a.length+l.length:=by
  intro l
  induction l with
  | nil=>intro a;simp
  | cons x l ih=>intro a;have:=ih (bO a x.1 x.2);have:=xC x.1 x.2 a;rw [Gr,Gj];lia
 have:=h kvs [];unfold b7;simpa using this
theorem Ac {a b:List (D×D)} (h:a.map kvT=b.map kvT):a=b:=by
 induction a generalizing b with
 | nil=>cases b with | nil=>rfl | cons y b=>cases h
 | cons x a ih =>
   cases b with
   | nil=>cases h
   | cons y b =>
     rw [FL,FL,Lx] at h;obtain ⟨h1,h2⟩:=h;unfold kvT at h1
     cases x;cases y
     cases h1
     rw [ih h2]
section
variable {K:Frag} {p:Addr}
theorem Paired.len {α β:Type} {R : α -> β -> Prop}:∀ {a:List α} {b:List β},Gn R a b->a.length=b.length
 | _,_, .nil=>rfl
 | _,_, .cons _ t=>by rw [Gj,Gj,Paired.len t]
theorem rV {tk tv:TEd} (m:ae tk) (m2:ae tv) (σ:St) (H:Hp) (N:St->Hp->Prop) (h:lCD K p (dv tk tv) σ H N):tQ p (lE K tk) (lE K tv) σ H N:=by
 obtain ⟨ρ,M,acc,rs,rm,n,⟨kvs,ps,rfl,hp,ra⟩,q⟩:=h;refine ⟨ρ,M,rs,rm,m _ _ _ _ (fun k M1 q1 y H1 F G U => ?_) q⟩;have J:=F.keep p _ n hp;have n1:=F.new p _ n hp;have st:=F.stab rm;refine ⟨ρ,M1,rs.mono st,G,m2 _ _ _ _ (fun v M2 ⟨hk,hz,q2⟩ u H2 L Y Z => ?_) q1⟩;have j:=L.keep p _ n1 J;have n2:=L.new p _ n1 J;have B:=L.stab G;obtain ⟨kq,hq⟩:=dS hk;have O:Stab H2 (upd H2 p (.dK (bg ps kq u))):=qi j;have Ef:Gn (RKv K H2) (b7 kvs) ps:=ON ra fun _ _ z=>⟨z.1,(z.2.mono st).mono B⟩;have hl:ps.length < D0:=by
  rw [<- Paired.len ra];have:=uK kvs;rw [gV] at hz;lia
 refine ⟨ps,kq,j,cY hq (U.mono B),hl,q2 σ _ ⟨fun a o ne m' e => ?_,(F.trans L).nw⟩ (((rs.mono st).mono B).mono O) (Y.sideD n2 j) ⟨kvs++[(k,v)],bg ps kq u,by rw [D2];rfl,ax, ?_⟩⟩
 ·rw [ai ne];exact (F.trans L).kp a o m' e
 ·have e:b7 (kvs++[(k,v)])=bO (b7 kvs) k v:=by unfold b7;rw [HS];rfl
  rw [e];exact ON (gY (RK:=RKey) RKey.inj RKey.fun hq Z Ef) fun _ _ z=>⟨z.1,z.2.mono O⟩
theorem jd {b:BT} {tb:TCd} (mb:b6 tb) {xs:List D} {chk:Mem->Prop} {J:It} {H1:Hp} {M1:Mem} {Nd:NC} {N:St->Hp->Prop} {σ:St} {ρ:ak} {acc:List D} (it:eX K H1 xs chk J) (rs:RS K H1 σ ρ) (rm:RM K M1 H1) (n:M1 p=none)
 (ac:jM K H1 p acc) (q:aY b tb chk Nd xs ρ M1 acc) (hN:∀ ρ' M' acc' σ' H',ExtP p M1 H1 M' H'->RS K H' σ' ρ'->RM K M' H'->M' p=none->jM K H' p acc'->Nd ρ' M' acc'->N σ' H') :
 bc J (lG K b) (lCD K p tb) N σ H1:=by
 obtain ⟨_,Eg,_,O,_⟩:=id ac;refine ⟨fun i m σ H=>m=xs.length - i/\i<=xs.length /\ ∃ ρ M acc,RS K H σ ρ /\ RM K M H/\M p=none/\jM K H p acc/\ExtP p M1 H1 M H/\aY b tb chk Nd (xs.drop i) ρ M acc,⟨xs.length,by simp,GW _, ρ,M1,acc,rs,rm,n,ac,ExtP.refl,q⟩, ?_⟩
 rintro i m σ H ⟨rfl,hi, ρ,M2,acc,rs,j,L,ac,x,q⟩;have st:=x.stabD rm O;obtain ⟨kvs,ps,rfl,hp,ra⟩:=id ac
 by_cases B:i < xs.length
 ·rw [HJ B] at q;obtain ⟨c, ρ',hb,q⟩:=q;obtain ⟨go,yl⟩:=(it M2 H st j c i).2 B;refine .inr ⟨go,fun σ' H' => ∃ m',m' < xs.length - i/\(m'=xs.length - (i+1)/\i+1<=xs.length /\ ∃ ρ M acc,RS K H' σ' ρ /\ RM K M H'/\M p=none/\jM K H' p acc/\ExtP p M1 H1 M H'/\aY b tb chk Nd (xs.drop (i+1)) ρ M acc),fun σ' H' h=>h,fun x' H' y => ?_⟩;obtain ⟨yy,d,hd,rd⟩:=yl x' H' y;rw [r4 B] at hd
  cases hd
  obtain ⟨xy,rmy⟩:=yy.ext j;have sty:=xy.stab j;have F:=xy.keep p _ L hp;refine ⟨_, ρ, ρ',rd,rs.mono sty,hb,fun σ2 U => ?_⟩;refine ⟨ρ',M2,_,U,rmy,L,⟨kvs,ps,rfl,F,ON ra fun _ _ z=>⟨z.1,z.2.mono sty⟩⟩,mb _ _ _ _ _ (fun ρ3 M3 G q3 σ3 H3 x3 Y Z Ef => ?_) q⟩;have n3:M3 p=none:=x3.new p _ L F;exact ⟨xs.length - (i+1),by lia,rfl,B, ρ3,M3,G,Y,Z,n3,Ef,(x.transD hp xy.toP).transD F x3,q3⟩
 ·have e:i=xs.length:=by lia
  subst e;rw [L7] at q;exact .inl ⟨(it M2 H st j q.1 _).1 (Fy _),hN ρ M2 _ σ H x rs j L ac q.2⟩
theorem nX {src:TId} {b:BT} {tb:TCd} (ms:bw src) (mb:b6 tb) (σ:St) (H:Hp) (N:St->Hp->Prop) (h:lCD K p (bv src b tb) σ H N):(lI K src) σ H fun J H1=>bc J (lG K b) (lCD K p tb) N σ H1:=by
 obtain ⟨ρ,M,acc,rs,rm,n,⟨kvs,ps,rfl,G,ra⟩,q⟩:=h;refine ⟨ρ,M,rs,rm,ms _ _ _ _ (fun xs chk M1 L J H1 B F it => ?_) q⟩;have j:=B.keep p _ n G;have O:=B.new p _ n G;have st:=B.stab rm;exact jd mb it (rs.mono st) F O ⟨kvs,ps,rfl,j,ON ra fun _ _ z=>⟨z.1,z.2.mono st⟩⟩ L fun ρ' M' acc' σ' H' x2 rs' rm' _ ac' k=>k σ' H' (B.toP.transD j x2) rs' rm' ac'
theorem rW {fr:List (Option Nat)} {src:TId} {b:BT} {tb:TCd} (ms:bw src) (mb:b6 tb) (σ:St) (H:Hp) (Q:VK) (h:lE K (fN fr src b tb) σ H Q):tT (lI K src) (lG K b) (fun p=>lCD K p tb) fr σ H Q:=by
 obtain ⟨ρ,M,rs,rm,q⟩:=h;refine ⟨ρ,M,rs,rm,ms _ _ _ _ (fun xs chk M1 Z J H1 L B it p n => ?_) q⟩;have st:=L.stab rm;have xn:Ext M1 H1 M1 (upd H1 p (.dK [])):=OS n;have stn:=xn.stab B;have n1:M1 p=none:=B.out n;have it':eX K (upd H1 p (.dK [])) xs chk J:=fun M' H' st'=>it M' H' ⟨fun a xs e=>st'.tup _ _ (stn.tup _ _ e),fun a o u e=>st'.frz _ _ _ (stn.frz _ _ _ e)⟩;have O:=((rs.mono st).mono stn).inh fr;have j:RM K M1 (upd H1 p (.dK [])):=B.new n;have U:upd H1 p (.dK []) p=some (.dK []):=ax;have F:∀ a o,fz (M a)=true->H a=some o->a≠p:=fun a o m e z=>by
  have Y:=L.kp a o m e;subst z;rw [n] at Y;cases Y
 have G:∀ a o,fz (M a)=true->H a=some o->upd H1 p (.dK []) a=some o:=fun a o m e=>by
  rw [ai (F a o m e)];exact L.kp a o m e
 generalize upd H1 p (.dK [])=H1' at it' O j U G;refine jd mb it' O j n1 ⟨[],[],rfl,U, .nil⟩ Z fun ρ' M2 acc' σ' H x rs' rm2 n2 ac' k => ?_;obtain ⟨kvs,ps,rfl,hp,ra⟩:=ac';refine k kvs p rfl n2 (.ref p) H ⟨fun a o m e => ?_,fun a o m e => ?_⟩ (fun a o e => ?_) (OK.mpr rfl)
 ·exact x.kp a o (F a o m e) (by rw [L.nw a o m e];exact m) (G a o m e)
 ·rw [ab (F a o m e)];exact (x.nw a o (by rw [L.nw a o m e];exact m) (G a o m e)).trans (L.nw a o m e)
 ·by_cases z:a=p
  ·subst z;rw [aa] at e;cases e;exact ⟨ps,hp,ra⟩
  ·rw [ab z] at e;exact rm2 a o e
end
end
end Mi
end L2
namespace L2
namespace Dk
open PySem PySem.Spec PyProof.Rows
section
variable {prog:FR} {w:G7} {A:Gg} {E:e7->h8->Prop} {s:h8}
noncomputable def kO (d:Addr) (i n ep:Nat):Obj := { cls := .type "dict_keyiterator",data := .fields #[.ref d, .int i 0, .int n 0, .int ep 0] }
theorem slot_next:Slot "dict_keyiterator" "__next__" "dict_keyiterator.__next__" := .of (owner := "dict_keyiterator") (n := "__next__") (by rw [typeLookup_type,builtinLookup_eq_fast];kernel_rfl) (by decide +kernel) (by decide +kernel) (by decide +kernel) (.inl (by decide +kernel)) (by rw [LZ];kernel_rfl)
theorem je:entryFor table "dict_keyiterator.__next__" = some IA.«dict_keyiterator.__next__» := entryFor_of_tree (by kernel_rfl)
theorem kT (a:e7):argsOk "dict_keyiterator.__next__" ⟨[a],[]⟩:=by unfold argsOk;kernel_rfl
theorem uL {it:Addr} (ty:s.TypeIs (.ref it) "dict_keyiterator") {types:List String} {Q:Bool->h8->Prop} (q:Q (types.any fun t => [GF "dict_keyiterator",GF "object"].contains (GF t)) s):FG (model prog w) A (Ku (.ref it) types) Q E s:=by
 have hm:=Mw;unfold Ku
 wp_walk
 exact q
theorem cW {it d:Addr} {i ep:Nat} {cd:e7} {dd:Option Addr} {sl:Array (Option e7)} {es:Array I0} {e:I0} {Q:Option e7->h8->Prop} (hi:s.heap.get? it=some (kO d i es.size ep)) (hd:s.heap.get? d=some { cls:=cd,dict:=dd,data := .dict es ep,slots:=sl }) (he:es[i]? = some e)
 (q:∀ h',h'.get? it=some (kO d (i+1) es.size ep)->GZ it s.heap h'->Q (some e.key) { s with heap:=h' }):FG (model prog w) A (J8 (.ref it)) Q E s:=by
 have ty:s.TypeIs (.ref it) "dict_keyiterator" := ⟨_,hi,rfl⟩;unfold J8;refine e6 (J0 (Ga (name:=q7 "__next__") ty slot_next (Gq slot_next ty je ?_ (kT _))));unfold IA.«dict_keyiterator.__next__»;have hm:=Mw
 wp_walk
 dsimp only;rw [if_neg (by simp)]
 simp only [Ht,he];refine e6 (H8 (Q:=fun n s'=>n=0/\s'=s) ?_ (fun n s' hs => ?_) fun _ _ z=>z)
 ·wp_walk
  exact ⟨by kernel_rfl,rfl⟩
 obtain ⟨rfl,rfl⟩:=hs;refine e6 (uL ty ?_);refine e6 (Gd hi (by simp) fun h1 j s1 => ?_)
 rw [if_neg (by decide +kernel)] at j
 have j:h1.get? it=some (kO d (i+1) es.size ep):=j;have B:Shared.TypeIs { s' with heap:=h1 } (.ref it) "dict_keyiterator" := ⟨_,j,rfl⟩
 refine e6 (Gz ?_);refine e6 (uL B ?_);refine Ma (by decide +kernel) ?_
 refine hQ (hQ ⟨_,rfl,hQ ?_⟩);exact q h1 j s1
theorem nx_end {it d:Addr} {ep:Nat} {cd:e7} {dd:Option Addr} {sl:Array (Option e7)} {es:Array I0} {Q:Option e7->h8->Prop} (j:A.handled=none) (hi:s.heap.get? it=some (kO d es.size es.size ep)) (hd:s.heap.get? d=some { cls:=cd,dict:=dd,data := .dict es ep,slots:=sl })
 (q:∀ h',(∀ b o,b≠it->s.heap.get? b=some o->h'.get? b=some o)->Q none { s with heap:=h' }):FG (model prog w) A (J8 (.ref it)) Q E s:=by
 have ty:s.TypeIs (.ref it) "dict_keyiterator" := ⟨_,hi,rfl⟩;unfold J8;refine e6 (J0 (Ga (name:=q7 "__next__") ty slot_next (Gq slot_next ty je ?_ (kT _))));unfold IA.«dict_keyiterator.__next__»;have hm:=Mw
 wp_walk
 dsimp only;rw [if_neg (by simp)]
 have he:es[es.size]? = none:=Jx (Fy _);simp only [Ht,he];refine e6 (H8 (Q:=fun n s'=>n=0/\s'=s) ?_ (fun n s' hs => ?_) fun _ _ z=>z)
 ·wp_walk
  exact ⟨by kernel_rfl,rfl⟩
 obtain ⟨rfl,rfl⟩:=hs;refine e6 (Gd hi (by simp) fun h1 F s1 => ?_)
 refine e6 (m:=newExc (.type "StopIteration") []) ?_;simp only [newExc,newTuple];refine e6 (GU ?_ (by size_fits))
 refine e6 (m:=Kq _ _) (Ic (a:=HU) (by first | rfl | (simp only [Kq];rfl)) (GU ?_ (by size_fits)))
 simp only [raiseNew];refine e6 (wpAny_handled ?_)
 first | rw [show A.in1.handled=none from j] | rw [j]
 refine e6 (hQ (wpAny_throw ?_));exact e6 (JH (T := "StopIteration") (b:=true) ⟨_,FF _ rfl,rfl⟩ LQ (hQ (q _ fun b o B e=>h7 _ (h7 _ (s1.extBut b o B e)))))
theorem Ad {d:Addr} {es:Array I0} {ep:Nat} {dd:Option Addr} {sl:Array (Option e7)} {Q:e7->h8->Prop} (j:(d==H4)=false) (hd:s.heap.get? d=some { cls := .type "dict",dict:=dd,data := .dict es ep,slots:=sl })
 (q:Q (.ref s.heap.objs.size) { s with heap:=s.heap.push (kO d 0 es.size ep) }):FG (model prog w) A (KJ (.ref d)) Q E s:=by
 have ty:s.TypeIs (.ref d) "dict" := ⟨_,hd,rfl⟩;refine wpAny_pyIter_slot ty NP (Gq NP ty F.entry_dict_iter ?_ (F.args_dict_iter_1 _));unfold IA.«dict.__iter__»
 wp_walk
 exact ⟨_,rfl, "dict_keyiterator",_,⟨_,FF _ rfl,rfl⟩,slot_next.lookup,q⟩
theorem walk (hn:A.handled=none) (it d:Addr) (hne:d≠it) (es:Array I0) (ep:Nat) :
 Walks prog w A it [it,d] [it] es.size (fun i v => ∃ e,es[i]? = some e/\v=e.key) (fun i h=>h.get? it=some (kO d i es.size ep) /\ ∃ cd dd sl,h.get? d=some { cls:=cd,dict:=dd,data := .dict es ep,slots:=sl }) where
 sub:=fun b hb=>by simp at hb;simp [hb]
 frame:=fun _ _ _ st k=>⟨k it (by simp) _ st.1,by obtain ⟨cd,dd,sl,h⟩:=st.2;exact ⟨cd,dd,sl,k d (by simp) _ h⟩⟩
 item:=fun i s Q E hi st q=>by
  obtain ⟨h1,cd,dd,sl,h2⟩:=st;refine cW (e:=es[i]) h1 h2 (Hj hi) fun h' e' s' => ?_;exact q _ h' s.toks ⟨_,Hj hi,rfl⟩ ⟨e',cd,dd,sl,s'.extBut d _ hne h2⟩ fun b o hb x=>s'.extBut b o (fun z=>hb (by simp [z])) x
 done:=fun s Q E st q=>by
  obtain ⟨h1,cd,dd,sl,h2⟩:=st;exact nx_end hn h1 h2 fun h' k=>q h' s.toks fun b o hb x=>k b o (fun z=>hb (by simp [z])) x
 self:=fun i s Q E st q=>wpAny_pyIter_keyiter ⟨_,st.1,rfl,rfl⟩ q
theorem uM {d:Addr} {Q:Bool->h8->Prop} (ty:s.TypeIs (.ref d) "dict") (q:Q false s):FG (model prog w) A (Ke (.ref d)) Q E s:=by
 unfold Ke;refine e6 (wpAny_specialOf ty F.slot_dict_len.lookup ?_);generalize j:("dict.__len__":String)=z
 (fail_if_success (clear j z));wp_delta
 rw [show splitId z=some ("dict", "__len__") from by subst j;decide +kernel]
 subst j;refine e6 (JH (b:=true) ty (by rw [LZ];kernel_rfl) ?_)
 rw [if_neg (by decide)]
 refine Ma (by decide +kernel) ?_
 refine e6 (Jp ty ?_);exact hQ q
open Builtin.List in
theorem xD (hn:A.handled=none) {S d:Addr} {es:Array I0} {ep c:Nat} {dd:Option Addr} {sl:Array (Option e7)} {R:Nx->h8->Prop} (res:e7) (Z:(d==H4)=false) (hd:s.heap.get? d=some { cls := .type "dict",dict:=dd,data := .dict es ep,slots:=sl }) (Y:s.heap.get? S=some { cls := .type "list",data := .seq #[] c }) (hz:es.size<=D0)
 (q:∀ (h':Heap) (tk:Nat) (acc':Array e7) (c':Nat),(∀ b o,b≠S->s.heap.get? b=some o->h'.get? b=some o)->h'.get? S=some { cls := .type "list",data := .seq acc' c' }->acc'.toList=es.toList.map (·.key)->s.toks<=tk->R (.ok (.ret res)) { s with heap:=h',toks:=tk }) :
 FG (model prog w) A.in1 (listExtendWith (.ref S) (.ref d) res) (fun fin s'=>match fin with | .done f=>R (.ok f) s' | .again c'=>c'.quiet=true/\Iy (model prog w) A c' R s') (fun e s'=>R (.error e) s') s:=by
 have ty:s.TypeIs (.ref d) "dict" := ⟨_,hd,rfl⟩;have G:S≠d:=fun e=>by rw [e,hd] at Y;simp at Y
 have h1:listSameRef (.ref S) (.ref d)=false:=by simp [listSameRef,G]
 unfold listExtendWith;refine e6 (Jp ty ?_);rw [if_neg (by rw [h1];decide)]
 refine e6 (Ad Z hd ?_);refine e6 (Gz (uM (s := { s with heap:=s.heap.push (kO d 0 es.size ep) }) ⟨_,h7 _ hd,rfl⟩ ?_))
 have B:=Fz Y;have J:=Fz hd;have W:=(walk (prog:=prog) (w:=w) (A:=A.in1) hn s.heap.objs.size d (G0 J) es ep).toS;have Ef:S∉[s.heap.objs.size,d]:=fun hm=>by
  simp only [Fx,FW,or_false] at hm
  rcases hm with e | e
  ·exact absurd (e ▸ B) (Gy _)
  ·exact G e
 refine Ma (by decide +kernel) ?_
 refine e6 (H9 ?_);unfold listTouch;have L:(s.heap.push (kO d 0 es.size ep)).get? S=some (NN "list" #[] c):=h7 _ Y;refine e6 (e6 (JO L rfl ?_ (by simp) (by simp)))
 have O:=J6 L (fun x=>x.push HU);refine JO O rfl ?_ (by simp;decide) (by simp)
 have Eg:=J6 O (fun x=>x.pop);have oth:∀ b o,b≠S->s.heap.get? b=some o->(((s.heap.push (kO d 0 es.size ep)).update S (Ik fun x=>x.push HU)).update S (Ik fun x=>x.pop)).get? b=some o:=fun b o U e=>by
  rw [Hg _ _ _ _ U,Hg _ _ _ _ U];exact h7 _ e
 have hit:(((s.heap.push (kO d 0 es.size ep)).update S (Ik fun x=>x.push HU)).update S (Ik fun x=>x.pop)).get? s.heap.objs.size=some (kO d 0 es.size ep):=by
  rw [Hg _ _ _ _ (Ih B),Hg _ _ _ _ (Ih B)];exact FF _ rfl
 refine hQ ⟨plainId_quiet F.plain_extend_loop _,codeAny_extend_loopS W hz _ Ef _ es.size 0 _ _ _ rfl (GW _) ⟨hit,_,_,_,oth d _ G.symm hd⟩ Eg (ItemsOf.nil _) fun s' acc c' hm Eh ha => ?_⟩;rw [hm.eq_with];refine q _ _ acc c' (fun b o U e => ?_) Eh ?_ hm.toks
 ·exact hm.heap b o (fun z=>by
   simp only [Fx,FW,or_false] at z
   rcases z with z | z
   ·exact U z
   ·exact absurd (z ▸ Fz e) (Gy _)) (oth b o U e)
 ·obtain ⟨g1,g2⟩:=ha;apply HR;intro j;rw [GG,FK,GG]
  by_cases hj:j < es.size
  ·obtain ⟨e,he,hv⟩:=g2 j (acc[j]'(by lia)) (Hj (by lia))
   rw [Hj (by lia),hv,he];rfl
  ·rw [Jx (by lia),Jx (by lia)];rfl
theorem collect_dict (J:A.handled=none) {d:Addr} {es:Array I0} {ep:Nat} {dd:Option Addr} {sl:Array (Option e7)} {Q:List e7->h8->Prop} (j:(d==H4)=false) (hd:s.heap.get? d=some { cls := .type "dict",dict:=dd,data := .dict es ep,slots:=sl }) (L:es.size<=D0)
 (q:∀ (h':Heap) (tk:Nat),(∀ b o,s.heap.get? b=some o->h'.get? b=some o)->s.toks<=tk->Q (es.toList.map (·.key)) { s with heap:=h',toks:=tk }):FG (model prog w) A (collect (.ref d)) Q E s:=by
 unfold collect;refine e6 (wpAny_runValue (codeAny_builtin F.entry_proto_collect ?_));unfold IA.«proto.collect»;dsimp only;refine e6 (KO ?_ (by simp))
 refine hQ ⟨Code.quiet_builtin _ (by decide +kernel), ?_⟩
 refine codeAny_builtin entry_list_iadd' ?_;unfold IA.«list.__iadd__»;refine e6 (Ic (a:=(G2 s.heap.objs.size,[G2 d])) (by kernel_rfl) ?_)
 have z:(s.heap.push { cls:=GF "list",data:=JR [].toArray }).get? s.heap.objs.size=some { cls:=GF "list",data:=JR #[] 0 }:=FF _ rfl;rw [Around.under_plain (by rfl) (by rfl)]
 refine H8 (xD (s := { s with heap:=s.heap.push { cls:=GF "list",data:=JR [].toArray } }) (R:=fun r s'=>r = .ok (.ret (.ref s.heap.objs.size))/\FG (model prog w) A (do
  let o <- load s.heap.objs.size
  match o.data with
  | .seq xs _=>pure xs.toList
  | _=>unsupported "internal:collect") Q E s') J (G2 s.heap.objs.size) j (h7 _ hd) z L fun h' tk acc c' kp B O G=>⟨rfl, ?_⟩) (fun fn s' h => ?_) (fun e s' h => ?_)
 ·refine e6 (wpAny_load B ?_);refine hQ ?_;rw [O];exact q h' tk (fun b o e=>kp b o (G0 (Fz e)) (h7 _ e)) G
 ·cases fn with
  | done f =>
    obtain ⟨e,h⟩:=h
    cases e
    exact h
  | again c' =>
    refine ⟨h.1,Ii h.2 fun r s1 hr => ?_⟩;obtain ⟨rfl,hr⟩:=hr;exact hr
 ·cases h.1
end
end Dk
end L2
namespace L2
namespace Mi
open PySem PySem.Spec PyProof.Rows L2.Srt
noncomputable def jf:RAd:=fun ds M Q => ∃ a t kvs sh,ds=[.ref a]/\M a=some (.dct t kvs)/\jK sh=true/\(∀ kv∈kvs,hs sh kv.1=true)/\kvs.length<=63 /\ ∀ p ys,M p=none->ys.Perm (kvs.map (·.1))->jL ys->Q (.ref p) (ad M p (.lst ys))
theorem jg:aR jf:=fun _ _ _ _ h ⟨a,t,kvs,sh,e,j,z,B,F,q⟩=>⟨a,t,kvs,sh,e,j,z,B,F,fun p ys n G hs=>h _ _ (q p ys n G hs)⟩
theorem qj {K:Frag} {H:Hp}:∀ {kvs:List (D×D)} {es:List I0},Gn (nW K H) kvs es -> ∃ vs,RDs K H (kvs.map (·.1)) vs/\Vals vs (es.map (·.key))
 | _,_, .nil=>⟨[],RDs.nil, .nil⟩
 | _,_, .cons r t=>by
   obtain ⟨vs,h1,h2⟩:=qj t;obtain ⟨kV,vV,g1,g2,_,_⟩:=r;exact ⟨kV::vs,RDs.cons g1 h1, .cons g2 h2⟩
section
variable {X:Cx}
theorem nY (L:X.A.units+16 < Ib) (O:X.calm=true):CallR X (.builtin "sorted") (lR X.K jf):=by
 intro pins s σ H xs us Q I r h;obtain ⟨ds,M,rm,rs,a,t,kvs,sh,rfl,e,hok,j,U,q⟩:=h;obtain ⟨v,rfl,rv⟩:=rs.one;obtain ⟨u,rfl,ru⟩:=cq r
 cases OK.mp rv
 cases (show u=G2 a from ru)
 obtain ⟨cd,dd,sl,es,ep,hd,Y,z,hD⟩:=Ab I rm e;obtain ⟨t1,t2,B⟩:=mH I hD;obtain ⟨vs,h1,h2⟩:=qj z;have F:cd = .type "dict" := by
  obtain ⟨o,g1,g2⟩:=t1;rw [hd] at g1;cases g1;exact g2
 subst F;have Z:X.A.in1.handled=none:=I.ok.hd O;exact pF pE L I rm h1 hok (fun d hd=>by
  obtain ⟨kv,G,rfl⟩:=FI.mp hd;exact j kv G) q h2 (by have:=h2.length;rw [gV] at this;simp at this;lia) (by have:=h2.length;rw [gV] at this;have h9:=h1.length;rw [gV] at h9;lia) fun E R hR=>Dk.collect_dict Z B hd Y fun h' tk kp J=>hR h' tk kp J
end
end Mi
end L2
namespace L2
open PySem PySem.Spec PyProof.Rows
section
section
variable {X:Cx} {pins:List (Addr×Obj)} {σ:St} {H:Hp} {s:h8}
theorem Ae {x:V} {u:e7} {t:String} (I:Inv X pins σ H s) (rx:RelV x u) (ty:bN X.K H x (.type t)):∃ P,PySem.W.KitX X.K u (.type t) P/\P s.heap/\u≠Value.builtin "__main__.__loader__#opaque" := by
 generalize j:GF t=T at ty
 cases ty with
 | non=>cases (show u=HU from rx);exact ⟨_,N1,GQ,fun z=>nomatch z⟩
 | bl y=>cases (show u=Ld y from rx);exact ⟨_,N3,GQ,fun z=>nomatch z⟩
 | int i=>obtain ⟨t,rfl⟩:=(show ∃ t,u=KU i t from rx);exact ⟨_,Nv,GQ,fun z=>nomatch z⟩
 | str y=>obtain ⟨t,rfl⟩:=(show ∃ t,u=KW y t from rx);exact ⟨_,Nw,GQ,fun z=>nomatch z⟩
 | flt y=>obtain ⟨t,rfl⟩:=(show ∃ t,u=NV y t from rx);exact ⟨_,MK,GQ,fun z=>nomatch z⟩
 | @lst a xs ea =>
  cases (show u=G2 a from rx)
  obtain ⟨_,_,n,_,h1⟩:=(show ObjOk X.prog X.w H s.heap a (.lst xs) from I.hok a _ ea);exact ⟨_,Jk,⟨_,h1,rfl⟩,fun z=>nomatch z⟩
 | @frz a ob xs ea =>
  cases (show u=G2 a from rx)
  obtain ⟨_,_,_,n,_,h1⟩:=(show ObjOk X.prog X.w H s.heap a (.frz ob (.lst xs)) from I.hok a _ ea);exact ⟨_,Jk,⟨_,h1,rfl⟩,fun z=>nomatch z⟩
 | @tup a xs ea =>
  cases (show u=G2 a from rx)
  obtain ⟨_,_,⟨o,h1,h2,_⟩,_⟩:=I.tuple ea;exact ⟨_,MM,⟨o,h1,h2⟩,fun z=>nomatch z⟩
 | @dK a kvs ea =>
  cases (show u=G2 a from rx)
  obtain ⟨_,_,vs,_,o,es,ep,h1,h2,_⟩:=(show ObjOk X.prog X.w H s.heap a (.dK kvs) from I.hok a _ ea);exact ⟨_,Jl,⟨o,h1,h2.1⟩,fun z=>nomatch z⟩
 | @dT a kvs ea =>
  cases (show u=G2 a from rx)
  obtain ⟨_,_,xs,_,o,es,ep,h1,h2,_⟩:=(show ObjOk X.prog X.w H s.heap a (.dT kvs) from I.hok a _ ea);exact ⟨_,Jl,⟨o,h1,h2.1⟩,fun z=>nomatch z⟩
 | ins=>cases j
end
namespace Mi
section
variable {X:Cx}
theorem Af (K:Frag) {T U:String} (q:T∈["bool", "int", "str", "tuple", "list", "dict"]) (z:U∈["bool", "int", "str", "tuple", "list", "dict"]) {t:String} (j:t∈cb):Mb K (.type t) [.type T, .type U]=some (bP T t || bP U t):=by
 have h1:=jG K T q t j;have h2:=jG K U z t j;unfold Mb;rw [h1]
 cases e1:bP T t with
 | true=>rfl
 | false =>
   dsimp only;unfold Mb;rw [h2]
   cases bP U t <;> rfl
theorem rX {T U:String} (z:T∈["bool", "int", "str", "tuple", "list", "dict"]) (B:U∈["bool", "int", "str", "tuple", "list", "dict"]):CallR X (.builtin "isinstance") (fun vs H Q => ∃ v t p,vs=[v, .ref p]/\H p=some (.tup [.ty T, .ty U])/\bN X.K H v (.type t)/\t∈cb/\Q (.bl (bP T t || bP U t)) H):=by
 intro pins s σ H xs us Q I r h;obtain ⟨v,t,p,rfl,F,ty,G,q⟩:=h;obtain ⟨u,c,rfl,ru,rc⟩:=lH r
 cases (show c=G2 p from rc)
 obtain ⟨P,g1,g2,g3⟩:=Ae I ru ty;obtain ⟨_,its,rv,⟨cls,dd,dat,sl⟩,h1,h2,n,j⟩:=(show ObjOk X.prog X.w H s.heap p (.tup [.ty T, .ty U]) from I.hok p _ F);dsimp only at h2 j;subst h2 j
 cases rv with
 | cons r1 rv =>
 cases rv with
 | cons r2 rv =>
 cases rv
 cases r1
 cases r2
 exact PySem.W.kia_tup g1 I.kIn g2 h1 (Af X.K z B G) g3 fun tk=>⟨.bl _,H,I.tok tk,rfl,q⟩
noncomputable def fO (T U:String) (ta:TEd):TEd:=fun ρ M Q=>ta ρ M fun x M1 => ∃ t,tyN M1 x=some t/\Q (.bl (bP T t || bP U t)) M1
theorem rY {T U:String} {ta:TEd} (h:ae ta):ae (fO T U ta):=fun ρ M Q Q' i q=>h _ _ _ _ (fun x M1 ⟨t,e,j⟩=>⟨t,e,i _ _ j⟩) q
theorem xE {e:Expr} {ta:TEd} {T U:String} {y z:Str} {k:Nat} {p p2 j G pos:Pos} (hT:T∈["bool", "int", "str", "tuple", "list", "dict"]) (hU:U∈["bool", "int", "str", "tuple", "list", "dict"]) (m:ae ta) (he:PE X e (lE X.K ta)) (hg:Gl X "isinstance") (hm:X.mg "isinstance" = none)
 (J:Gl X y) (L:X.mg y=none) (hv:Hy y=some (.type T)) (hn:y ≠ "__name__") (O:(y==("__debug__":Str))=false)
 (Y:Gl X z) (Z:X.mg z=none) (Ef:Hy z=some (.type U)) (Eg:z ≠ "__name__") (B:(z==("__debug__":Str))=false)
 (hs:FP [e, .Tuple [.Name y p2, .Name z j] k G] X.env=(false,eval e X.env)::FP [.Tuple [.Name y p2, .Name z j] k G] X.env) :
 PE X (.Call (.Name "isinstance" p) [e, .Tuple [.Name y p2, .Name z j] k G] [] pos) (lE X.K (fO T U ta)):=by
 have h2:PE X (.Name y p2) (tC (.ty T)):=jy J L hv rfl hn O;have h3:PE X (.Name z j) (tC (.ty U)):=jy Y Z Ef rfl Eg B;have h4:PE X (.Tuple [.Name y p2, .Name z j] k G) _:=tE (cm h2 (cm h3 iB rfl) rfl);refine PE.imp (bf (rX hT hU) hg hm (by decide +kernel) (cm he (cm h4 iB rfl) hs) (by decide) (by decide) hs rfl) fun σ H Q h => ?_
 obtain ⟨ρ,M,rs,rm,q⟩:=h;refine ⟨ρ,M,rs,rm,m _ _ _ _ (fun x M1 ⟨t,e,q1⟩ v H1 x1 rm1 Eh => ?_) q⟩;refine ⟨by simp;decide,fun pp n => ?_⟩
 have st:=(OS (M:=M1) (ho := .tup [.ty T, .ty U]) n).stab rm1;have F:=rm1.new (ho := .tup [.ty T, .ty U]) n;exact ⟨v,t,pp,rfl,ax,yE F (Eh.mono st) e,q0 e,q1 _ _ (x1.trans (OS n)) F (OL.mpr rfl)⟩
end
end Mi
end
end L2
namespace L2
open PySem PySem.Spec PyProof.Rows
namespace Mi
end Mi
end L2
namespace L2
open PySem PySem.Spec PyProof.Rows
namespace Mi
section
variable {X:Cx}
def dI (M:Mem) (a:Addr) (kvs:List (D×D)):Prop:=(M a=some (.dct true kvs)∨M a=some (.fdc kvs)) /\ ∀ kv∈kvs, ∃ i,kv.2 = .int i
theorem dI.at {K:Frag} {M:Mem} {H:Hp} {a:Addr} {kvs:List (D×D)} (rm:RM K M H) (h:dI M a kvs):∃ ps,Rd H a (.dT ps)/\Gn (fun (p:D×D) (q:List Key×V)=>RKeys p.1 q.1/\RD K H p.2 q.2) kvs ps:=by
 rcases h.1 with e | e
 ·obtain ⟨ps,j,pr⟩:=rm a _ e;exact ⟨ps, .inl j,pr⟩
 ·obtain ⟨o,ps,j,pr⟩:=rm a _ e;exact ⟨ps, .inr ⟨o,j⟩,pr⟩
end
section
section
variable {lt:Nat->Nat->Bool} {prog:FR} {w:G7} {A:Gg} {R:Nx->h8->Prop} {I:Addr} {fp wr:List Addr} {n:Nat} {P:Nat->e7->Prop} {St:Nat->Heap->Prop} {h0:Heap} {S:Addr}
def Kpt (wr:List Addr) (S:Addr) (h h':Heap):Prop := ∀ b o,b∉wr->b≠S->h.get? b=some o->h'.get? b=some o
theorem Kpt.trans {wr:List Addr} {S:Addr} {a b c:Heap} (h:Kpt wr S a b) (g:Kpt wr S b c):Kpt wr S a c:=fun x o h1 h2 e=>g x o h1 h2 (h x o h1 h2 e)
end
end
end Mi
end L2
namespace L2
open PySem PySem.Spec PyProof.Rows
namespace Mi
end Mi
end L2
namespace L2
namespace Mi
open PySem PySem.Spec PyProof.Rows
section
section
variable {X:Cx}
noncomputable def xF:R2d
 | .int i,y,M,Q => ∃ ns:List Int,au M y=some (ns.map .int)/\Q (.bl (decide (i∈ns))) M
 | _,_,_,_=>False
theorem xG:aB xF:=by
 intro x y M Q Q' h q
 cases x <;> first
  | exact q.elim
  | (obtain ⟨ns,e,q⟩:=q;exact ⟨ns,e,h _ _ q⟩)
theorem hZ {i:Int}:∀ ns:List Int,inV (.int i) (ns.map V.int)=decide (i∈ns)
 | [] => by simp [inV]
 | n::ns=>by
   have ih:=hZ (i:=i) ns;unfold inV at ih ⊢;rw [FL,Hc,ih];show (n==i || decide (i∈ns))=_
   by_cases h:n=i
   ·subst h;simp
   ·rw [show (n==i)=false by simpa using h]
    simp only [JN,Fx];exact decide_eq_decide.mpr ⟨.inr,fun z=>z.resolve_left fun w=>h w.symm⟩
theorem xH:OpR X (GA .In) (l2 X.K xF):=by
 refine OpR.of tI fun v u H Q h => ?_;obtain ⟨x,y,M,rm,rx,ry,q⟩:=h
 cases x <;> first
  | exact q.elim
  | skip
 case int i =>
  obtain ⟨ns,e,q⟩:=q;obtain ⟨p,vs,rfl,hs,r⟩:=iO rm ry e;have rv:=r.ints_eq;subst rv
  cases OJ.mp rx
  refine ⟨p,_,rfl,hs,rfl, ?_, ?_⟩
  ·simp [cu]
  ·rw [if_neg i4,hZ];exact q _ H Ext.refl rm (OL.mpr rfl)
end
end
section
section
variable {X:Cx}
def DF (M:Mem) (a:Addr) (t:Bool) (kvs:List (D×D)):Prop:=M a=some (.dct t kvs)∨(t=true/\M a=some (.fdc kvs))
noncomputable def rZ (neg:Bool):R2d:=fun k x M Q => ∃ a t kvs,x = .ref a/\DF M a t kvs/\eQ t k=true/\Q (.bl (if neg then !(aI kvs k).isSome else (aI kvs k).isSome)) M
theorem xI {neg:Bool}:aB (rZ neg):=fun _ _ _ _ _ h ⟨a,t,kvs,j,z,B,q⟩=>⟨a,t,kvs,j,z,B,h _ _ q⟩
theorem BZ {K:Frag} {M:Mem} {H:Hp} {a:Addr} {t:Bool} {kvs:List (D×D)} {k:D} {v:V} (rm:RM K M H) (e:DF M a t kvs) (ok:eQ t k=true) (rk:RD K H k v):∃ o,DGet H a v o/\o.isSome=(aI kvs k).isSome:=by
 have:∃ o,DGet H a v o/\(∀ d,aI kvs k=some d -> ∃ w,o=some w/\RD K H d w)/\(aI kvs k=none->o=none):=by
  rcases e with e | ⟨rfl,e⟩
  ·exact pZ rm e ok rk
  ·obtain ⟨ob,ps,j,pr⟩:=rm a _ e;exact mV (.inr ⟨ob,j⟩) pr ok rk
 obtain ⟨o,g,g1,g2⟩:=this;refine ⟨o,g, ?_⟩
 cases h:aI kvs k with
 | none=>rw [g2 h];rfl
 | some d=>obtain ⟨w,rfl,_⟩:=g1 d h;rfl
theorem xJ (j:X.A.units+1 < Ib):OpR X (GA .In) (l2 X.K (rZ false)):=by
 intro pins s σ H y x u v Q I ry rx h;obtain ⟨dk,dx,M,rm,rk,rd,a,t,kvs,rfl,e,ok,q⟩:=h
 cases OK.mp rd
 cases rx
 obtain ⟨o,g,ho⟩:=BZ rm e ok rk;exact E5 j I g ry fun s' I'=>⟨.bl o.isSome,H,I',rfl,by rw [ho];exact q _ H Ext.refl rm (OL.mpr rfl)⟩
noncomputable def nZ:D->List D->Mem->QD->Prop:=fun x ds M Q => ∃ (a:Addr) (xs:List D) (i:Nat) (y:D),x = .ref a/\ds=[.int (i:Nat)]/\M a=some (.lst xs)/\xs[i]? = some y/\i < 2 ^ 62/\Q y (ad M a (.lst (xs.eraseIdx i)))
theorem jh:eW nZ:=fun _ _ _ _ _ h ⟨a,xs,i,y,j,z,B,F,G,q⟩=>⟨a,xs,i,y,j,z,B,F,G,h _ _ q⟩
theorem RDs.eraseIdx {K:Frag} {H:Hp}:∀ {ds:List D} {vs:List V} (i:Nat),RDs K H ds vs->RDs K H (ds.eraseIdx i) (vs.eraseIdx i):=by
 intro ds vs i r;rw [JA,JA];exact (r.take i).append (r.drop (i+1))
theorem Ag {K:Frag} (v:V) (vs:List V) (H:Hp) (Q:VK) (h:lMt K nZ v vs H Q):tK v vs H Q:=by
 obtain ⟨x,ds,M,rm,rx,rs,a,xs,i,y,rfl,rfl,e,j,hi,q⟩:=h
 cases OK.mp rx
 obtain ⟨F,rfl,r1⟩:=rs.one
 cases OJ.mp r1
 obtain ⟨us,z,ru⟩:=rm _ _ e;obtain ⟨w,hw,rw'⟩:=ru.get j;have B:i < us.length:=(FN.mp hw).1;refine ⟨a,us,(i:Nat),i,w,rfl,rfl,z,by lia,by lia, ?_,hw,dY rm e (ru.eraseIdx i) rw' q⟩
 exact (jz (by unfold ixN;rw [if_pos (by lia),if_pos (by lia),Ht])).1
end
end
section
section
variable {X:Cx}
theorem cK {α β:Type} (f : α -> β):∀ (l:List α) (j:Nat),(l.map f).eraseIdx j=(l.eraseIdx j).map f
 | [],_=>by simp
 | _::_,0=>rfl
 | x::l,j+1=>by rw [FL,L8,L8,FL,cK f l j]
noncomputable def qk:V->List V->Hp->VK->Prop:=fun x vs H Q => ∃ (l:Addr) (ns:List Int) (k:Int),x = .ref l/\vs=[.int k]/\H l=some (.lst (ns.map V.int))/\k∈ns/\Q .non (upd H l (.lst ((ns.erase k).map V.int)))
theorem uN (ns:List Int) (k:Int):ns.erase k=ns.eraseIdx (ns.idxOf k):=List.erase_eq_eraseIdx_of_idxOf rfl
theorem uO:MtM X "list.remove" qk:=by
 intro pins s σ H x vs v us Q I rx rv h;obtain ⟨l,ns,k,rfl,rfl,B,J,q⟩:=h
 cases rx
 obtain ⟨u,rfl,ru⟩:=rv.one;obtain ⟨t,rfl⟩:=ru;obtain ⟨z,its,n,r,L,e⟩:=I.lstM B;have hi:=r6 r;have U:=hi.length;have G:ns.idxOf k < ns.length:=List.idxOf_lt_length_iff.mpr J;rw [gV] at L;rw [gV,hH] at z;have mk:=PySem.MeetsSeq.list_remove l its.toArray n (.int k t) (isInt k) (fun y O=>eq_isInt k t hi y (by simpa using O)) (ns.idxOf k) (by rw [D1];omega) (by
  show isInt k its[ns.idxOf k]=true;rw [isInt_at k hi _ (by omega) G,List.getElem_idxOf G];simp) (fun j h1 h2=>by
  show isInt k its[j]=false;rw [isInt_at k hi j (by simpa using h1) (by omega)]
  exact ne_of_lt_idxOf h2 _) (by rw [D1,hH];omega)
 refine IF KQ ⟨_,e,rfl⟩ PySem.F.entry_list_remove (PySem.F.args_list_remove_2 _ _) mk ⟨e, ?_⟩;have re:Vals ((ns.erase k).map V.int) (its.eraseIdx (ns.idxOf k)):=by
  have:=r.eraseIdx (ns.idxOf k);rw [cK] at this;rw [uN];exact this
 refine ⟨.non,_,I.lset (its':=its.eraseIdx (ns.idxOf k)) B e ?_ re ?_,rfl,q⟩
 ·show its.toArray.eraseIdxIfInBounds _=_;rw [Jy]
 ·rw [gV,hH];have:=List.length_erase_le (a:=k) (l:=ns);omega
noncomputable def jN:D->List D->Mem->QD->Prop:=fun x ds M Q => ∃ (a:Addr) (ns:List Int) (k:Int),x = .ref a/\ds=[.int k]/\M a=some (.lst (ns.map .int))/\k∈ns/\Q .non (ad M a (.lst ((ns.erase k).map .int)))
theorem gM:eW jN:=fun _ _ _ _ _ h ⟨a,ns,k,j,z,B,F,q⟩=>⟨a,ns,k,j,z,B,F,h _ _ q⟩
theorem xK {K:Frag} (v:V) (vs:List V) (H:Hp) (Q:VK) (h:lMt K jN v vs H Q):qk v vs H Q:=by
 obtain ⟨x,ds,M,rm,rx,rs,a,ns,k,rfl,rfl,e,j,q⟩:=h
 cases OK.mp rx
 obtain ⟨B,rfl,r1⟩:=rs.one
 cases OJ.mp r1
 obtain ⟨us,z,ru⟩:=rm _ _ e;have rv:=ru.ints_eq;subst rv;exact ⟨a,ns,k,rfl,rfl,z,j,dY rm e (RDs.ints _) (OP.mpr rfl) q⟩
noncomputable def sd:RAd:=fun xs M Q => ∃ (a:Addr) (ns:List Int),xs=[.ref a]/\M a=some (.lst (ns.map .int))/\ns≠[] /\ ∀ i∈ns,(∀ j∈ns,i<=j)->Q (.int i) M
theorem kU:aR sd:=fun _ _ _ _ h ⟨a,ns,e,j,z,q⟩=>⟨a,ns,e,j,z,fun i hi B=>h _ _ (q i hi B)⟩
theorem pG (hc:X.calm=true):CallR X (.builtin "min") (lR X.K sd):=by
 intro pins s σ H xs us Q I r h;obtain ⟨ds,M,rm,rs,a,ns,rfl,ea,L,q⟩:=h;obtain ⟨v,rfl,rv⟩:=rs.one;obtain ⟨u,rfl,ru⟩:=cq r
 cases OK.mp rv
 cases (show u=G2 a from ru)
 obtain ⟨vs,ha,rvs⟩:=rm _ _ ea;have B:=rvs.ints_eq;subst B;obtain ⟨its,r1,p1,hz⟩:=I.list (SqL.of ha);have O:its.length=ns.length:=by have:=r1.length;simp at this;lia
 have U:s.heap.IsList a its.toArray:=p1.isList;have lt:=Fz U.choose_spec.1;have F : 0 < ns.length:=K6.mpr L;have z:∀ (i:Nat) (v:e7),its.toArray[i]? = some v -> ∃ t,v = .int ((ns[i]?).getD 0) t:=fun i v e=>by
  have e':its[i]? = some v:=by simpa using e
  have hi:i < ns.length:=by rw [<- O];exact (FN.mp e').1
  obtain ⟨u,J,e2⟩:=r1.get (i:=i) (x := .int ns[i]) (by rw [FK,r4 hi];rfl)
  rw [e'] at J
  cases J
  obtain ⟨t,Y⟩:=e2;exact ⟨t,by rw [Y,r4 hi];rfl⟩
 have hn:X.A.in1.handled=none:=I.ok.hd hc;refine call_min_walk (Hu U ?_);refine ⟨_,[_,a],[_],_,_,_,_,rfl,Walks.list (A:=X.A.in1) hn _ a (G0 lt) its.toArray,⟨⟨_,FF _ rfl,rfl,rfl⟩,U.push _⟩,fun d hd => ?_,by simpa [O] using F,CmpOf.ints_lt (fun i=>(ns[i]?).getD 0) z,fun v h' tk Z hk => ?_⟩
 ·rw [Gx]
  rcases Fx.mp hd with rfl | hd
  ·exact NL _
  ·rcases Fx.mp hd with rfl | hd
   ·exact KG lt
   ·cases hd
 ·obtain ⟨g1,g2⟩:=argBest_lt (fun i=>(ns[i]?).getD 0) (its.toArray.size - 1);generalize argBest (fun i j=>decide ((fun i=>(ns[i]?).getD 0) i < (fun i=>(ns[i]?).getD 0) j)) (its.toArray.size - 1)=k at Z g1 g2;obtain ⟨t,Y⟩:=z k v Z;have sz:its.toArray.size=ns.length:=by simp [O]
  have G:k < ns.length:=by lia
  have e0:ns[k]? = some ns[k]:=r4 G;refine ⟨.int ns[k],H,I.kept (fun b o e=>hk b o (fun hm => ?_) (h7 _ e)),⟨t,by rw [Y,e0];rfl⟩, ?_⟩
  ·rcases Fx.mp hm with J | hm
   ·exact absurd (J ▸ Fz e) (Gy _)
   ·cases hm
  ·refine q _ (IP G) (fun j hj => ?_) _ H Ext.refl rm (OJ.mpr rfl);obtain ⟨m,hm,rfl⟩:=IT hj;have:=g2 m (by lia)
   simpa [e0,r4 hm] using this
end
end
section
section
variable {X:Cx}
noncomputable def se:R2d:=fun x y M Q => ∃ (a b:Addr) (rs:List (Addr×List D)),x = .ref a/\y = .ref b/\M a=some (.lst [])/\M b=some (.lst (rs.map fun r => .ref r.1))/\(∀ r∈rs,r.1≠a/\M r.1=some (.lst r.2))/\Q (.bl (!(rs.any fun r=>r.2.isEmpty))) M
theorem uP:aB se:=fun _ _ _ _ _ h ⟨a,b,rs,j,z,B,F,G,q⟩=>⟨a,b,rs,j,z,B,F,G,h _ _ q⟩
theorem RDs.refs_eq {K:Frag} {H:Hp}:∀ {ns:List Addr} {vs:List V},RDs K H (ns.map D.ref) vs->vs=ns.map V.ref
 | [],vs,h=>RDs.nil_iff.mp h
 | n::ns,vs,h=>by
   obtain ⟨v,r,rfl,h1,h2⟩:=OM.mp h;rw [OK.mp h1,RDs.refs_eq h2];rfl
theorem kW:∀ {ns:List Addr} {us:List e7},Vals (ns.map V.ref) us->us=ns.map G2
 | [],_, .nil=>rfl
 | n::ns,u::us, .cons r t=>by
   cases (show u=G2 n from r)
   rw [kW t];rfl
noncomputable def emV (M:Mem) (u:e7):Bool:=match u with
 | .ref p=>match M p with
  | some (.lst l)=>l.isEmpty
  | _=>false
 | _=>false
theorem uQ (hu:X.A.units+2 < Ib):OpR X (GA .NotIn) (l2 X.K se):=by
 intro pins s σ H x y v u Q I rx ry h;obtain ⟨x',y',M,rm,rdx,rdy,a,b,rs,rfl,rfl,h1,h2,J,q⟩:=h
 cases OK.mp rdx
 cases OK.mp rdy
 cases (show v=G2 a from rx)
 cases (show u=G2 b from ry)
 obtain ⟨va,L,ra⟩:=rm _ _ h1
 cases RDs.nil_iff.mp ra
 obtain ⟨vb,O,rb⟩:=rm _ _ h2;have U:(rs.map fun r=>D.ref r.1)=(rs.map (·.1)).map D.ref:=by rw [G5];rfl
 rw [U] at rb;have eb:=rb.refs_eq;subst eb;obtain ⟨ia,qa,pa,_⟩:=I.list (SqL.of L)
 cases qa
 obtain ⟨ib,qb,pb,_⟩:=I.list (SqL.of O);have ei:=kW qb;subst ei;have key:∀ r∈rs,emV M (.ref r.1)=r.2.isEmpty:=fun r hr=>by
  unfold emV;dsimp only;rw [(J r hr).2]
 refine MP (emV M) pb.isList (fun w hw => ?_) ⟨.bl _,H,I,rfl, ?_⟩
 ·have B:w∈(rs.map (·.1)).map G2:=by simpa using hw
  rw [G5] at B;obtain ⟨r,hr,rfl⟩:=FI.mp B;obtain ⟨ne,hm⟩:=J r hr;show Oq _ _ (G2 r.1) _ (emV M (.ref r.1));rw [key r hr];obtain ⟨vr,G,rr⟩:=rm _ _ hm;obtain ⟨ir,qr,pr,_⟩:=I.list (SqL.of G);have l1:ir.length=r.2.length:=by have:=qr.length;have:=rr.length;lia
  refine SeqAt.EqAt.of_refs ne ?_;have F:X.A.in1.units < Ib:=by show X.A.units+1 < Ib;lia
  cases hz:r.2 with
  | nil =>
    rw [hz] at l1;have:=SeqAt.RcAt.lists (A:=X.A.in1) (e:=fun _=>true) pr.isList pa.isList (by simp [GK.mp l1]) F (fun j j1 Y=>absurd Y (by simp))
    simpa [GK.mp l1] using this
  | cons z l =>
    rw [hz] at l1;exact SeqAt.RcAt.lists_lengths (A:=X.A.in1) pr.isList pa.isList (by simp [l1]) F
 ·have Z:((rs.map (·.1)).map G2).toArray.any (emV M)=rs.any fun r=>r.2.isEmpty:=by
   rw [List.any_toArray,G5,Jt];rw [Bool.eq_iff_iff,I8,I8];exact ⟨fun ⟨r,hr,h⟩=>⟨r,hr,by rw [<- key r hr];exact h⟩,fun ⟨r,hr,h⟩=>⟨r,hr,by show emV M (.ref r.1)=true;rw [key r hr];exact h⟩⟩
  rw [Z];exact q _ H Ext.refl rm (OL.mpr rfl)
end
end
end Mi
end L2
namespace L2
open PySem PySem.Spec PyProof.Rows
namespace Mi
end Mi
end L2
namespace L2
open PySem PySem.Spec PyProof.Rows
namespace Mi
open L2.Srt
end Mi
end L2
namespace L2
namespace Srt
open PySem PySem.Spec PyProof.Rows
open AutoSeq1 (wpAny_loadPart')
open MeetsSeq MeetsSeq2 MeetsSeq3
end Srt
end L2
namespace L2
namespace Srt
open PySem PySem.Spec PyProof.Rows
end Srt
end L2
namespace L2
namespace Mi
open PySem PySem.Spec PyProof.Rows L2.Srt
end Mi
end L2
namespace L2
open PySem PySem.Spec PyProof.Rows
section
theorem KT.drop {H:Hp} {kvs:List (List Key×V)} {xs:List (List Key×Addr×e7)} (r:KT H kvs xs) (k:List Key):KT H (bK kvs k) (xs.filter fun x=>decide (x.1≠k)):=by
 unfold bK
 induction r with
 | nil=>exact .nil
 | @cons p q ps qs h t ih =>
  obtain ⟨h1,h2,j⟩:=h
  by_cases e:p.1=k
  ·rw [GL (by simp [e]),GL (by simp [h1.symm.trans e])];exact ih
  ·rw [GN (by simp [e]),GN (by simpa using fun z=>e (h1.trans z))];exact .cons ⟨h1,h2,j⟩ ih
namespace Mi
section
variable {K:Frag} {H:Hp} {κ:Type} [DecidableEq κ] {RK:D -> κ -> Prop}
theorem kX (inj:∀ {a b:D} {q : κ},RK a q->RK b q->a=b) (fn:∀ {a:D} {p q : κ},RK a p->RK a q->p=q) {k:D} {q : κ} (j:RK k q) {kvs:List (D×D)} {ps:List (κ × V)} (r:Gn (fun p r=>RK p.1 r.1/\RD K H p.2 r.2) kvs ps) :
 Gn (fun p r=>RK p.1 r.1/\RD K H p.2 r.2) (cN kvs k) (bK ps q):=by
 unfold cN bK
 induction r with
 | nil=>exact .nil
 | @cons p r ps qs h t ih =>
  by_cases e:p.1=k
  ·have e':r.1=q:=by have h1:=h.1;rw [e] at h1;exact fn h1 j
   rw [GL (by simp [e]),GL (by simp [e'])];exact ih
  ·have e' : ¬ r.1=q:=fun z=>e (by have h1:=h.1;rw [z] at h1;exact inj h1 j)
   rw [GN (by simp [e]),GN (by simp [e'])];exact .cons h ih
end
end Mi
end
end L2
namespace L2
open PySem PySem.Spec PyProof.Rows
namespace Mi
section
variable {X:Cx}
noncomputable def sg:R2d
 | .int i,y,M,Q => ∃ ns:List Int,au M y=some (ns.map .int)/\Q (.bl (!decide (i∈ns))) M
 | _,_,_,_=>False
theorem uR:aB sg:=by
 intro x y M Q Q' h q
 cases x <;> first
  | exact q.elim
  | (obtain ⟨ns,e,q⟩:=q;exact ⟨ns,e,h _ _ q⟩)
theorem uS:OpR X (GA .NotIn) (l2 X.K sg):=by
 refine OpR.of mz fun v u H Q h => ?_;obtain ⟨x,y,M,rm,rx,ry,q⟩:=h
 cases x <;> first
  | exact q.elim
  | skip
 case int i =>
  obtain ⟨ns,e,q⟩:=q;obtain ⟨p,vs,rfl,hs,r⟩:=iO rm ry e;have rv:=r.ints_eq;subst rv
  cases OJ.mp rx
  refine ⟨p,_,rfl,hs,rfl, ?_, ?_⟩
  ·simp [cu]
  ·rw [if_pos rfl,hZ];exact q _ H Ext.refl rm (OL.mpr rfl)
noncomputable def lY (to tk:TEd):TEd:=fun ρ M Q=>to ρ M fun x M1 => ∃ a kvs,x = .ref a/\M1 a=some (.dct false kvs)/\tk ρ M1 fun k M2 => ∃ kvs' d,M2 a=some (.dct false kvs')/\cv k=true/\aI kvs' k=some d/\Q d (ad M2 a (.dct false (cN kvs' k)))
theorem uT {to tk:TEd} (h1:ae to) (h2:ae tk):ae (lY to tk):=fun ρ M Q Q' i q=>h1 _ _ _ _ (fun x M1 ⟨a,kvs,e,j,z⟩=>⟨a,kvs,e,j,h2 _ _ _ _ (fun k M2 ⟨kvs',d,B,ok,g,F⟩=>⟨kvs',d,B,ok,g,i _ _ F⟩) z⟩) q
theorem Ah {o e:Expr} {to tk:TEd} {apos cpos:Pos} (mo:ae to) (mk:ae tk) (ho:PE X o (lE X.K to)) (he:PE X e (lE X.K tk)) (m:M1 X o "pop" apos e cpos) :
 PE X (.Call (.Attribute o "pop" apos) [e] [] cpos) (lE X.K (lY to tk)):=by
 refine PE.imp (wy ho he m) fun σ H Q h => ?_;obtain ⟨ρ,M,rs,rm,q⟩:=h;refine ⟨ρ,M,rs,rm,mo _ _ _ _ (fun x M1 ⟨a,kvs,e,Y,Z⟩ v H1 U B rd1 => ?_) q⟩;subst e
 cases OK.mp rd1
 have G:=rs.mono (U.stab rm);refine ⟨a,rfl,BY B Y, ρ,M1,G,B,mk _ _ _ _ (fun k M2 ⟨kvs',d,F,ok,g,q3⟩ v2 H2 x2 j J => ?_) Z⟩;obtain ⟨ps,hp,pr⟩:=j _ _ F;obtain ⟨kq,L⟩:=dS ok;obtain ⟨g1,g2⟩:=dr (RK:=RKey) RKey.inj RKey.fun L pr;obtain ⟨w,gw,rw'⟩:=g1 d g;have st:Stab H2 (upd H2 a (.dK (bK ps kq))):=j.stabPut F;have O:=kX (RK:=RKey) RKey.inj RKey.fun L pr;exact ⟨ps,kq,w,hp,cY L J,gw,q3 _ _ ((U.trans x2).trans (Ext.put F)) (j.put (o := .dct false (cN kvs' k)) F ⟨_,ax,ON O fun _ _ z=>⟨z.1,z.2.mono st⟩⟩) (rw'.mono st)⟩
noncomputable def lZ (to tk:TEd):TSd:=fun D ρ M=>to ρ M fun x M1=>tk ρ M1 fun k M2 => ∃ a kvs,x = .ref a/\M2 a=some (.dct false kvs)/\cv k=true/\(aI kvs k).isSome=true/\D.nx ρ (ad M2 a (.dct false (cN kvs k)))
theorem uU {to tk:TEd} (h1:ae to) (h2:ae tk):aF (lZ to tk):=fun a b ρ M i q=>h1 _ _ _ _ (fun x M1 j=>h2 _ _ _ _ (fun k M2 ⟨a,kvs,e,z,ok,g,B⟩=>⟨a,kvs,e,z,ok,g,i.nx _ _ B⟩) j) q
theorem Ai {o i:Expr} {to tk:TEd} {tpos pos:Pos} (mo:ae to) (mk:ae tk) (ho:PE X o (lE X.K to)) (hi:PE X i (lE X.K tk)):PS X (.Delete [.Subscript o i tpos] pos) (lS X.K (lZ to tk)):=by
 refine PS.imp (zt ho hi) fun D σ H h => ?_;obtain ⟨ρ,M,A,rs,rm,l,q⟩:=h;refine ⟨ρ,M,rs,rm,mo _ _ _ _ (fun x M1 q1 v H1 Y B J => ?_) q⟩;have F:=rs.mono (Y.stab rm);refine ⟨ρ,M1,F,B,mk _ _ _ _ (fun k M2 ⟨a,kvs,e,G,ok,g,q2⟩ v2 H2 Z j L => ?_) q1⟩;subst e
 cases OK.mp J
 obtain ⟨ps,hp,pr⟩:=j _ _ G;obtain ⟨kq,O⟩:=dS ok;obtain ⟨g1,g2⟩:=dr (RK:=RKey) RKey.inj RKey.fun O pr;obtain ⟨d,hd⟩:=Hm.mp g;obtain ⟨w,gw,rw'⟩:=g1 d hd;have st:Stab H2 (upd H2 a (.dK (bK ps kq))):=j.stabPut G;have U:=kX (RK:=RKey) RKey.inj RKey.fun O pr;refine ⟨a,ps,kq,rfl,hp,cY O L,by rw [gw];rfl, ?_⟩
 exact l.nx _ _ _ _ ((Y.trans Z).trans (Ext.put G)) ((F.mono (Z.stab B)).mono st) (j.put (o := .dct false (cN kvs k)) G ⟨_,ax,ON U fun _ _ z=>⟨z.1,z.2.mono st⟩⟩) q2
end
end Mi
end L2
namespace L2
namespace It
open PySem PySem.Spec PyProof.Rows
end It
open PySem PySem.Spec PyProof.Rows
namespace Mi
end Mi
end L2
namespace L2
open PySem PySem.Spec PyProof.Rows
section
section
variable {X:Cx}
noncomputable def Dp:R2:=fun x y H Q => ∃ l b xs zs,x = .ref l/\y = .ref b/\H l=some (.lst xs)/\H b=some (.lst zs)/\xs.length+zs.length<=D0/\Q (.ref l) (upd H l (.lst (xs++zs)))
theorem Dq {M:JP} {A:Gg} {E:e7->h8->Prop} {s:h8} {a b:e7} {Q:e7->h8->Prop} (z:s.TypeIs a "list") (J:s.TypeIs b "list")
 (L:FG M A (call (.builtin "list.__iadd__") [a,b]) Q E s):FG M A (HK .Add a b) Q E s:=by
 unfold HK;refine Gz ?_;have B:Oo (.type "list") (dunderI "add")=pure (some (.builtin "list.__iadd__")):=PySem.F.slot_list_iadd.lookup;have G:isSeqSlot (some (.builtin "list.__iadd__"))=true:=by decide +kernel
 have j:NQ (.type "list") "add" (Operator.Add == .Add)=pure false:=by
  unfold NQ;show (Oo (.type "list") (dunderI "add") >>= fun fi=>pure (fi.isSome && !isSeqSlot fi))=pure false;rw [B,pure_bind,G];rfl
 have q:seqSlot? (.type "list") (dunderI "add")=pure (some (.builtin "list.__iadd__")):=PySem.seqSlot_of B G;refine e6 (Jp z (e6 (Ic j ?_)));show FG M A (if false=true then _ else _) Q E s
 rw [if_neg i4];refine e6 (PySem.wpAny_binaryOp1_none (nm := "add") z J PySem.noFill_list_add ?_);refine e6 (Ic q ?_);exact e6 (H9 L)
theorem Aj:OpR X (HK .Add) Dp:=by
 intro pins s σ H x y v u Q I rx ry h;obtain ⟨l,b,xs,zs,rfl,rfl,G,L,Y,q⟩:=h
 cases rx
 cases ry
 obtain ⟨z,its,n,r,Z,e⟩:=I.lstM G;obtain ⟨z2,j,O,r2,U,J⟩:=I.lstM L;have hsz:its.toArray.size+j.toArray.size<=D0:=by rw [D1,D1];lia
 have B : ¬ (!its.toArray.isEmpty&&Hn (its.toArray.size+j.toArray.size))=true:=by
  rw [gP hsz,Bool.and_false];exact i4
 refine Dq ⟨_,e,rfl⟩ ⟨_,J,rfl⟩ (IF PySem.F.slot_list_iadd ⟨_,e,rfl⟩ PySem.F.entry_list_iadd (PySem.F.args_list_iadd_2 _ _)
  (AutoSeq1.list___iadd___list_list_0 l its.toArray n b j.toArray O B (by rw [D1];lia) (by lia)) ⟨e,J, ?_⟩)
 refine ⟨.ref l,_,I.lset (its':=its++j) G e (by simp) (r.append r2) ?_,rfl,q⟩
 rw [i5];lia
end
namespace Mi
section
variable {X:Cx}
noncomputable def m9:R2d:=fun x y M Q => ∃ a b xs ys,x = .ref a/\y = .ref b/\M a=some (.lst xs)/\M b=some (.lst ys)/\xs.length+ys.length<=D0/\Q (.ref a) (ad M a (.lst (xs++ys)))
theorem kY:aB m9:=fun _ _ _ _ _ h ⟨a,b,xs,y,j,B,F,G,z,q⟩=>⟨a,b,xs,y,j,B,F,G,z,h _ _ q⟩
theorem uV:OpR X (HK .Add) (l2 X.K m9):=by
 refine OpR.of Aj fun v u H Q h => ?_;obtain ⟨x,y,M,rm,rx,ry,a,b,xs,ys,rfl,rfl,j,B,z,q⟩:=h
 cases OK.mp rx
 cases OK.mp ry
 obtain ⟨us,F,ru⟩:=rm _ _ j;obtain ⟨ws,G,rw'⟩:=rm _ _ B;exact ⟨a,b,us,ws,rfl,rfl,F,G,by rw [ru.length,rw'.length];exact z,dY rm j (ru.append rw') (OK.mpr rfl) q⟩
end
end Mi
end
end L2
namespace L2
open PySem PySem.Spec PyProof.Rows
namespace Mi
open L2.Srt
end Mi
end L2
namespace L2
open PySem PySem.Spec PyProof.Rows
end L2
namespace L2
namespace Mi
open PySem PySem.Spec PyProof.Rows
end Mi
end L2
namespace L2
open PySem PySem.Spec PyProof.Rows
namespace Mi
end Mi
end L2
namespace L2
namespace Mi
open PySem PySem.Spec PyProof.Rows
section
mutual
noncomputable def GV (K:Frag):D->e7->Prop
 | .int i,v => ∃ t,v = .int i t
 | .str x,v => ∃ t,v = .str x t
 | .tup ds,v => ∃ a o its n,v = .ref a/\K.lookup a=some o/\o.cls = .type "tuple" /\ o.data = .seq its n/\its.size<=D0/\fk ds=false/\GVs K ds its.toList
 | _,_=>False
noncomputable def GVs (K:Frag):List D->List e7->Prop
 | [],us=>us=[]
 | d::ds,us => ∃ u r,us=u::r/\GV K d u/\GVs K ds r
end
theorem GV.ints {K:Frag} {i:Int} {t}:GV K (.int i) (.int i t):=by unfold GV;exact ⟨t,rfl⟩
theorem GV.tups {K:Frag} {ds:List D} {a:Addr} {od sl} {its:Array e7} {n:Nat} (h:K.lookup a=some ⟨.type "tuple",od, .seq its n,sl⟩) (j:its.size<=1000) (f:fk ds=false) (r:GVs K ds its.toList):GV K (.tup ds) (.ref a):=by
 unfold GV;exact ⟨a,_,its,n,rfl,h,rfl,rfl,by rw [hH];lia,f,r⟩
theorem GVs.nil {K:Frag}:GVs K [] []:=by unfold GVs;rfl
theorem GVs.cons {K:Frag} {d:D} {ds:List D} {u:e7} {us:List e7} (h:GV K d u) (r:GVs K ds us):GVs K (d::ds) (u::us):=by unfold GVs;exact ⟨u,us,rfl,h,r⟩
end
section
noncomputable def kd1:Int ⊕ List Int->D
 | .inl i => .int i
 | .inr ks => .tup (ks.map .int)
noncomputable def kdN (k:NK):D := .tup (k.map kd1)
noncomputable def Ea:Int ⊕ List Int->Bool
 | .inl _=>true
 | .inr ks=>fk (ks.map .int)
noncomputable def okK (k:NK):Bool:=fk (k.map kd1)&&k.all Ea
noncomputable def ng (kvs:List (NK×D)) (k:NK):Option D:=(kvs.find? fun p=>decide (p.1=k)).map (·.2)
noncomputable def np (kvs:List (NK×D)) (k:NK) (v:D):List (NK×D):=if (ng kvs k).isSome then kvs.map (fun p=>if p.1=k then (p.1,v) else p) else kvs++[(k,v)]
noncomputable def uW:TEd:=fun _ M Q => ∀ p,M p=none->Q (.ref p) (ad M p (.dcn []))
def Dr (o i v:D) (M:Mem) (Q:Mem->Prop):Prop := ∃ a kvs k,o = .ref a/\M a=some (.dcn kvs)/\i=kdN k/\okK k=true/\kvs.length < D0/\Q (ad M a (.dcn (np kvs k v)))
noncomputable def yJ (te to ti:TEd):TSd:=fun D ρ M=>te ρ M fun v M1=>to ρ M1 fun o M2=>ti ρ M2 fun i M3=>Dr o i v M3 fun M'=>D.nx ρ M'
end
section
section
variable {X:Cx}
noncomputable def yK (ta:TEd):TEd:=fun ρ M Q=>ta ρ M fun x M1 => ∃ (a:Addr) (nss:List (List Int)),x = .ref a/\M1 a=some (.lst (nss.map fun ns => .tup (ns.map .int)))/\(nss=[]->Q .non M1) /\ ∀ ns∈nss,(∀ ms∈nss,HT.lexLt ms ns=false)->Q (.tup (ns.map .int)) M1
noncomputable def yL (to ti:TEd):TSd:=fun D ρ M=>to ρ M fun x M1=>ti ρ M1 fun i M2 => ∃ (a:Addr) (ds:List _) (n:Nat),x = .ref a/\M2 a=some (.lst ds)/\i = .int (n:Nat)/\n < ds.length/\n < 2 ^ 62/\D.nx ρ (ad M2 a (.lst (ds.eraseIdx n)))
end
end
end Mi
end L2
namespace L2
open PySem PySem.Spec PyProof.Rows
namespace Mi
section
variable {K:Frag} {M:Mem} {H:Hp}
noncomputable def kvN (kv:NK×D):D := .tup [kdN kv.1,kv.2]
noncomputable def yM (to tk tx:TEd):TEd:=fun ρ M Q=>to ρ M fun x M1 => ∃ a kvs,x = .ref a/\M1 a=some (.dcn kvs)/\tk ρ M1 fun k M2=>tx ρ M2 fun z M3 => ∃ kvs' q,M3 a=some (.dcn kvs')/\k=kdN q/\okK q=true/\kvs'.length < D0 /\
 (∀ d,ng kvs' q=some d->Q d M3)/\(ng kvs' q=none->Q z (ad M3 a (.dcn (np kvs' q z))))
noncomputable def ql (ta:TEd):TId:=fun ρ M R=>ta ρ M fun x M1 => ∃ a kvs,x = .ref a/\M1 a=some (.fdn kvs)/\R (kvs.map kvN) (fun _=>True) M1
end
section
inductive BOp where | add | sub | mul | fdiv | mod | pow | ext
inductive COp where | eq | ne | lt | gt | ge | is | inS | inD | ninS | ninE
inductive BF where | len | abs | max2 | min2 | int | list | tuple | all | any | sorts | min1
inductive MF where | append | extend | pop | remove
inductive MF0 where | clear
mutual
inductive MG where
 | name (i:Nat)
 | tup (gs:MGs)
inductive MGs where
 | nil
 | cons (g:MG) (r:MGs)
end
mutual
inductive ME where
 | var (i:Nat)
 | int (i:Int)
 | bl (b:Bool)
 | non
 | str (x:Str)
 | bin (op:BOp) (a b:ME)
 | neg (a:ME)
 | cmp (op:COp) (a b:ME)
 | and (es:MEs)
 | or (es:MEs)
 | not (a:ME)
 | ite (c:MT) (a b:ME)
 | tup (es:MEs)
 | lst (es:MEs)
 | ix (a b:ME)
 | sl (a:ME) (lo hi:MO)
 | call (f:Nat) (es:MEs)
 | blt (f:BF) (es:MEs)
 | isin (a:ME) (T:String)
 | isin2 (a:ME) (T U:String)
 | lrng (a:ME)
 | dnew (t:Bool)
 | popk (o k:ME)
 | meth (m:MF) (o a:ME)
 | comp (fr:List (Option Nat)) (N:List Str) (c:MC)
 | dcomp2 (fr:List (Option Nat)) (N:List Str) (src:MI) (g:MG) (src2:MI) (g2:MG) (k v:ME)
inductive MEs where
 | nil
 | cons (e:ME) (r:MEs)
inductive MO where
 | none
 | some (e:ME)
inductive MT where
 | tru (e:ME)
 | cmp (op:COp) (a b:ME)
 | and (ts:MTs)
 | or (ts:MTs)
 | not (t:MT)
inductive MTs where
 | nil
 | cons (t:MT) (r:MTs)
inductive MI where
 | seq (e:ME)
 | rng1 (a:ME)
 | zip (a b:ME)
 | enum (a:ME)
inductive MC where
 | last (src:MI) (g:MG) (ifs:MTs) (elt:ME)
 | more (src:MI) (g:MG) (ifs:MTs) (rest:MC)
end
mutual
inductive MS where
 | asg (g:MG) (e:ME)
 | par3 (i j l:Nat) (a b c:ME)
 | put (o i e:ME)
 | aug (i:Nat) (op:BOp) (e:ME)
 | drop (e:ME)
 | ret (e:ME)
 | ite (c:MT) (a b:MSs)
 | for (g:MG) (src:MI) (b:MSs)
 | while (c:MT) (b:MSs)
 | delk (o k:ME)
 | pass | brk | cnt
inductive MSs where
 | nil
 | cons (s:MS) (r:MSs)
end
noncomputable def opB:BOp->R2d
 | .add=>eT | .sub=>rp | .mul=>jF | .fdiv=>lN | .mod=>rq | .pow=>rz | .ext=>eT
noncomputable def opC:COp->R2d
 | .eq=>wEq | .ne=>wNe | .lt=>wLt| .gt=>wGt | .ge=>wGe | .is=>wIs| .inS=>xF | .inD=>rZ false| .ninS=>sg| .ninE=>se
noncomputable def opF:BF->RAd
 | .len=>eU| .min1=>sd | .abs=>mX | .max2=>lP | .min2=>lQ | .int=>mY | .list=>rF | .tuple=>n9| .all=>rN | .any=>xz| .sorts=>jf
noncomputable def opM:MF->D->List D->Mem->QD->Prop
 | .append=>jH | .extend=>jI | .pop=>nZ| .remove=>jN
noncomputable def C0:MF0->D->List D->Mem->QD->Prop
 | .clear=>BL
noncomputable def opI:BOp->R2d
 | .add=>lV | .sub=>lW | .mul=>lX | .ext=>m9 | _=>fun _ _ _ _=>False
theorem oa:∀ o,aB (opB o)
 | .add=>mP | .sub=>wK | .mul=>wL | .fdiv=>u6 | .mod=>wM | .pow=>wN | .ext=>mP
theorem eZ:∀ o,aB (opC o)
 | .eq=>zD | .ne=>zE | .lt=>zH| .gt=>zI | .ge=>zJ | .is=>A1| .inS=>xG | .inD=>xI| .ninS=>uR| .ninE=>uP
theorem xL:∀ o,aR (opF o)
 | .len=>mW| .min1=>kU | .abs=>mZ | .max2=>kC | .min2=>kD | .int=>n6 | .list=>kE | .tuple=>iP| .all=>nJ | .any=>nK| .sorts=>jg
theorem xM:∀ o,eW (opM o)
 | .append=>gJ | .extend=>gK | .pop=>jh| .remove=>gM
theorem xN:∀ o,aB (opI o)
 | .add=>kK | .sub=>kL | .mul=>kM | .ext=>kY
 | .fdiv=>fun _ _ _ _ _ _ q=>q.elim | .mod=>fun _ _ _ _ _ _ q=>q.elim | .pow=>fun _ _ _ _ _ _ q=>q.elim
noncomputable abbrev Phi:=Nat->RAd
mutual
noncomputable def bG:MG->BT
 | .name i=>bT i
 | .tup gs=>rH (bGs gs)
noncomputable def bGs:MGs->BTs
 | .nil=>gW
 | .cons g r=>bM (bG g) (bGs r)
end
mutual
noncomputable def wE (Φ:Phi):ME->TEd
 | .var i=>dN i
 | .int i=>wC (.int i)
 | .bl b=>wC (.bl b)
 | .non=>wC .non
 | .str x=>wC (.str x)
 | .bin op a b=>wOp (opB op) (wE Φ a) (wE Φ b)
 | .neg a=>wUn rB (wE Φ a)
 | .cmp op a b=>wOp (opC op) (wE Φ a) (wE Φ b)
 | .and es=>wAnds Φ es
 | .or es=>wOrs Φ es
 | .not a=>iT (wE Φ a)
 | .ite c a b=>wIf (wT Φ c) (wE Φ a) (wE Φ b)
 | .tup es=>wAr mM (wA Φ es)
 | .lst es=>wAr jD (wA Φ es)
 | .ix a b=>wOp wIx (wE Φ a) (wE Φ b)
 | .sl a lo hi=>wSl (wE Φ a) (wO Φ lo) (wO Φ hi)
 | .call f es=>wAr (Φ f) (wA Φ es)
 | .blt f es=>wAr (opF f) (wA Φ es)
 | .isin a T=>iV T (wE Φ a)
 | .isin2 a T U=>fO T U (wE Φ a)
 | .lrng a=>iN (wE Φ a)
 | .dnew t=>j7 t
 | .popk o k=>lY (wE Φ o) (wE Φ k)
 | .meth m o a=>wBM (opM m) (wE Φ o) (b5 (wE Φ a) bW)
 | .comp fr _ c=>wCmp Φ fr c
 | .dcomp2 fr _ src g src2 g2 k v=>fN fr (wI Φ src) (bG g) (bv (wI Φ src2) (bG g2) (dv (wE Φ k) (wE Φ v)))
noncomputable def wA (Φ:Phi):MEs->TAd
 | .nil=>bW
 | .cons e r=>b5 (wE Φ e) (wA Φ r)
noncomputable def wAnds (Φ:Phi):MEs->TEd
 | .nil=>fun _ _ _=>False
 | .cons e .nil=>wE Φ e
 | .cons e (.cons f r)=>iS (wE Φ e) (wAnds Φ (.cons f r))
noncomputable def wOrs (Φ:Phi):MEs->TEd
 | .nil=>fun _ _ _=>False
 | .cons e .nil=>wE Φ e
 | .cons e (.cons f r)=>no (wE Φ e) (wOrs Φ (.cons f r))
noncomputable def wO (Φ:Phi):MO->TOd
 | .none=>dX
 | .some e=>iU (wE Φ e)
noncomputable def wT (Φ:Phi):MT->TTd
 | .tru e=>ni (wE Φ e)
 | .cmp op a b=>eS (wOp (opC op) (wE Φ a) (wE Φ b))
 | .and ts=>wAndTs Φ ts
 | .or ts=>wOrTs Φ ts
 | .not t=>iQ (wT Φ t)
noncomputable def wAndTs (Φ:Phi):MTs->TTd
 | .nil=>fun _ _ _=>False
 | .cons e .nil=>wT Φ e
 | .cons e (.cons f r)=>iR (wT Φ e) (wAndTs Φ (.cons f r))
noncomputable def wOrTs (Φ:Phi):MTs->TTd
 | .nil=>fun _ _ _=>False
 | .cons e .nil=>wT Φ e
 | .cons e (.cons f r)=>nj (wT Φ e) (wOrTs Φ (.cons f r))
noncomputable def wTl (Φ:Phi):MTs->List TTd
 | .nil => []
 | .cons t r=>wT Φ t::wTl Φ r
noncomputable def wI (Φ:Phi):MI->TId
 | .seq e=>ny (wE Φ e)
 | .rng1 a=>iW (b5 (wE Φ a) bW)
 | .zip a b=>nA (wE Φ a) (wE Φ b)
 | .enum a=>iX (wE Φ a)
noncomputable def wCl (Φ:Phi):MC->TCd
 | .last src g ifs elt=>bv (wI Φ src) (bG g) (bd (wTl Φ ifs) (dE (wE Φ elt)))
 | .more src g ifs rest=>bv (wI Φ src) (bG g) (bd (wTl Φ ifs) (wCl Φ rest))
noncomputable def wCmp (Φ:Phi) (fr:List (Option Nat)):MC->TEd
 | .last src g ifs elt=>gj fr (wI Φ src) (bG g) (bd (wTl Φ ifs) (dE (wE Φ elt)))
 | .more src g ifs rest=>gj fr (wI Φ src) (bG g) (bd (wTl Φ ifs) (wCl Φ rest))
end
mutual
noncomputable def wS (Φ:Phi):MS->TSd
 | .asg g e=>gX (wE Φ e) (bG g)
 | .par3 i j l a b c=>nF (b5 (wE Φ a) (b5 (wE Φ b) (b5 (wE Φ c) bW))) (bM (bT i) (bM (bT j) (bM (bT l) gW)))
 | .put o i e=>nH (wE Φ e) (wE Φ o) (wE Φ i)
 | .aug i op e=>nI i (opI op) (wE Φ e)
 | .drop e=>j5 (wE Φ e)
 | .ret e=>nE (wE Φ e)
 | .ite c a b=>sIf (wT Φ c) (wSs Φ a) (wSs Φ b)
 | .for g src b=>nG (wI Φ src) (bG g) (wSs Φ b)
 | .while c b=>fJ (wT Φ c) (wSs Φ b)
 | .delk o k=>lZ (wE Φ o) (wE Φ k)
 | .pass=>gk
 | .brk=>fI
 | .cnt=>iZ
noncomputable def wSs (Φ:Phi):MSs->TSd
 | .nil=>gk
 | .cons s r=>nD (wS Φ s) (wSs Φ r)
end
section
variable {Φ:Phi} (hΦ:∀ f,aR (Φ f))
include hΦ
mutual
theorem mE:∀ m,ae (wE Φ m)
 | .var _=>wF
 | .int _=>iM
 | .bl _=>iM
 | .non=>iM
 | .str _=>iM
 | .bin op a b=>dU (oa op) (mE a) (mE b)
 | .neg a=>zy mR (mE a)
 | .cmp op a b=>dU (eZ op) (mE a) (mE b)
 | .and es=>mAnds es
 | .or es=>mOrs es
 | .not a=>ub (mE a)
 | .ite c a b=>zP (mT c) (mE a) (mE b)
 | .tup es=>gd tX (mA es)
 | .lst es=>gd tY (mA es)
 | .ix a b=>dU pY (mE a) (mE b)
 | .sl a lo hi=>zS (mE a) (mO lo) (mO hi)
 | .call f es=>gd (hΦ f) (mA es)
 | .blt f es=>gd (xL f) (mA es)
 | .isin a T=>ue (mE a)
 | .isin2 a T U=>rY (mE a)
 | .lrng a=>tZ (mE a)
 | .dnew _=>uA
 | .popk o k=>uT (mE o) (mE k)
 | .meth m o a=>zU (xM m) (mE o) (am (mE a) az)
 | .comp fr _ c=>mCmp fr c
 | .dcomp2 fr _ src g j g2 k v=>rT (mI src) (cw (mI j) (jc (mE k) (mE v)))
theorem mA:∀ m,b4 (wA Φ m)
 | .nil=>az
 | .cons e r=>am (mE e) (mA r)
theorem mAnds:∀ m,ae (wAnds Φ m)
 | .nil=>fun _ _ _ _ _ q=>q.elim
 | .cons e .nil=>mE e
 | .cons e (.cons f r)=>ua (mE e) (mAnds (.cons f r))
theorem mOrs:∀ m,ae (wOrs Φ m)
 | .nil=>fun _ _ _ _ _ q=>q.elim
 | .cons e .nil=>mE e
 | .cons e (.cons f r)=>xb (mE e) (mOrs (.cons f r))
theorem mO:∀ m,eV (wO Φ m)
 | .none=>pv
 | .some e=>ud (mE e)
theorem mT:∀ m,aE (wT Φ m)
 | .tru e=>wZ (mE e)
 | .cmp op a b=>wG (dU (eZ op) (mE a) (mE b))
 | .and ts=>mAndTs ts
 | .or ts=>mOrTs ts
 | .not t=>u8 (mT t)
theorem mAndTs:∀ m,aE (wAndTs Φ m)
 | .nil=>fun _ _ _ _ _ q=>q.elim
 | .cons e .nil=>mT e
 | .cons e (.cons f r)=>u9 (mT e) (mAndTs (.cons f r))
theorem mOrTs:∀ m,aE (wOrTs Φ m)
 | .nil=>fun _ _ _ _ _ q=>q.elim
 | .cons e .nil=>mT e
 | .cons e (.cons f r)=>xa (mT e) (mOrTs (.cons f r))
theorem mTl:∀ m, ∀ t∈wTl Φ m,aE t
 | .nil=>by rw [wTl];intro t j;simp at j
 | .cons t r=>by
  rw [wTl];intro t' j
  rcases Fx.mp j with e | e
  ·rw [e];exact mT t
  ·exact mTl r t' e
theorem mI:∀ m,bw (wI Φ m)
 | .seq e=>xh (mE e)
 | .rng1 a=>uh (am (mE a) az)
 | .zip a b=>xi (mE a) (mE b)
 | .enum a=>ui (mE a)
theorem mCl:∀ m,b6 (wCl Φ m)
 | .last src g ifs elt=>cw (mI src) (aK (bm (mE elt)) (mTl ifs))
 | .more src g ifs rest=>cw (mI src) (aK (mCl rest) (mTl ifs))
theorem mCmp (fr:List (Option Nat)):∀ m,ae (wCmp Φ fr m)
 | .last src g ifs elt=>kF (mI src) (aK (bm (mE elt)) (mTl ifs))
 | .more src g ifs rest=>kF (mI src) (aK (mCl rest) (mTl ifs))
end
mutual
theorem mS:∀ m,aF (wS Φ m)
 | .asg g e=>xl (mE hΦ e)
 | .par3 i j l a b c=>xm (am (mE hΦ a) (am (mE hΦ b) (am (mE hΦ c) az)))
 | .put o i e=>xu (mE hΦ e) (mE hΦ o) (mE hΦ i)
 | .aug i op e=>xx (xN op) (mE hΦ e)
 | .drop e=>um (mE hΦ e)
 | .ret e=>xj (mE hΦ e)
 | .ite c a b=>xk (mT hΦ c) (mSs a) (mSs b)
 | .for g src b=>xo (mI hΦ src) (mSs b)
 | .while c b=>rK (mT hΦ c) (mSs b)
 | .delk o k=>uU (mE hΦ o) (mE hΦ k)
 | .pass=>kH
 | .brk=>rJ
 | .cnt=>uj
theorem mSs:∀ m,aF (wSs Φ m)
 | .nil=>kH
 | .cons s r=>uk (mS s) (mSs r)
end
end
end
section
structure Ctx where
 Γ:List Str
 N:List Str
 sc:Scope
 fn:List Str
 cs:List (Str×D)
noncomputable def glB (sc:Scope) (x:Str):Bool:=sc.names.lookup x==some .globalImplicit
noncomputable def xO (sc:Scope) (x:Str):Bool:=sc.names.lookup x==some .local || sc.names.lookup x==some .cell || sc.names.lookup x==some .free
noncomputable def si (sc:Scope) (x:Str):Bool:=sc.names.lookup x==some .local || sc.names.lookup x==some .cell
noncomputable def aM:Expr->Bool
 | .Starred .. => false
 | _=>true
noncomputable def og:Expr->Bool
 | .Name .. | .Call .. | .Subscript .. | .Constant .. | .BinOp .. | .Attribute .. => true
 | _=>false
noncomputable def e8:Expr->Bool
 | .Slice .. => false
 | _=>true
noncomputable def fP:Expr->Bool
 | .ListComp .. | .SetComp .. | .DictComp .. => false
 | _=>true
noncomputable def md:Expr->Bool
 | .Set .. => false
 | _=>true
noncomputable def gu:Expr->Bool
 | .Call _ (_::_) _ _=>true
 | .Call .. => false
 | _=>true
noncomputable def opO:BOp->Ji
 | .add => .Add | .sub => .Sub | .mul => .Mult | .fdiv => .FloorDiv | .mod => .Mod | .pow => .Pow | .ext => .Add
noncomputable def xP:COp->CmpOp
 | .eq => .Eq | .ne => .NotEq | .lt => .Lt| .gt => .Gt | .ge => .GtE | .is => .Is| .inS => .In | .inD => .In| .ninS => .NotIn| .ninE => .NotIn
noncomputable def oh:BF->Str
 | .len => "len"| .min1 => "min" | .abs => "abs" | .max2 => "max" | .min2 => "min" | .int => "int" | .list => "list" | .tuple => "tuple"| .all => "all" | .any => "any"| .sorts => "sorted"
noncomputable def C1:MF->Str
 | .append => "append" | .extend => "extend" | .pop => "pop"| .remove => "remove"
noncomputable def bltNames:List Str := ["len", "abs", "max", "min", "int", "list", "tuple", "sum", "isinstance", "range", "bool", "str", "dict", "zip", "enumerate", "reversed", "sorted", "all", "any", "set"]
noncomputable def bC (sc osc:Scope):Scope :=
 { sc with names:=sc.names.map fun (n,k)=>if (k == .free&&osc.kind == .function&&osc.names.lookup n==some .cell) then (n, .cell) else (n,k) }
theorem pI (sc:Scope) (env:Env):relabel sc env=bC sc env.scope:=rfl
noncomputable def sj (sc osc:Scope) (oN N':List Str) (fr:List (Option Nat)):Bool :=
 decide (sc.kind = .function)&&decide ((sc.names.map (·.1)).Nodup)&&decide (N'.Nodup)
  && sc.names.all (fun x => !(x.2 == .free) || osc.names.lookup x.1==some .cell || osc.names.lookup x.1==some .free)
  && decide (fr.length=N'.length)
  && (Gc N'.length).all fun i=>match fr[i]?,N'[i]? with
   | some (some j),some x=>decide (oN[j]? = some x)&&sc.names.any (fun y=>decide (y=(x,FZ)))
   | _,_=>true
theorem pk {p:Prop} [d:Decidable p] {t:p->Bool} (h:dite p t (fun _=>false)=true):∃ c,t c=true:=by
 cases d with
 | isTrue c=>exact ⟨c,h⟩
 | isFalse c=>cases h
noncomputable def ci (e:Expr) (f:Str->Pos->Bool):Bool:=if h:e.ctorIdx=23 then @OD.elim (fun _=>Bool) e h f else false
@[elab_as_elim]
theorem cy {P:Expr->Prop} (e:Expr) {f:Str->Pos->Bool} (h:ci e f=true) (k:∀ a b,f a b=true->P (.Name a b)):P e :=
 (pk h).elim fun c => @OD.elim (fun e => ∀ c, @OD.elim (fun _=>Bool) e c f=true->P e) e c (fun a b _ h=>k a b h) c
noncomputable def cD (e:Expr) (f:Const->Nat->Pos->Bool):Bool:=if h:e.ctorIdx=19 then @Mx.elim (fun _=>Bool) e h f else false
@[elab_as_elim]
theorem dJ {P:Expr->Prop} (e:Expr) {f:Const->Nat->Pos->Bool} (h:cD e f=true) (k:∀ a b c,f a b c=true->P (.Constant a b c)):P e :=
 (pk h).elim fun c => @Mx.elim (fun e => ∀ c, @Mx.elim (fun _=>Bool) e c f=true->P e) e c (fun a b c _ h=>k a b c h) c
noncomputable def uX (e:Expr) (f:Expr->Ji->Expr->Pos->Bool):Bool:=if h:e.ctorIdx=2 then @Ox.elim (fun _=>Bool) e h f else false
@[elab_as_elim]
theorem C2 {P:Expr->Prop} (e:Expr) {f:Expr->Ji->Expr->Pos->Bool} (h:uX e f=true) (k:∀ a b c d,f a b c d=true->P (.BinOp a b c d)):P e :=
 (pk h).elim fun c => @Ox.elim (fun e => ∀ c, @Ox.elim (fun _=>Bool) e c f=true->P e) e c (fun a b c d _ h=>k a b c d h) c
noncomputable def fe (e:Expr) (f:UnaryOp->Expr->Pos->Bool):Bool:=if h:e.ctorIdx=3 then @Nr.elim (fun _=>Bool) e h f else false
@[elab_as_elim]
theorem i6 {P:Expr->Prop} (e:Expr) {f:UnaryOp->Expr->Pos->Bool} (h:fe e f=true) (k:∀ a b c,f a b c=true->P (.UnaryOp a b c)):P e :=
 (pk h).elim fun c => @Nr.elim (fun e => ∀ c, @Nr.elim (fun _=>Bool) e c f=true->P e) e c (fun a b c _ h=>k a b c h) c
noncomputable def i7 (e:Expr) (f:Expr->List CmpOp->List Expr->Pos->Bool):Bool:=if h:e.ctorIdx=15 then @Nt.elim (fun _=>Bool) e h f else false
@[elab_as_elim]
theorem oi {P:Expr->Prop} (e:Expr) {f:Expr->List CmpOp->List Expr->Pos->Bool} (h:i7 e f=true) (k:∀ a b c d,f a b c d=true->P (.Compare a b c d)):P e :=
 (pk h).elim fun c => @Nt.elim (fun e => ∀ c, @Nt.elim (fun _=>Bool) e c f=true->P e) e c (fun a b c d _ h=>k a b c d h) c
noncomputable def e9 (e:Expr) (f:BoolOp->List Expr->Pos->Bool):Bool:=if h:e.ctorIdx=0 then @O8.elim (fun _=>Bool) e h f else false
@[elab_as_elim]
theorem gx {P:Expr->Prop} (e:Expr) {f:BoolOp->List Expr->Pos->Bool} (h:e9 e f=true) (k:∀ a b c,f a b c=true->P (.BoolOp a b c)):P e :=
 (pk h).elim fun c => @O8.elim (fun e => ∀ c, @O8.elim (fun _=>Bool) e c f=true->P e) e c (fun a b c _ h=>k a b c h) c
noncomputable def uY (e:Expr) (f:Expr->Expr->Expr->Pos->Bool):Bool:=if h:e.ctorIdx=5 then @Oy.elim (fun _=>Bool) e h f else false
@[elab_as_elim]
theorem C3 {P:Expr->Prop} (e:Expr) {f:Expr->Expr->Expr->Pos->Bool} (h:uY e f=true) (k:∀ a b c d,f a b c d=true->P (.IfExp a b c d)):P e :=
 (pk h).elim fun c => @Oy.elim (fun e => ∀ c, @Oy.elim (fun _=>Bool) e c f=true->P e) e c (fun a b c d _ h=>k a b c d h) c
noncomputable def cE (e:Expr) (f:List Expr->Nat->Pos->Bool):Bool:=if h:e.ctorIdx=25 then @Oz.elim (fun _=>Bool) e h f else false
@[elab_as_elim]
theorem dw {P:Expr->Prop} (e:Expr) {f:List Expr->Nat->Pos->Bool} (h:cE e f=true) (k:∀ a b c,f a b c=true->P (.Tuple a b c)):P e :=
 (pk h).elim fun c => @Oz.elim (fun e => ∀ c, @Oz.elim (fun _=>Bool) e c f=true->P e) e c (fun a b c _ h=>k a b c h) c
noncomputable def yN (e:Expr) (f:List Expr->Pos->Bool):Bool:=if h:e.ctorIdx=24 then @OE.elim (fun _=>Bool) e h f else false
@[elab_as_elim]
theorem Ds {P:Expr->Prop} (e:Expr) {f:List Expr->Pos->Bool} (h:yN e f=true) (k:∀ a b,f a b=true->P (.List a b)):P e :=
 (pk h).elim fun c => @OE.elim (fun e => ∀ c, @OE.elim (fun _=>Bool) e c f=true->P e) e c (fun a b _ h=>k a b h) c
noncomputable def cj (e:Expr) (f:Expr->Expr->Pos->Bool):Bool:=if h:e.ctorIdx=21 then @Mc.elim (fun _=>Bool) e h f else false
@[elab_as_elim]
theorem cS {P:Expr->Prop} (e:Expr) {f:Expr->Expr->Pos->Bool} (h:cj e f=true) (k:∀ a b c,f a b c=true->P (.Subscript a b c)):P e :=
 (pk h).elim fun c => @Mc.elim (fun e => ∀ c, @Mc.elim (fun _=>Bool) e c f=true->P e) e c (fun a b c _ h=>k a b c h) c
noncomputable def sn (e:Expr) (f:Expr->List Expr->List K8->Pos->Bool):Bool:=if h:e.ctorIdx=16 then @OF.elim (fun _=>Bool) e h f else false
@[elab_as_elim]
theorem yO {P:Expr->Prop} (e:Expr) {f:Expr->List Expr->List K8->Pos->Bool} (h:sn e f=true) (k:∀ a b c d,f a b c d=true->P (.Call a b c d)):P e :=
 (pk h).elim fun c => @OF.elim (fun e => ∀ c, @OF.elim (fun _=>Bool) e c f=true->P e) e c (fun a b c d _ h=>k a b c d h) c
noncomputable def ji (e:Expr) (f:Expr->Str->Pos->Bool):Bool:=if h:e.ctorIdx=20 then @Md.elim (fun _=>Bool) e h f else false
@[elab_as_elim]
theorem so {P:Expr->Prop} (e:Expr) {f:Expr->Str->Pos->Bool} (h:ji e f=true) (k:∀ a b c,f a b c=true->P (.Attribute a b c)):P e :=
 (pk h).elim fun c => @Md.elim (fun e => ∀ c, @Md.elim (fun _=>Bool) e c f=true->P e) e c (fun a b c _ h=>k a b c h) c
noncomputable def uZ (e:Expr) (f:Option Expr->Option Expr->Option Expr->Pos->Bool):Bool:=if h:e.ctorIdx=26 then @OA.elim (fun _=>Bool) e h f else false
@[elab_as_elim]
theorem C4 {P:Expr->Prop} (e:Expr) {f:Option Expr->Option Expr->Option Expr->Pos->Bool} (h:uZ e f=true) (k:∀ a b c d,f a b c d=true->P (.Slice a b c d)):P e :=
 (pk h).elim fun c => @OA.elim (fun e => ∀ c, @OA.elim (fun _=>Bool) e c f=true->P e) e c (fun a b c d _ h=>k a b c d h) c
noncomputable def kZ (e:Expr) (f:Expr->List FO->Scope->Pos->Bool):Bool:=if h:e.ctorIdx=8 then @My.elim (fun _=>Bool) e h f else false
@[elab_as_elim]
theorem v4 {P:Expr->Prop} (e:Expr) {f:Expr->List FO->Scope->Pos->Bool} (h:kZ e f=true) (k:∀ a b c d,f a b c d=true->P (.ListComp a b c d)):P e :=
 (pk h).elim fun c => @My.elim (fun e => ∀ c, @My.elim (fun _=>Bool) e c f=true->P e) e c (fun a b c d _ h=>k a b c d h) c
noncomputable def lc (e:Expr) (f:Expr->Expr->List FO->Scope->Pos->Bool):Bool:=if h:e.ctorIdx=10 then @KR.elim (fun _=>Bool) e h f else false
@[elab_as_elim]
theorem v5 {P:Expr->Prop} (e:Expr) {f:Expr->Expr->List FO->Scope->Pos->Bool} (h:lc e f=true) (k:∀ a b c d e,f a b c d e=true->P (.DictComp a b c d e)):P e :=
 (pk h).elim fun c => @KR.elim (fun e => ∀ c, @KR.elim (fun _=>Bool) e c f=true->P e) e c (fun a b c d e _ h=>k a b c d e h) c
noncomputable def yP (e:Expr) (f:List (Option Expr)->List Expr->Pos->Bool):Bool:=if h:e.ctorIdx=6 then @OG.elim (fun _=>Bool) e h f else false
@[elab_as_elim]
theorem Dt {P:Expr->Prop} (e:Expr) {f:List (Option Expr)->List Expr->Pos->Bool} (h:yP e f=true) (k:∀ a b c,f a b c=true->P (.Dict a b c)):P e :=
 (pk h).elim fun c => @OG.elim (fun e => ∀ c, @OG.elim (fun _=>Bool) e c f=true->P e) e c (fun a b c _ h=>k a b c h) c
noncomputable def fg (e:Stmt) (f:List Expr->Expr->Pos->Bool):Bool:=if h:e.ctorIdx=5 then @O9.elim (fun _=>Bool) e h f else false
@[elab_as_elim]
theorem i8 {P:Stmt->Prop} (e:Stmt) {f:List Expr->Expr->Pos->Bool} (h:fg e f=true) (k:∀ a b c,f a b c=true->P (.Assign a b c)):P e :=
 (pk h).elim fun c => @O9.elim (fun e => ∀ c, @O9.elim (fun _=>Bool) e c f=true->P e) e c (fun a b c _ h=>k a b c h) c
noncomputable def oj (e:Stmt) (f:List Expr->Pos->Bool):Bool:=if h:e.ctorIdx=4 then @Oa.elim (fun _=>Bool) e h f else false
@[elab_as_elim]
theorem xQ {P:Stmt->Prop} (e:Stmt) {f:List Expr->Pos->Bool} (h:oj e f=true) (k:∀ a b,f a b=true->P (.Delete a b)):P e :=
 (pk h).elim fun c => @Oa.elim (fun e => ∀ c, @Oa.elim (fun _=>Bool) e c f=true->P e) e c (fun a b _ h=>k a b h) c
noncomputable def gN (e:Stmt) (f:Expr->Ji->Expr->Pos->Bool):Bool:=if h:e.ctorIdx=7 then @Me.elim (fun _=>Bool) e h f else false
@[elab_as_elim]
theorem pJ {P:Stmt->Prop} (e:Stmt) {f:Expr->Ji->Expr->Pos->Bool} (h:gN e f=true) (k:∀ a b c d,f a b c d=true->P (.AugAssign a b c d)):P e :=
 (pk h).elim fun c => @Me.elim (fun e => ∀ c, @Me.elim (fun _=>Bool) e c f=true->P e) e c (fun a b c d _ h=>k a b c d h) c
noncomputable def v6 (e:Stmt) (f:Expr->Pos->Bool):Bool:=if h:e.ctorIdx=24 then @OH.elim (fun _=>Bool) e h f else false
@[elab_as_elim]
theorem C5 {P:Stmt->Prop} (e:Stmt) {f:Expr->Pos->Bool} (h:v6 e f=true) (k:∀ a b,f a b=true->P (.Expr a b)):P e :=
 (pk h).elim fun c => @OH.elim (fun e => ∀ c, @OH.elim (fun _=>Bool) e c f=true->P e) e c (fun a b _ h=>k a b h) c
noncomputable def om (e:Stmt) (f:Option Expr->Pos->Bool):Bool:=if h:e.ctorIdx=3 then @Ob.elim (fun _=>Bool) e h f else false
@[elab_as_elim]
theorem xR {P:Stmt->Prop} (e:Stmt) {f:Option Expr->Pos->Bool} (h:om e f=true) (k:∀ a b,f a b=true->P (.Return a b)):P e :=
 (pk h).elim fun c => @Ob.elim (fun e => ∀ c, @Ob.elim (fun _=>Bool) e c f=true->P e) e c (fun a b _ h=>k a b h) c
noncomputable def C6 (e:Stmt) (f:Expr->List Stmt->List Stmt->Pos->Bool):Bool:=if h:e.ctorIdx=12 then @Stmt.If.elim (fun _=>Bool) e h f else false
@[elab_as_elim]
theorem Eb {P:Stmt->Prop} (e:Stmt) {f:Expr->List Stmt->List Stmt->Pos->Bool} (h:C6 e f=true) (k:∀ a b c d,f a b c d=true->P (.If a b c d)):P e :=
 (pk h).elim fun c => @Stmt.If.elim (fun e => ∀ c, @Stmt.If.elim (fun _=>Bool) e c f=true->P e) e c (fun a b c d _ h=>k a b c d h) c
noncomputable def yQ (e:Stmt) (f:Expr->Expr->List Stmt->List Stmt->Pos->Bool):Bool:=if h:e.ctorIdx=9 then @Stmt.For.elim (fun _=>Bool) e h f else false
@[elab_as_elim]
theorem Du {P:Stmt->Prop} (e:Stmt) {f:Expr->Expr->List Stmt->List Stmt->Pos->Bool} (h:yQ e f=true) (k:∀ a b c d e,f a b c d e=true->P (.For a b c d e)):P e :=
 (pk h).elim fun c => @Stmt.For.elim (fun e => ∀ c, @Stmt.For.elim (fun _=>Bool) e c f=true->P e) e c (fun a b c d e _ h=>k a b c d e h) c
noncomputable def qm (e:Stmt) (f:Expr->List Stmt->List Stmt->Pos->Bool):Bool:=if h:e.ctorIdx=11 then @OB.elim (fun _=>Bool) e h f else false
@[elab_as_elim]
theorem Ak {P:Stmt->Prop} (e:Stmt) {f:Expr->List Stmt->List Stmt->Pos->Bool} (h:qm e f=true) (k:∀ a b c d,f a b c d=true->P (.While a b c d)):P e :=
 (pk h).elim fun c => @OB.elim (fun e => ∀ c, @OB.elim (fun _=>Bool) e c f=true->P e) e c (fun a b c d _ h=>k a b c d h) c
noncomputable def v7 (e:Stmt) (f:Pos->Bool):Bool:=if h:e.ctorIdx=25 then @OI.elim (fun _=>Bool) e h f else false
@[elab_as_elim]
theorem C7 {P:Stmt->Prop} (e:Stmt) {f:Pos->Bool} (h:v7 e f=true) (k:∀ a,f a=true->P (.Pass a)):P e :=
 (pk h).elim fun c => @OI.elim (fun e => ∀ c, @OI.elim (fun _=>Bool) e c f=true->P e) e c (fun a _ h=>k a h) c
noncomputable def qo (e:Stmt) (f:Pos->Bool):Bool:=if h:e.ctorIdx=26 then @OC.elim (fun _=>Bool) e h f else false
@[elab_as_elim]
theorem Al {P:Stmt->Prop} (e:Stmt) {f:Pos->Bool} (h:qo e f=true) (k:∀ a,f a=true->P (.Break a)):P e :=
 (pk h).elim fun c => @OC.elim (fun e => ∀ c, @OC.elim (fun _=>Bool) e c f=true->P e) e c (fun a _ h=>k a h) c
noncomputable def jj (e:Stmt) (f:Pos->Bool):Bool:=if h:e.ctorIdx=27 then @Mz.elim (fun _=>Bool) e h f else false
@[elab_as_elim]
theorem su {P:Stmt->Prop} (e:Stmt) {f:Pos->Bool} (h:jj e f=true) (k:∀ a,f a=true->P (.Continue a)):P e :=
 (pk h).elim fun c => @Mz.elim (fun e => ∀ c, @Mz.elim (fun _=>Bool) e c f=true->P e) e c (fun a _ h=>k a h) c
noncomputable def lv0 {α:Type} (xs:List α) (b:Bool):Bool:=xs.isEmpty&&b
noncomputable def lvc {α:Type} (xs:List α) (f : α -> List α -> Bool):Bool:=match xs with
 | y::r=>f y r
 | [] => false
noncomputable def lv1 {α:Type} (xs:List α) (f : α -> Bool):Bool:=lvc xs fun y r=>lv0 r (f y)
noncomputable def lv2 {α:Type} (xs:List α) (f : α -> α -> Bool):Bool:=lvc xs fun y r=>lv1 r (f y)
noncomputable def lv3 {α:Type} (xs:List α) (f : α -> α -> α -> Bool):Bool:=lvc xs fun y r=>lv2 r (f y)
noncomputable def os {α:Type} (o:Option α) (f : α -> Bool):Bool:=match o with
 | some x=>f x
 | none=>false
noncomputable def on {α:Type} (o:Option α) (b:Bool):Bool:=o.isNone&&b
@[elab_as_elim]
theorem i9 {α:Type} {P:List α -> Prop} (xs:List α) {b:Bool} (h:lv0 xs b=true) (k:b=true->P []):P xs:=by
 cases xs with
 | nil=>exact k h
 | cons _ _=>cases h
@[elab_as_elim]
theorem xS {α:Type} {P:List α -> Prop} (xs:List α) {f : α -> List α -> Bool} (h:lvc xs f=true) (k:∀ y r,f y r=true->P (y::r)):P xs:=by
 cases xs with
 | nil=>cases h
 | cons y r=>exact k y r h
@[elab_as_elim]
theorem bY {α:Type} {P:List α -> Prop} (xs:List α) {f : α -> Bool} (h:lv1 xs f=true) (k:∀ y,f y=true->P [y]):P xs :=
 xS xs h fun y r h=>i9 r h fun h=>k y h
@[elab_as_elim]
theorem jO {α:Type} {P:List α -> Prop} (xs:List α) {f : α -> α -> Bool} (h:lv2 xs f=true) (k:∀ y z,f y z=true->P [y,z]):P xs :=
 xS xs h fun y r h=>bY r h fun z h=>k y z h
@[elab_as_elim]
theorem C8 {α:Type} {P:List α -> Prop} (xs:List α) {f : α -> α -> α -> Bool} (h:lv3 xs f=true) (k:∀ y z u,f y z u=true->P [y,z,u]):P xs :=
 xS xs h fun y r h=>jO r h fun z u h=>k y z u h
@[elab_as_elim]
theorem jos {α:Type} {P:Option α -> Prop} (o:Option α) {f : α -> Bool} (h:os o f=true) (k:∀ x,f x=true->P (some x)):P o:=by
 cases o with
 | none=>cases h
 | some x=>exact k x h
@[elab_as_elim]
theorem jon {α:Type} {P:Option α -> Prop} (o:Option α) {b:Bool} (h:on o b=true) (k:b=true->P none):P o:=by
 cases o with
 | none=>exact k h
 | some x=>cases h
theorem bx {a b:Bool} (h:(a&&b)=true):a=true/\b=true:=by rwa [hG] at h
noncomputable def bR (e:Expr) (g:Str->List Expr->Bool):Bool:=sn e fun f xs ks _=>lv0 ks (ci f fun x _=>g x xs)
@[elab_as_elim]
theorem ck {P:Expr->Prop} (e:Expr) {g:Str->List Expr->Bool} (h:bR e g=true) (k:∀ x xs p pos,g x xs=true->P (.Call (.Name x p) xs [] pos)):P e :=
 yO e h fun f xs ks pos h=>i9 ks h fun h=>cy f h fun x p h=>k x xs p pos h
noncomputable def sv (e:Expr) (g:Expr->Str->List Expr->Pos->Pos->Bool):Bool:=sn e fun f xs ks p=>lv0 ks (ji f fun o n q=>g o n xs q p)
@[elab_as_elim]
theorem yR {P:Expr->Prop} (e:Expr) {g:Expr->Str->List Expr->Pos->Pos->Bool} (h:sv e g=true) (k:∀ o n xs q p,g o n xs q p=true->P (.Call (.Attribute o n q) xs [] p)):P e :=
 yO e h fun f xs ks pos h=>i9 ks h fun h=>so f h fun o n q h=>k o n xs q pos h
noncomputable def iSl (e:Expr) (g:Expr->Option Expr->Option Expr->Option Expr->Bool):Bool:=cj e fun x y _=>uZ y fun l u s _=>g x l u s
@[elab_as_elim]
theorem jSl {P:Expr->Prop} (e:Expr) {g:Expr->Option Expr->Option Expr->Option Expr->Bool} (h:iSl e g=true) (k:∀ x l u s p pos,g x l u s=true->P (.Subscript x (.Slice l u s p) pos)):P e :=
 cS e h fun x y pos h=>C4 y h fun l u s p h=>k x l u s p pos h
mutual
noncomputable def okG:MG->Ctx->Expr->Bool
 | .name i,C,e=>ci e fun x _=>decide (C.N[i]? = some x)&&si C.sc x&&(C.sc.names.lookup x==some .local || C.fn.contains x)
 | .tup gs,C,e=>cE e fun es _ _=>okGs gs C es
noncomputable def okGs:MGs->Ctx->List Expr->Bool
 | .nil,_,es=>es.isEmpty
 | .cons g r,C,es=>match es with
  | e::es=>aM e&&okG g C e&&okGs r C es
  | [] => false
end
mutual
noncomputable def okE:ME->Ctx->Expr->Bool
 | .var i,C,e=>ci e fun x _=>decide (C.N[i]? = some x)&&xO C.sc x && !(x==("__debug__":Str)) && !(x==("__classdict__":Str))
 | .int i,_,e=>cD e fun c _ _=>decide (c = .int i)
 | .bl i,_,e=>cD e fun c _ _=>decide (c = .bool i)
 | .non,_,e=>cD e fun c _ _=>decide (c = .none)
 | .str i,_,e=>cD e fun c _ _=>decide (c = .str i)
 | .bin op a b,C,e=>uX e fun l o r _=>decide (o=opO op)&&okE a C l&&okE b C r
 | .neg a,C,e=>fe e fun o x _=>decide (o = .USub)&&okE a C x
 | .cmp op a b,C,e=>i7 e fun l os rs _=>lv1 os fun o=>lv1 rs fun r=>decide (o=xP op)&&okE a C l&&okE b C r && !(IW o r)
 | .and es,C,e=>e9 e fun o xs _=>decide (o = .And) && !xs.isEmpty&&okEs es C xs
 | .or es,C,e=>e9 e fun o xs _=>decide (o = .Or) && !xs.isEmpty&&okEs es C xs
 | .not a,C,e=>fe e fun o x _=>decide (o = .Not)&&okE a C x
 | .ite c a b,C,e=>uY e fun t x y _=>okT c C t&&okE a C x&&okE b C y
 | .tup es,C,e=>cE e fun xs _ _=>okEs es C xs
 | .lst es,C,e=>yN e fun xs _=>okEs es C xs
 | .ix a b,C,e=>cj e fun x y _=>e8 y&&okE a C x&&okE b C y
 | .sl a lo hi,C,e=>iSl e fun x l u s=>on s (okE a C x&&okO lo C l&&okO hi C u)
 | .call f es,C,e=>bR e fun x xs=>decide (C.Γ[f]? = some x)&&glB C.sc x && !(x==("__debug__":Str))&&okEs es C xs
 | .blt f es,C,e=>bR e fun x xs=>decide (x=oh f)&&glB C.sc x && !xs.isEmpty&&okEs es C xs
 | .isin2 a T U,C,e=>bR e fun x xs=>lv2 xs fun y w=>cE w fun ws _ _=>lv2 ws fun z' v'=>ci z' fun z _=>ci v' fun v _=>decide (x = "isinstance")&&glB C.sc x&&glB C.sc z&&glB C.sc v&&decide (z=q7 T)&&decide (v=q7 U)&&decide (T∈["bool", "int", "str", "tuple", "list", "dict"])&&decide (U∈["bool", "int", "str", "tuple", "list", "dict"])&&aM y&&okE a C y
 | .isin a T,C,e=>bR e fun x xs=>lv2 xs fun y w=>ci w fun z _=>decide (x = "isinstance")&&glB C.sc x&&glB C.sc z&&decide (z=q7 T)&&decide (T∈["bool", "int", "str", "tuple", "list", "dict"])&&aM y&&okE a C y
 | .dnew _,_,e=>yP e fun ks vs _=>lv0 ks (lv0 vs true)
 | .popk o k,C,e=>sv e fun y n xs ap cp=>lv1 xs fun e1=>decide (n = "pop")&&gu y&&(ap.endLine==cp.line)&&aM e1&&okE o C y&&okE k C e1
 | .lrng a,C,e=>bR e fun x xs=>lv1 xs fun w=>bR w fun z ys=>lv1 ys fun y=>decide (x = "list")&&glB C.sc x&&decide (z = "range")&&glB C.sc z&&aM y&&okE a C y
 | .meth m o a,C,e=>sv e fun x n xs ap cp=>lv1 xs fun y=>decide (n=C1 m)&&gu x&&(ap.endLine==cp.line)&&aM y&&okE o C x&&okE a C y
 | .comp fr N' c,C,e=>kZ e fun elt gens sc _=>sj sc C.sc C.N N' fr&&okC c C ⟨C.Γ,N',bC sc C.sc,(sc.names.filter (·.2 == .cell)).map (·.1),C.cs⟩ gens elt
 | .dcomp2 fr N' src g src2 g2 k v,C,e=>lc e fun ek ev gs sc _=>lv2 gs fun ⟨t,it,fs,a⟩ ⟨t2,it2,fs2,a2⟩=>sj sc C.sc C.N N' fr&&decide (a=0)&&decide (a2=0)&&fs.isEmpty&&fs2.isEmpty&&okI src C t it&&okG g ⟨C.Γ,N',bC sc C.sc,(sc.names.filter (·.2 == .cell)).map (·.1),C.cs⟩ t&&okI src2 ⟨C.Γ,N',bC sc C.sc,(sc.names.filter (·.2 == .cell)).map (·.1),C.cs⟩ t2 it2&&okG g2 ⟨C.Γ,N',bC sc C.sc,(sc.names.filter (·.2 == .cell)).map (·.1),C.cs⟩ t2&&okE k ⟨C.Γ,N',bC sc C.sc,(sc.names.filter (·.2 == .cell)).map (·.1),C.cs⟩ ek&&okE v ⟨C.Γ,N',bC sc C.sc,(sc.names.filter (·.2 == .cell)).map (·.1),C.cs⟩ ev
noncomputable def okEs:MEs->Ctx->List Expr->Bool
 | .nil,_,es=>es.isEmpty
 | .cons m r,C,es=>match es with
  | e::es=>aM e&&okE m C e&&okEs r C es
  | [] => false
noncomputable def okO:MO->Ctx->Option Expr->Bool
 | .none,_,e=>e.isNone
 | .some m,C,e=>match e with
  | some e=>okE m C e
  | none=>false
noncomputable def okT:MT->Ctx->Expr->Bool
 | .tru m,C,e=>og e&&okE m C e
 | .cmp op a b,C,e=>i7 e fun l os rs _=>lv1 os fun o=>lv1 rs fun r=>decide (o=xP op)&&okE a C l&&okE b C r && !(IW o r)
 | .and ts,C,e=>e9 e fun o xs _=>decide (o = .And) && !xs.isEmpty&&okTs ts C xs
 | .or ts,C,e=>e9 e fun o xs _=>decide (o = .Or) && !xs.isEmpty&&okTs ts C xs
 | .not t,C,e=>fe e fun o x _=>decide (o = .Not)&&okT t C x
noncomputable def okTs:MTs->Ctx->List Expr->Bool
 | .nil,_,es=>es.isEmpty
 | .cons m r,C,es=>match es with
  | e::es=>okT m C e&&okTs r C es
  | [] => false
noncomputable def okI:MI->Ctx->Expr->Expr->Bool
 | .seq m,C,_,e=>md e&&okE m C e
 | .rng1 a,C,_,e=>bR e fun x xs=>lv1 xs fun y=>decide (x = "range")&&glB C.sc x&&aM y&&okE a C y
 | .enum a,C,t,e=>bR e fun x xs=>lv1 xs fun y=>cE t fun _ _ _=>decide (x = "enumerate")&&glB C.sc x&&aM y&&okE a C y
 | .zip a b,C,t,e=>bR e fun x xs=>lv2 xs fun y z=>cE t fun _ _ _=>decide (x = "zip")&&glB C.sc x&&aM y&&aM z&&okE a C y&&okE b C z
noncomputable def okC:MC->Ctx->Ctx->List FO->Expr->Bool
 | .last src g ifs m,Cs,C,gens,elt=>match gens with
  | [⟨t,it,fs,a⟩] => decide (a=0)&&okI src Cs t it&&okG g C t&&okTs ifs C fs&&okE m C elt
  | _=>false
 | .more src g ifs rest,Cs,C,gens,elt=>match gens with
  | ⟨t,it,fs,a⟩::g2::gs=>decide (a=0)&&okI src Cs t it&&okG g C t&&okTs ifs C fs&&okC rest C C (g2::gs) elt
  | _=>false
end
noncomputable def aV (sc:Scope) (ts:List Expr):List Str:=ts.filterMap fun
 | .Name id pos=>if sc.names.lookup id==some .local&&pos.line==(ts.head?.map (·.pos.line)).getD 0 then some id else none
 | _=>none
noncomputable def sx (sc:Scope) (ts vs:List Expr):Bool := !(ts.length==2 || ts.length==3) || vs.length != ts.length || (aV sc ts).length != ts.length || (aV sc ts).eraseDups.length != (aV sc ts).length || vs.all (MA 8)
noncomputable def oo (C:Ctx) (i:Nat) (x:Str):Bool:=decide (C.N[i]? = some x)&&decide (C.sc.names.lookup x=some .local)
noncomputable def sy (sc:Scope) (ts vs:List Expr) (ns:List Str):Bool := !(!(ts.length==2 || ts.length==3) || vs.length != ts.length) && !(vs.any fun | .Starred .. => true | _=>false)&&decide (aV sc ts=ns) && !((aV sc ts).length != ts.length || (aV sc ts).eraseDups.length != (aV sc ts).length) && !(vs.all (MA 8)) && !(vs.all (constantsAlone 8))
noncomputable def jk (sc:Scope) (tg e:Expr):Bool:=match tg,e with
 | .Tuple ts _ _, .Tuple vs _ _=>sx sc ts vs
 | .Tuple ..,_=>true
 | .Name ..,_=>true
 | _,_=>false
noncomputable def C9 (sc:Scope) (x:Str) (px:Pos) (e:Expr):Bool:=match e with
 | .DictComp _ _ _ s _ => !(sc.names.lookup x==some .local&&px.line==e.pos.line && !(s.names.any fun (n,k)=>n==x&&(k == .local || k == .cell)))
 | _=>true
noncomputable def sB (sc:Scope) (x:Str) (px:Pos) (e:Expr):Bool:=match e with
 | .ListComp _ _ s _=>sc.names.lookup x==some .local&&px.line==e.pos.line && !(s.names.any fun (n,k)=>n==x&&(k == .local || k == .cell))
 | _=>false
mutual
noncomputable def okS:MS->Ctx->Stmt->Bool
 | .asg g m,C,s=>fg s fun ts e _=>lv1 ts fun tg=>okG g C tg&&okE m C e&&jk C.sc tg e&&(match tg with | .Name x px=>C9 C.sc x px e | _=>fP e)
 | .par3 i j l a b c,C,s=>fg s fun ts e _=>lv1 ts fun tg=>cE tg fun ts _ _=>cE e fun es _ _=>lv3 ts fun t u v=>lv3 es fun e f g=>ci t fun x px=>ci u fun y py=>ci v fun z pz=>oo C i x&&oo C j y&&oo C l z&&decide (i≠j)&&decide (i≠l)&&decide (j≠l)&&aM e&&aM f&&aM g&&okE a C e&&okE b C f&&okE c C g&&sy C.sc [.Name x px, .Name y py, .Name z pz] [e,f,g] [x,y,z]
 | .put o i m,C,s=>fg s fun ts e _=>lv1 ts fun tg=>cj tg fun x y _=>e8 y&&fP e&&okE o C x&&okE i C y&&okE m C e
 | .aug i op m,C,s=>gN s fun t o e _=>ci t fun x _=>decide (o=opO op)&&(match op with | .add | .sub | .mul | .ext=>true | _=>false)&&decide (C.N[i]? = some x)&&si C.sc x&&(C.sc.names.lookup x==some .local || C.fn.contains x)&&okE m C e
 | .drop m,C,s=>v6 s fun e _=>fP e&&okE m C e
 | .ret m,C,s=>om s fun o _=>os o fun e=>okE m C e
 | .ite c a b,C,s=>C6 s fun t x y _=>okT c C t&&okSs a C x&&okSs b C y
 | .for g src b,C,s=>yQ s fun tg it body els _=>lv0 els (md it&&okG g C tg&&okI src C tg it&&okSs b C body)
 | .while c b,C,s=>qm s fun t body els _=>lv0 els (okT c C t&&okSs b C body)
 | .delk o k,C,s=>oj s fun ts _=>lv1 ts fun t=>cj t fun x y _=>okE o C x&&okE k C y
 | .pass,_,s=>v7 s fun _=>true
 | .brk,_,s=>qo s fun _=>true
 | .cnt,_,s=>jj s fun _=>true
noncomputable def okSs:MSs->Ctx->List Stmt->Bool
 | .nil,_,ss=>ss.isEmpty
 | .cons m r,C,ss=>match ss with
  | s::ss=>okS m C s&&okSs r C ss
  | [] => false
end
theorem aj {e:Expr} {es:List Expr} {env:Env} (h:aM e=true):FP (e::es) env=(false,eval e env)::FP es env:=by
 cases e <;> first | rfl | (simp [aM] at h;done)
theorem lf {e:Expr} {es:List Expr} {env:Env} (h:aM e=true):Hk (e::es) env=(false,assign e env)::Hk es env:=by
 cases e <;> first | rfl | (simp [aM] at h;done)
theorem sC {e:Expr} {env:Env} (h:og e=true):∀ whole,isTrue e env whole=(do let v <- whole;Iw e.pos;holding [v] (truthy v)):=by
 intro w
 cases e <;> first | rfl | (simp [og] at h;done)
theorem xT {e:Expr} (h:e8 e=true):jA e:=by
 intro o i
 cases e <;> first | rfl | (simp [e8] at h;done)
theorem v8 {e:Expr} {env:Env} (h:md e=true):∀ x,GI e env x=pure x:=by
 intro x
 cases e <;> first | rfl | (simp [md] at h;done)
theorem dy {e:Expr} {n:Str} {env:Env} (h:gu e=true):KN e n env (eval e env)=eval e env:=by
 cases e <;> first
  | rfl
  | (rename_i f xs _ _;cases xs with
     | nil=>simp [gu] at h
     | cons _ _=>cases f <;> rfl)
theorem jP {e:Expr} {t:Option Expr} {l:Nat} {env:Env} (h:fP e=true):Jd e t l env=pure false:=by
 cases e <;> first | rfl | (simp [fP] at h;done)
end
section
noncomputable def lSp (K:Frag) (r:RAd):Sp:=fun vs H Q _=>lR K r vs H Q
structure Good (C:Ctx) (Φ:Phi) (k:Nat) (X:Cx):Prop where
 hx:∀ e s,X.xe e s->False
 calm:X.calm=true
 N:X.N=C.N
 sc:X.env.scope=C.sc
 nd:X.N.Nodup
 fn:∀ x∈C.fn,X.fn x=true
 room:Room k X.A
 mgB:∀ x∈bltNames,X.mg x=none
 fns:∀ (i:Nat) (x:Str),C.Γ[i]? = some x -> ∃ f fd ps,X.mg x=some (.ref f)/\Jr X.K GB x=some (some (.ref f))/\IE X.K (.ref f)=true/\Binds X.K fd ps []/\dj X.prog X.w X.K X.mg X.base CX0 k f fd ps (lSp X.K (Φ i))
 mono:∀ f,aR (Φ f)
 cs:∀ x d,(x,d)∈C.cs -> ∃ u,X.mg x=some u/\GV X.K d u
section
variable {C:Ctx} {Φ:Phi} {k:Nat} {X:Cx}
theorem Good.units (G:Good C Φ k X):X.A.units+64 < Ib:=G.room.units
theorem Good.gl (G:Good C Φ k X) {x:Str} (h:glB C.sc x=true):Gl X x:=by
 show X.env.scope.names.lookup x=_;rw [G.sc];simpa [glB] using h
theorem Good.vis (G:Good C Φ k X) {x:Str} (h:xO C.sc x=true):Vis X.env.scope x:=by
 unfold Vis;rw [G.sc];simp [xO] at h
 rcases h with (h | h) | h
 ·exact .inl h
 ·exact .inr (.inl h)
 ·exact .inr (.inr h)
theorem Good.loc (G:Good C Φ k X) {x:Str} (h:si C.sc x=true):Loc X.env.scope x:=by
 unfold Loc;rw [G.sc];simpa [si] using h
theorem Good.own (G:Good C Φ k X) {x:Str} (h:(C.sc.names.lookup x==some .local || C.fn.contains x)=true):X.fn x=true∨X.env.scope.names.lookup x=some .local:=by
 rw [G.sc];simp at h
 rcases h with h | h
 ·exact .inr h
 ·exact .inl (G.fn x h)
theorem Ca (G:Good C Φ k X):∀ o:BOp,OpR X (GY (opO o)) (l2 X.K (opB o))
 | .add=>mQ | .sub=>wP | .mul=>wQ | .fdiv=>u7 | .mod=>wV | .pow=>wW | .ext=>mQ
theorem qp (G:Good C Φ k X):∀ o:COp,OpR X (GA (xP o)) (l2 X.K (opC o))
 | .eq=>zF (by have:=G.units;lia) | .ne=>zG (by have:=G.units;lia) | .lt=>zK| .gt=>zL | .ge=>zM | .is=>A3| .inS=>xH | .inD=>xJ (by have:=G.units;lia)| .ninS=>uS| .ninE=>uQ (by have:=G.units;lia)
theorem Cb (G:Good C Φ k X) {f:BF} {e:Expr} {es:List Expr} {t:TAd} {p pos:Pos} (mt:b4 t) (q:Gl X (oh f)) (z:PA X (e::es) (lA X.K t))
 (he:FP (e::es) X.env=(false,eval e X.env)::FP es X.env) (j:(IC pos (FP es X.env)).any (·.1)=false):PE X (.Call (.Name (oh f) p) (e::es) [] pos) (lE X.K (wAr (opF f) t)):=by
 cases f with
 | len=>exact PE.imp (bf rC q (G.mgB _ (by decide)) PySem.boot_len z (by decide) (by decide) he j) (ba mW mt)
 | abs=>exact PE.imp (bf rD q (G.mgB _ (by decide)) (by decide +kernel) z (by decide) (by decide) he j) (ba mZ mt)
 | max2=>exact PE.imp (bf (pc G.calm) q (G.mgB _ (by decide)) (by decide +kernel) z (by decide) (by decide) he j) (ba kC mt)
 | min2=>exact PE.imp (bf (ph G.calm) q (G.mgB _ (by decide)) (by decide +kernel) z (by decide) (by decide) he j) (ba kD mt)
 | min1=>exact PE.imp (bf (pG G.calm) q (G.mgB _ (by decide)) (by decide +kernel) z (by decide) (by decide) he j) (ba kU mt)
 | int=>exact PE.imp (fA rE q (G.mgB _ (by decide)) (by decide +kernel) z (by decide) (by decide) he j) (ba n6 mt)
 | list=>exact PE.imp (fA pj q (G.mgB _ (by decide)) (by decide +kernel) z (by decide) (by decide) he j) (ba kE mt)
 | tuple=>exact PE.imp (fA nc q (G.mgB _ (by decide)) (by decide +kernel) z (by decide) (by decide) he j) (ba iP mt)
 | all=>exact PE.imp (bf (rO G.calm) q (G.mgB _ (by decide)) (by decide +kernel) z (by decide) (by decide) he j) (ba nJ mt)
 | any=>exact PE.imp (bf (rP G.calm) q (G.mgB _ (by decide)) (by decide +kernel) z (by decide) (by decide) he j) (ba nK mt)
 | sorts=>exact PE.imp (bf (nY (by have:=G.units;lia) G.calm) q (G.mgB _ (by decide)) (by decide +kernel) z (by decide) (by decide) he j) (ba jg mt)
theorem Am (G:Good C Φ k X) {f:Nat} {x:Str} {e:Expr} {es:List Expr} {t:TAd} {p pos:Pos} (mt:b4 t) (hf:C.Γ[f]? = some x) (z:Gl X x) (j:(x==("__debug__":Str))=false) (B:PA X (e::es) (lA X.K t))
 (he:FP (e::es) X.env=(false,eval e X.env)::FP es X.env) (q:(IC pos (FP es X.env)).any (·.1)=false):PE X (.Call (.Name x p) (e::es) [] pos) (lE X.K (wAr (Φ f) t)):=by
 obtain ⟨a,fd,ps,hm,_,J,L,F⟩:=G.fns f x hf;refine PE.imp (zo F G.room z hm J L .nil yx B j he q) fun σ H Q h => ?_;have h2:=ba (G.mono f) mt σ H Q h;have:(fun vs H1=>lSp X.K (Φ f) (vs++[]) H1 Q E0)=fun vs H1=>lR X.K (Φ f) vs H1 Q:=by
  funext vs H1;rw [H0];rfl
 show (lA X.K t) σ H _;rw [this];exact h2
theorem xU (G:Good C Φ k X) {f:Nat} {x:Str} {p pos:Pos} (hf:C.Γ[f]? = some x) (z:Gl X x) (j:(x==("__debug__":Str))=false):PE X (.Call (.Name x p) [] [] pos) (lE X.K (wAr (Φ f) bW)):=by
 obtain ⟨a,fd,ps,hm,_,B,J,F⟩:=G.fns f x hf;refine PE.imp (wm F G.room z hm B J .nil yx j) fun σ H Q h => ?_;obtain ⟨ρ,M,rs,rm,q⟩:=h;exact ⟨[],M,rm,RDs.nil,q⟩
theorem ic {env:Env} {pos:Pos}:∀ {es:List Expr},es.all aM=true->(IC pos (FP es env)).any (·.1)=false
 | [],_=>rfl
 | e::es,h=>by
   simp only [Iu,hG] at h;rw [aj h.1];show (false || (IC pos (FP es env)).any (·.1))=false
   rw [ic h.2];rfl
theorem fQ:∀ {ms:MEs} {es:List Expr},okEs ms C es=true->es.all aM=true
 | .nil,[],_=>rfl
 | .nil,_::_,h=>by simp [okEs] at h
 | .cons m r,[],h=>by simp [okEs] at h
 | .cons m r,e::es,h=>by
  simp only [okEs,hG] at h;simp only [Iu,hG];exact ⟨h.1.1,fQ h.2⟩
theorem qq:∀ {gs:MGs} {es:List Expr},okGs gs C es=true -> ∀ ds ρ ρ',bGs gs ds ρ = some ρ'->ds.length=es.length
 | .nil,es,h,ds, ρ, ρ',e=>by
  simp [okGs] at h;subst h;rw [bGs] at e
  cases ds with
  | nil=>rfl
  | cons _ _=>cases e
 | .cons g r,[],h,_,_,_,_=>by simp [okGs] at h
 | .cons g r,x::es,h,ds, ρ, ρ',e=>by
  simp only [okGs,hG] at h;rw [bGs] at e
  cases ds with
  | nil=>cases e
  | cons d ds =>
    simp only [bM] at e
    cases e1:bG g d ρ with
    | none=>rw [e1] at e;cases e
    | some ρ1 =>
      rw [e1] at e;simp [qq h.2 ds ρ1 ρ' e]
theorem ot {env:Env}:∀ {gs:MGs} {es:List Expr},okGs gs C es=true->(Hk es env).length=es.length/\(Hk es env).findIdx? (·.1)=none
 | .nil,es,h=>by simp [okGs] at h;subst h;exact ⟨rfl,rfl⟩
 | .cons g r,[],h=>by simp [okGs] at h
 | .cons g r,x::es,h=>by
  simp only [okGs,hG] at h;obtain ⟨a,b⟩:=ot (env:=env) h.2;rw [lf h.1.1];refine ⟨by simp [a], ?_⟩
  rw [List.findIdx?_cons];simp [b]
mutual
theorem sG (G:Good C Φ k X):∀ (m:MG) (e:Expr),okG m C e=true->PG X e (lG X.K (bG m))
 | .name i,e,h=>by
  refine cy e h fun x _ h => ?_;simp only [hG] at h;exact zV G.nd (by rw [G.N];exact of_decide_eq_true h.1.1) (G.loc h.1.2) (G.own h.2)
 | .tup gs,e,h=>by
  refine dw e h fun es _ _ h => ?_;rw [bG];obtain ⟨a,b⟩:=ot (env:=X.env) h;exact BM G.calm (qq h) (sGs G gs _ h) a b
theorem sGs (G:Good C Φ k X):∀ (m:MGs) (es:List Expr),okGs m C es=true->PGs X es (lGs X.K (bGs m))
 | .nil,es,h=>by
  simp [okGs] at h;subst h;exact zW
 | .cons g r,[],h=>by simp [okGs] at h
 | .cons g r,e::es,h=>by
  simp only [okGs,hG] at h;exact xg (sG G g e h.1.2) (sGs G r es h.2) (by rw [lf h.1.1];rfl)
end
theorem PB.imp {F:Sem Fin->Sem Fin} {t t':TC} (h:PB X F t) (i:∀ σ H N,t' σ H N->t σ H N):PB X F t':=fun pins s σ H N k Q E I q hk=>h pins s σ H N k Q E I (i _ _ _ q) hk
theorem ee {sc osc:Scope} {oN N':List Str} {fr:List (Option Nat)} (h:sj sc osc oN N' fr=true):aH sc osc oN N' fr:=by
 simp only [sj,hG,decide_eq_true_eq] at h;obtain ⟨⟨⟨⟨⟨h1,h2⟩,F⟩,G⟩,J⟩,L⟩:=h;refine ⟨h1,h2,F,fun x hx e => ?_,J,fun i j x hi hf => ?_⟩
 ·have z:=JM.mp G x hx;rw [e] at z;simpa using z
 ·have B:i < N'.length:=(FN.mp hi).1;have q:=JM.mp L i (Kg.mpr B);rw [hf,hi] at q;simp only [hG,decide_eq_true_eq,I8] at q;obtain ⟨a,y,O,e⟩:=q;exact ⟨a,by rw [<- e];exact O⟩
theorem Good.blk (G:Good C Φ k X) {sc:Scope} {N':List Str} {fr:List (Option Nat)} (B:aH sc C.sc C.N N' fr) (s:h8) (H:Hp) (fp:List Addr) :
 Good ⟨C.Γ,N',bC sc C.sc,(sc.names.filter (·.2 == .cell)).map (·.1),C.cs⟩ Φ k (al X sc N' s H fp):=by
 refine ⟨fun _ _ h=>h,G.calm,rfl, ?_,B.ndN,fun x hx => ?_,G.room,G.mgB,G.fns,G.mono,G.cs⟩
 ·show relabel sc X.env=_;rw [pI,G.sc]
 ·obtain ⟨y,q,e⟩:=FI.mp hx;obtain ⟨h1,h2⟩:=G3.mp q;obtain ⟨n,kd⟩:=y;have j:kd = .cell:=by simpa using h2
  subst j;have e':n=x:=e;subst e';show (sc.names.lookup n==some .cell)=true;rw [aS B.nd h1];rfl
end
end
section
section
variable {Φ:Phi} {k:Nat}
theorem da {C:Ctx} {X:Cx} (G:Good C Φ k X) {F:Sem Fin->Sem Fin} {p:Addr} {tb:TCd} {ifs:List Expr} {ts:List TTd} (mb:b6 tb) (mt:∀ t∈ts,aE t) (j:PB X F (lC X.K p tb)) (q:Gn (fun c t=>PT X c t) ifs (ts.map (lT X.K))) :
 PB X (fun k=>aG ifs X.env >>= fun ok=>if ok=true then F k else k) (lC X.K p (bd ts tb)) :=
 PB.imp (gQ G.hx j q) (iY mb mt)
theorem fT {m:MC} {Cs C:Ctx} {g2:FO} {gs:List FO} {elt:Expr} (h:okC m Cs C (g2::gs) elt=true):g2.is_async=0:=by
 obtain ⟨t,i,f,a⟩:=g2
 cases m with
 | last src g ifs m =>
   cases gs with
   | nil=>simp only [okC,hG,decide_eq_true_eq] at h;exact h.1.1.1.1
   | cons _ _=>simp [okC] at h
 | more src g ifs rest =>
   cases gs with
   | nil=>simp [okC] at h
   | cons _ _=>simp only [okC,hG,decide_eq_true_eq] at h;exact h.1.1.1.1
theorem ie {C:Ctx} {X:Cx} (G:Good C Φ k X):∀ T∈["bool", "int", "str", "tuple", "list", "dict"],X.mg (q7 T)=none/\Hy (q7 T)=some (.type T)/\q7 T ≠ "__name__" /\ (q7 T==("__debug__":Str))=false:=by
 intro T j;simp only [Fx,FW,or_false] at j
 rcases j with rfl | rfl | rfl | rfl | rfl | rfl
 all_goals exact ⟨G.mgB _ (by decide),by decide +kernel,by decide,by decide⟩
mutual
theorem sE:∀ (m:ME) {C:Ctx} {X:Cx} (G:Good C Φ k X) (e:Expr),okE m C e=true->PE X e (lE X.K (wE Φ m))
 | .var i,C,X,G,e,h=>by
  refine cy e h fun x _ h => ?_;simp only [hG,Hf,decide_eq_true_eq] at h;exact Bu (by rw [G.N];exact h.1.1.1) (G.vis h.1.1.2) h.1.2 h.2
 | .int i,C,X,G,e,h=>by
  refine dJ e h fun c _ _ h => ?_;rw [of_decide_eq_true h];exact Bv
 | .bl i,C,X,G,e,h=>by
  refine dJ e h fun c _ _ h => ?_;rw [of_decide_eq_true h];exact D8
 | .non,C,X,G,e,h=>by
  refine dJ e h fun c _ _ h => ?_;rw [of_decide_eq_true h];exact Bw
 | .str i,C,X,G,e,h=>by
  refine dJ e h fun c _ _ h => ?_;rw [of_decide_eq_true h];exact By
 | .bin op a b,C,X,G,e,h=>by
  refine C2 e h fun l o r _ h => ?_;simp only [hG,decide_eq_true_eq] at h;rw [h.1.1];exact D9 (Ca G op) (oa op) (mE G.mono a) (mE G.mono b) (sE a G _ h.1.2) (sE b G _ h.2)
 | .neg a,C,X,G,e,h=>by
  refine i6 e h fun o x _ h => ?_;replace h:=bx h;obtain ⟨ho,h⟩:=h
  cases of_decide_eq_true ho
  exact Da wX mR (mE G.mono a) (sE a G _ h)
 | .cmp op a b,C,X,G,e,h=>by
  refine oi e h fun l os rs pos h => ?_;refine bY os h fun o h => ?_;refine bY rs h fun r h => ?_;simp only [hG,decide_eq_true_eq] at h;obtain ⟨⟨⟨ho,Z⟩,hb⟩,hm⟩:=h;rw [Hf] at hm;subst ho;exact Bz (qp G op) (eZ op) (mE G.mono a) (mE G.mono b) (sE a G _ Z) (sE b G _ hb) hm
 | .and es,C,X,G,e,h=>by
  refine gx e h fun o xs _ h => ?_;replace h:=bx h;obtain ⟨ho,h⟩:=h;obtain ⟨ho,q⟩:=bx ho
  cases of_decide_eq_true ho
  exact sAnds es G _ _ h (by intro z;rw [z] at q;cases q)
 | .or es,C,X,G,e,h=>by
  refine gx e h fun o xs _ h => ?_;replace h:=bx h;obtain ⟨ho,h⟩:=h;obtain ⟨ho,q⟩:=bx ho
  cases of_decide_eq_true ho
  exact sOrs es G _ _ h (by intro z;rw [z] at q;cases q)
 | .not a,C,X,G,e,h=>by
  refine i6 e h fun o x _ h => ?_;replace h:=bx h;obtain ⟨ho,h⟩:=h
  cases of_decide_eq_true ho
  exact BK (mE G.mono a) (sE a G _ h)
 | .ite c a b,C,X,G,e,h=>by
  refine C3 e h fun t x y _ h => ?_;simp only [hG] at h;exact Dg (mT G.mono c) (mE G.mono a) (mE G.mono b) (sT c G _ h.1.1) (sE a G _ h.1.2) (sE b G _ h.2)
 | .tup es,C,X,G,e,h=>by
  refine dw e h fun xs _ _ h => ?_;exact BB (mA G.mono es) (sA es G _ h)
 | .lst es,C,X,G,e,h=>by
  refine Ds e h fun xs _ h => ?_;exact BC (mA G.mono es) (sA es G _ h)
 | .ix a b,C,X,G,e,h=>by
  refine cS e h fun x y _ h => ?_;simp only [hG] at h;exact Db (E7 (by have:=G.units;lia)) pY (mE G.mono a) (mE G.mono b) (sE a G _ h.1.2) (sE b G _ h.2) (xT h.1.1)
 | .sl a lo hi,C,X,G,e,h=>by
  refine jSl e h fun x l u s p pos h => ?_;refine jon s h fun  h => ?_;simp only [hG] at h;exact Dh (mE G.mono a) (mO G.mono lo) (mO G.mono hi) (sE a G _ h.1.1) (sO lo G _ h.1.2) (sO hi G _ h.2)
 | .call f es,C,X,G,e,h=>by
  refine ck e h fun x xs p pos h => ?_;simp only [hG,decide_eq_true_eq,Hf] at h;have hA:=sA es G _ h.2;have J:=fQ h.2
  cases xs with
  | nil =>
    cases es with
    | nil=>exact xU G h.1.1.1 (G.gl h.1.1.2) h.1.2
    | cons _ _=>simp [okEs] at h
  | cons y ys =>
    simp only [Iu,hG] at J;exact Am G (mA G.mono es) h.1.1.1 (G.gl h.1.1.2) h.1.2 hA (aj J.1) (ic J.2)
 | .blt f es,C,X,G,e,h=>by
  refine ck e h fun x xs p pos h => ?_;simp only [hG,decide_eq_true_eq,Hf] at h;have hA:=sA es G _ h.2;have J:=fQ h.2;obtain ⟨⟨⟨rfl,O⟩,q⟩,_⟩:=h
  cases xs with
  | nil=>simp at q
  | cons y ys =>
    simp only [Iu,hG] at J;exact Cb G (mA G.mono es) (G.gl O) hA (aj J.1) (ic J.2)
 | .dnew t,C,X,G,e,h=>by
  refine Dt e h fun ks vs _ h => ?_;refine i9 ks h fun  h => ?_;refine i9 vs h fun  h => ?_;exact A5
 | .popk o k',C,X,G,e,h=>by
  refine yR e h fun y n xs ap cp h => ?_;refine bY xs h fun e1 h => ?_;simp only [hG,decide_eq_true_eq] at h;obtain ⟨⟨⟨⟨⟨rfl,Y⟩,hl⟩,Eh⟩,ho⟩,hk⟩:=h;have st:FP [e1] X.env=[(false,eval e1 X.env)]:=by
   rw [aj Eh];rfl
  refine Ah (mE G.mono o) (mE G.mono k') (sE o G _ ho) (sE k' G _ hk) ⟨dy Y, ?_,hl, ?_⟩
  ·rw [st];rfl
  ·rw [st];rfl
 | .lrng a,C,X,G,e,h=>by
  refine ck e h fun x xs p pos h => ?_;refine bY xs h fun w h => ?_;refine ck w h fun z ys p2 Em h => ?_;refine bY ys h fun y h => ?_;simp only [hG,decide_eq_true_eq] at h;obtain ⟨⟨⟨⟨⟨rfl,O⟩,rfl⟩,L⟩,hs⟩,Z⟩:=h;exact zA (mE G.mono a) G.calm (sE a G _ Z) (G.gl O) (G.mgB _ (by decide)) (G.gl L) (G.mgB _ (by decide)) (aj hs)
 | .isin2 a T U,C,X,G,e,h=>by
  refine ck e h fun x xs p pos h => ?_;refine jO xs h fun y w h => ?_;refine dw w h fun ws k1 p1 h => ?_;refine jO ws h fun z' v' h => ?_;refine cy z' h fun z p2 h => ?_;refine cy v' h fun v p3 h => ?_;simp only [hG,decide_eq_true_eq] at h;obtain ⟨⟨⟨⟨⟨⟨⟨⟨⟨rfl,O⟩,L⟩,Ei⟩,hz⟩,hy⟩,hT⟩,hU⟩,hs⟩,Z⟩:=h;obtain ⟨n1,n2,n3,n4⟩:=ie G T hT;obtain ⟨m1,m2,m3,m4⟩:=ie G U hU;subst hz hy;exact xE hT hU (mE G.mono a) (sE a G _ Z) (G.gl O) (G.mgB _ (by decide)) (G.gl L) n1 n2 n3 n4 (G.gl Ei) m1 m2 m3 m4 (aj hs)
 | .isin a T,C,X,G,e,h=>by
  refine ck e h fun x xs p pos h => ?_;refine jO xs h fun y w h => ?_;refine cy w h fun z p2 h => ?_;simp only [hG,decide_eq_true_eq] at h;obtain ⟨⟨⟨⟨⟨⟨rfl,O⟩,L⟩,hz⟩,hT⟩,hs⟩,Z⟩:=h;obtain ⟨n1,n2,n3,n4⟩:=ie G T hT;subst hz;exact zT hT (mE G.mono a) (sE a G _ Z) (G.gl O) (G.mgB _ (by decide)) (G.gl L) n1 n2 n3 n4 (aj hs) rfl
 | .meth m o a,C,X,G,e,h=>by
  refine yR e h fun x n xs ap cp h => ?_;refine bY xs h fun y h => ?_;simp only [hG,decide_eq_true_eq] at h;obtain ⟨⟨⟨⟨⟨hn,Y⟩,hl⟩,hs⟩,ho⟩,Z⟩:=h;subst hn;have pa:PA X [y] (lA X.K (b5 (wE Φ a) bW)):=bL (mE G.mono a) az (sE a G _ Z) dW (aj hs);have few:((IC cp (FP [y] X.env)).all (fun x => !x.1)&&(Ot cp (LJ [] X.env)).all (fun x=>x.1.isSome)&&decide (([y]:List Expr).length+([]:List K8).length+(if ([]:List K8).isEmpty then 0 else 1) < 30))=true:=by
   rw [aj hs];rfl
  cases m with
  | append=>exact PE.imp (lJ I9 PySem.F.slot_list_append PySem.F.type_list_append ku (sE o G _ ho) pa (dy Y) few hl (aj hs) rfl) (gh gJ (mE G.mono o) (am (mE G.mono a) az) xc)
  | extend=>exact PE.imp (lJ I9 PySem.F.slot_list_extend PySem.F.type_list_extend tJ (sE o G _ ho) pa (dy Y) few hl (aj hs) rfl) (gh gK (mE G.mono o) (am (mE G.mono a) az) xf)
  | pop=>exact PE.imp (lJ I9 PySem.F.slot_list_pop PySem.F.type_list_pop wq (sE o G _ ho) pa (dy Y) few hl (aj hs) rfl) (gh jh (mE G.mono o) (am (mE G.mono a) az) Ag)
  | remove=>exact PE.imp (lJ I9 KQ PySem.F.type_list_remove uO (sE o G _ ho) pa (dy Y) few hl (aj hs) rfl) (gh gM (mE G.mono o) (am (mE G.mono a) az) xK)
 | .dcomp2 fr N' src g j g2 k v,C,X,G,e,h=>by
  refine v5 e h fun ek ev gs sc pos h => ?_;refine jO gs h fun ⟨t,it,fs,a⟩ ⟨t2,Ef,Ej,a2⟩ h => ?_;simp only [hG,decide_eq_true_eq] at h;obtain ⟨⟨⟨⟨⟨⟨⟨⟨⟨⟨hb,rfl⟩,rfl⟩,hf⟩,Ek⟩,hi⟩,O⟩,Eg⟩,L⟩,hk⟩,hv⟩:=h;obtain rfl:fs=[]:=L9.mp hf;obtain rfl:Ej=[]:=L9.mp Ek;have B:aH sc X.env.scope X.N N' fr:=by rw [G.sc,G.N];exact ee hb
  have B':aH sc C.sc C.N N' fr:=ee hb;have me:=jc (mE G.mono k) (mE G.mono v);refine PE.imp (p9 (rest := [⟨t2,Ef,[],0⟩]) G.calm G.hx B (fun g' z=>by simp at z;rw [<- z]) (sI src G _ t hi).1 (fun s H fp=>sG (G.blk B' s H fp) g t O) (tb:=fun p=>lCD X.K p (bv (wI Φ j) (bG g2) (dv (wE Φ k) (wE Φ v)))) (fun s H fp p => ?_) (sI src G _ t hi).2) (rW (mI G.mono src) (cw (mI G.mono j) me))
  have G':=G.blk B' s H fp;refine PB.imp (gQ G'.hx (rj G'.hx G'.calm (d := 0) (target:=t2) (iter:=Ef) (ifs := []) rfl (fun g' z=>by simp at z) (sI j G' _ t2 Eg).1 (sG G' g2 t2 L) (PB.imp (gQ G'.hx (wz G'.hx (sE k G' ek hk) (sE v G' ev hv) rfl) .nil) (rV (p:=p) (mE G.mono k) (mE G.mono v))) (sI j G' _ t2 Eg).2) .nil) (nX (mI G.mono j) me)
 | .comp fr N' c,C,X,G,e,h=>by
  refine v4 e h fun elt gens sc pos h => ?_;simp only [hG] at h;have B:aH sc X.env.scope X.N N' fr:=by rw [G.sc,G.N];exact ee h.1
  have B':aH sc C.sc C.N N' fr:=ee h.1
  cases c with
  | last src g ifs m =>
    have h2:=h.2;simp only [okC] at h2
    split at h2
    ·rename_i t it fs a;simp only [hG,decide_eq_true_eq] at h2;obtain ⟨⟨⟨⟨rfl,hi⟩,O⟩,ht⟩,he⟩:=h2;refine PE.imp (gH G.calm G.hx B (fun g' z=>by simp at z) (sI src G _ t hi).1 (fun s H fp=>sG (G.blk B' s H fp) g t O) (tb:=fun p=>lC X.K p (bd (wTl Φ ifs) (dE (wE Φ m)))) (fun s H fp p => ?_) (sI src G _ t hi).2) (dG (mI G.mono src) (aK (bm (mE G.mono m)) (mTl G.mono ifs)))
     have G':=G.blk B' s H fp;exact da (p:=p) G' (bm (mE G.mono m)) (mTl G.mono ifs) (PB.imp (jB G'.hx (sE m G' elt he) rfl) (fG (mE G.mono m))) (sTl ifs G' fs ht)
    ·cases h2
  | more src g ifs rest =>
    have h2:=h.2;simp only [okC] at h2
    split at h2
    ·rename_i t it fs a g2 gs;simp only [hG,decide_eq_true_eq] at h2;obtain ⟨⟨⟨⟨rfl,hi⟩,O⟩,ht⟩,he⟩:=h2;have El:∀ g',(g2::gs)[0]? = some g'->g'.is_async=0:=fun g' z=>by
      have z':g2=g':=by simpa using z
      subst z';exact fT he
     refine PE.imp (gH G.calm G.hx B El (sI src G _ t hi).1 (fun s H fp=>sG (G.blk B' s H fp) g t O) (tb:=fun p=>lC X.K p (bd (wTl Φ ifs) (wCl Φ rest))) (fun s H fp p => ?_) (sI src G _ t hi).2) (dG (mI G.mono src) (aK (mCl G.mono rest) (mTl G.mono ifs)));have G':=G.blk B' s H fp;exact da (p:=p) G' (mCl G.mono rest) (mTl G.mono ifs) (sCl rest G' elt (⟨t,it,fs,0⟩::g2::gs) sc pos 0 (.inl rfl) p he) (sTl ifs G' fs ht)
    ·cases h2
theorem sA:∀ (m:MEs) {C:Ctx} {X:Cx} (G:Good C Φ k X) (es:List Expr),okEs m C es=true->PA X es (lA X.K (wA Φ m))
 | .nil,C,X,G,es,h=>by
  simp [okEs] at h;subst h;exact dW
 | .cons m r,C,X,G,[],h=>by simp [okEs] at h
 | .cons m r,C,X,G,e::es,h=>by
  simp only [okEs,hG] at h;exact bL (mE G.mono m) (mA G.mono r) (sE m G e h.1.2) (sA r G es h.2) (aj h.1.1)
theorem sAnds:∀ (m:MEs) {C:Ctx} {X:Cx} (G:Good C Φ k X) (es:List Expr) (pos:Pos),okEs m C es=true->es≠[]->PE X (.BoolOp .And es pos) (lE X.K (wAnds Φ m))
 | .nil,C,X,G,es,pos,h,j=>by simp [okEs] at h;exact absurd h j
 | .cons m r,C,X,G,[],pos,h,j=>absurd rfl j
 | .cons m .nil,C,X,G,e::es,pos,h,_=>by
  simp only [okEs,hG] at h;obtain ⟨h1,h2⟩:=h;simp at h2;subst h2;exact uc (sE m G e h1.2)
 | .cons m (.cons m2 r),C,X,G,e::es,pos,h,_=>by
  simp only [okEs,hG] at h;obtain ⟨h1,h2⟩:=h
  cases es with
  | nil=>simp at h2
  | cons f fs =>
    exact BJ (mE G.mono m) (mAnds G.mono _) (sE m G e h1.2) (sAnds (.cons m2 r) G (f::fs) pos (by simpa only [okEs,hG] using h2) (by simp))
theorem sOrs:∀ (m:MEs) {C:Ctx} {X:Cx} (G:Good C Φ k X) (es:List Expr) (pos:Pos),okEs m C es=true->es≠[]->PE X (.BoolOp .Or es pos) (lE X.K (wOrs Φ m))
 | .nil,C,X,G,es,pos,h,j=>by simp [okEs] at h;exact absurd h j
 | .cons m r,C,X,G,[],pos,h,j=>absurd rfl j
 | .cons m .nil,C,X,G,e::es,pos,h,_=>by
  simp only [okEs,hG] at h;obtain ⟨h1,h2⟩:=h;simp at h2;subst h2;exact uc (sE m G e h1.2)
 | .cons m (.cons m2 r),C,X,G,e::es,pos,h,_=>by
  simp only [okEs,hG] at h;obtain ⟨h1,h2⟩:=h
  cases es with
  | nil=>simp at h2
  | cons f fs =>
    exact Df (mE G.mono m) (mOrs G.mono _) (sE m G e h1.2) (sOrs (.cons m2 r) G (f::fs) pos (by simpa only [okEs,hG] using h2) (by simp))
theorem sO:∀ (m:MO) {C:Ctx} {X:Cx} (G:Good C Φ k X) (e:Option Expr),okO m C e=true->PO X e (lO X.K (wO Φ m))
 | .none,C,X,G,e,h=>by
  simp [okO] at h;subst h;exact zQ
 | .some m,C,X,G,none,h=>by simp [okO] at h
 | .some m,C,X,G,some e,h=>by
  simp only [okO] at h;exact zR (mE G.mono m) (sE m G e h)
theorem sT:∀ (m:MT) {C:Ctx} {X:Cx} (G:Good C Φ k X) (e:Expr),okT m C e=true->PT X e (lT X.K (wT Φ m))
 | .tru m,C,X,G,e,h=>by
  simp only [okT,hG] at h;exact BE (mE G.mono m) (sE m G e h.2) (sC h.1)
 | .cmp op a b,C,X,G,e,h=>by
  refine oi e h fun l os rs pos h => ?_;refine bY os h fun o h => ?_;refine bY rs h fun r h => ?_;simp only [hG,decide_eq_true_eq] at h;obtain ⟨⟨⟨ho,q⟩,B⟩,hm⟩:=h;rw [Hf] at hm;subst ho;exact BA (qp G op) (eZ op) (mE G.mono a) (mE G.mono b) (sE a G _ q) (sE b G _ B) hm
 | .and ts,C,X,G,e,h=>by
  refine gx e h fun o xs _ h => ?_;replace h:=bx h;obtain ⟨ho,h⟩:=h;obtain ⟨ho,j⟩:=bx ho
  cases of_decide_eq_true ho
  exact (sAndTs ts G _ _ h (by intro z;rw [z] at j;cases j)).pt
 | .or ts,C,X,G,e,h=>by
  refine gx e h fun o xs _ h => ?_;replace h:=bx h;obtain ⟨ho,h⟩:=h;obtain ⟨ho,j⟩:=bx ho
  cases of_decide_eq_true ho
  exact (sOrTs ts G _ _ h (by intro z;rw [z] at j;cases j)).pt
 | .not t,C,X,G,e,h=>by
  refine i6 e h fun o x _ h => ?_;replace h:=bx h;obtain ⟨ho,h⟩:=h
  cases of_decide_eq_true ho
  exact BG (mT G.mono t) (sT t G _ h)
theorem sAndTs:∀ (m:MTs) {C:Ctx} {X:Cx} (G:Good C Φ k X) (es:List Expr) (pos:Pos),okTs m C es=true->es≠[]->PW X (.BoolOp .And es pos) (lT X.K (wAndTs Φ m))
 | .nil,C,X,G,es,pos,h,j=>by simp [okTs] at h;exact absurd h j
 | .cons m r,C,X,G,[],pos,h,j=>absurd rfl j
 | .cons m .nil,C,X,G,e::es,pos,h,_=>by
  simp only [okTs,hG] at h;obtain ⟨h1,h2⟩:=h;simp at h2;subst h2;exact zO (sT m G e h1)
 | .cons m (.cons m2 r),C,X,G,e::es,pos,h,_=>by
  simp only [okTs,hG] at h;obtain ⟨h1,h2⟩:=h
  cases es with
  | nil=>simp at h2
  | cons f fs =>
    exact BI (mT G.mono m) (mAndTs G.mono _) (sT m G e h1) (sAndTs (.cons m2 r) G (f::fs) pos (by simpa only [okTs,hG] using h2) (by simp))
theorem sOrTs:∀ (m:MTs) {C:Ctx} {X:Cx} (G:Good C Φ k X) (es:List Expr) (pos:Pos),okTs m C es=true->es≠[]->PW X (.BoolOp .Or es pos) (lT X.K (wOrTs Φ m))
 | .nil,C,X,G,es,pos,h,j=>by simp [okTs] at h;exact absurd h j
 | .cons m r,C,X,G,[],pos,h,j=>absurd rfl j
 | .cons m .nil,C,X,G,e::es,pos,h,_=>by
  simp only [okTs,hG] at h;obtain ⟨h1,h2⟩:=h;simp at h2;subst h2;exact BH (sT m G e h1)
 | .cons m (.cons m2 r),C,X,G,e::es,pos,h,_=>by
  simp only [okTs,hG] at h;obtain ⟨h1,h2⟩:=h
  cases es with
  | nil=>simp at h2
  | cons f fs =>
    exact De (mT G.mono m) (mOrTs G.mono _) (sT m G e h1) (sOrTs (.cons m2 r) G (f::fs) pos (by simpa only [okTs,hG] using h2) (by simp))
theorem sTl:∀ (m:MTs) {C:Ctx} {X:Cx} (G:Good C Φ k X) (es:List Expr),okTs m C es=true->Gn (fun c t=>PT X c t) es ((wTl Φ m).map (lT X.K))
 | .nil,C,X,G,es,h=>by
  simp [okTs] at h;subst h;exact .nil
 | .cons m r,C,X,G,[],h=>by simp [okTs] at h
 | .cons m r,C,X,G,e::es,h=>by
  simp only [okTs,hG] at h;exact .cons (sT m G e h.1) (sTl r G es h.2)
theorem sI:∀ (m:MI) {C:Ctx} {X:Cx} (G:Good C Φ k X) (e tg:Expr),okI m C tg e=true->PI X tg e (lI X.K (wI Φ m)) /\ ∀ x,GI e X.env x=pure x
 | .seq m,C,X,G,e,tg,h=>by
  simp only [okI,hG] at h;exact ⟨BP (mE G.mono m) (sE m G e h.2),v8 h.1⟩
 | .rng1 a,C,X,G,e,tg,h=>by
  refine ck e h fun x xs p pos h => ?_;refine bY xs h fun y h => ?_;simp only [hG,decide_eq_true_eq] at h;obtain ⟨⟨⟨rfl,q⟩,hs⟩,B⟩:=h;exact ⟨zX (am (mE G.mono a) az) (G.gl q) (G.mgB _ (by decide)) (bL (mE G.mono a) az (sE a G _ B) dW (aj hs)) (aj hs),fun x=>rfl⟩
 | .enum a,C,X,G,e,tg,h=>by
  refine ck e h fun x xs p pos h => ?_;refine bY xs h fun y h => ?_;refine dw tg h fun ts kt pt h => ?_;simp only [hG,decide_eq_true_eq] at h;obtain ⟨⟨⟨rfl,q⟩,hs⟩,B⟩:=h;exact ⟨zY (mE G.mono a) (G.gl q) (G.mgB _ (by decide)) (bL (mE G.mono a) az (sE a G _ B) dW (aj hs)) (aj hs),fun x=>rfl⟩
 | .zip a b,C,X,G,e,tg,h=>by
  refine ck e h fun x xs p pos h => ?_;refine jO xs h fun y z h => ?_;refine dw tg h fun ts kt pt h => ?_;simp only [hG,decide_eq_true_eq] at h;obtain ⟨⟨⟨⟨⟨rfl,q⟩,hs⟩,j⟩,B⟩,F⟩:=h;exact ⟨BS (mE G.mono a) (mE G.mono b) (G.gl q) (G.mgB _ (by decide)) (bL (mE G.mono a) (am (mE G.mono b) az) (sE a G _ B) (bL (mE G.mono b) az (sE b G _ F) dW (aj j)) (aj hs)) (by rw [aj hs,aj j];rfl) (aj j),fun x=>rfl⟩
theorem sCl:∀ (m:MC) {C:Ctx} {X:Cx} (G:Good C Φ k X) (elt:Expr) (gens:List FO) (sc:Scope) (pos:Pos) (d:Nat) (_:d=0∨d=d) (p:Addr),okC m C C (gens.drop (d+1)) elt=true ->
 PB X (aW elt gens sc pos d (.ref p) X.env) (lC X.K p (wCl Φ m))
 | .last src g ifs m,C,X,G,elt,gens,sc,pos,d,_,p,h=>by
  simp only [okC] at h
  split at h
  ·rename_i t it fs a hd;simp only [hG,decide_eq_true_eq] at h;obtain ⟨⟨⟨⟨rfl,hi⟩,q⟩,B⟩,he⟩:=h;have F:gens[d+1]? = some ⟨t,it,fs,0⟩:=by
    have z:(gens.drop (d+1))[0]? = some ⟨t,it,fs,0⟩:=by rw [hd];rfl
    rw [Jb] at z;simpa using z
   have j:gens[d+1+1]? = none:=by
    have z:(gens.drop (d+1))[1]? = none:=by rw [hd];rfl
    rw [Jb] at z;simpa using z
   refine PB.imp (kA G.hx G.calm F (fun g' z=>by rw [j] at z;cases z) (sI src G _ t hi).1 (sG G g t q) (da (p:=p) G (bm (mE G.mono m)) (mTl G.mono ifs) (PB.imp (jB G.hx (sE m G elt he) j) (fG (mE G.mono m))) (sTl ifs G fs B)) (sI src G _ t hi).2) (gL (mI G.mono src) (aK (bm (mE G.mono m)) (mTl G.mono ifs)))
  ·cases h
 | .more src g ifs rest,C,X,G,elt,gens,sc,pos,d,_,p,h=>by
  simp only [okC] at h
  split at h
  ·rename_i t it fs a g2 gs hd;simp only [hG,decide_eq_true_eq] at h;obtain ⟨⟨⟨⟨rfl,hi⟩,q⟩,B⟩,he⟩:=h;have F:gens[d+1]? = some ⟨t,it,fs,0⟩:=by
    have z:(gens.drop (d+1))[0]? = some ⟨t,it,fs,0⟩:=by rw [hd];rfl
    rw [Jb] at z;simpa using z
   have j:gens[d+1+1]? = some g2:=by
    have z:(gens.drop (d+1))[1]? = some g2:=by rw [hd];rfl
    rw [Jb] at z;simpa using z
   have L:gens.drop (d+1+1)=g2::gs:=by
    have z:(gens.drop (d+1)).drop 1=g2::gs:=by rw [hd];rfl
    rw [List.drop_drop] at z;simpa using z
   have J:∀ g',gens[d+1+1]? = some g'->g'.is_async=0:=fun g' z=>by
    rw [j] at z;cases z;exact fT he
   refine PB.imp (kA G.hx G.calm F J (sI src G _ t hi).1 (sG G g t q) (da (p:=p) G (mCl G.mono rest) (mTl G.mono ifs) (sCl rest G elt gens sc pos (d+1) (.inr rfl) p (by rw [L];exact he)) (sTl ifs G fs B)) (sI src G _ t hi).2) (gL (mI G.mono src) (aK (mCl G.mono rest) (mTl G.mono ifs)))
  ·cases h
end
end
end
section
section
variable {Φ:Phi} {k:Nat} {C:Ctx} {X:Cx}
theorem xV {sc:Scope} {ts vs:List Expr} {kk j:Nat} {pp p2:Pos} {env:Env} (hs:env.scope=sc) (q:sc.kind = .function) (h:sx sc ts vs=true):HV [.Tuple ts kk pp] (.Tuple vs j p2) env=pure none:=by
 have z:env.blockKind = .function:=by unfold KS;rw [hs,q];rfl
 have h':sx sc ts vs=true:=h;unfold HV;dsimp only;rw [z]
 by_cases c1:(!(ts.length==2 || ts.length==3) || vs.length != ts.length)=true
 ·simp only [c1,Bool.true_or,if_true]
 ·simp only [JG] at c1;rw [c1];simp only [JN,bne_self_eq_false,Hl,if_false]
  split
  ·rfl
  ·
    generalize B:List.filterMap _ ts=L;obtain rfl:L=aV sc ts:=by
     rw [<- B];unfold aV;congr 1
     funext x
     cases x <;> first | rfl | (unfold MW;rw [hs])
    unfold sx at h';rw [c1] at h';simp only [JN,Lw] at h'
    by_cases c3:((aV sc ts).length != ts.length || (aV sc ts).eraseDups.length != (aV sc ts).length)=true
    ·rw [if_pos c3]
    ·rw [if_neg c3];have F:vs.all (MA 8)=true:=by
      rcases h' with h' | h'
      ·exact absurd (Lw _ _ |>.mpr h') c3
      ·exact h'
     rw [if_pos F]
theorem An {sc:Scope} {ts vs:List Expr} {ns:List Str} {kk j:Nat} {pp p2:Pos} {env:Env} (hs:env.scope=sc) (q:sc.kind = .function) (h:sy sc ts vs ns=true):HV [.Tuple ts kk pp] (.Tuple vs j p2) env=pure (some ns):=by
 have B:env.blockKind = .function:=by unfold KS;rw [hs,q];rfl
 simp only [sy,hG,Hf,decide_eq_true_eq] at h;obtain ⟨⟨⟨⟨⟨F,G⟩,J⟩,O⟩,U⟩,Y⟩:=h;unfold HV;dsimp only;rw [B,F];simp only [JN,bne_self_eq_false,Hl,if_false]
 split
 ·next z=>exact absurd z (by rw [JG];exact G)
 ·generalize Z:List.filterMap _ ts=L;obtain rfl:L=aV sc ts:=by
   rw [<- Z];unfold aV;congr 1
   funext x
   cases x <;> first | rfl | (unfold MW;rw [hs])
  rw [O,U,Y,J];rfl
theorem jQ {C:Ctx} {i:Nat} {x:Str} (h:oo C i x=true):C.N[i]? = some x/\C.sc.names.lookup x=some .local:=by
 simpa [oo] using h
theorem db {tg e:Expr} {l:Nat} {env:Env} {b:Bool} (h:Jd e (some tg) l env=pure b):IV [tg] e l env=pure b:=by
 unfold IV;exact h
theorem Ao {sc:Scope} {tg e:Expr} {env:Env} (hs:env.scope=sc) (j:sc.kind = .function) (h:jk sc tg e=true):HV [tg] e env=pure none:=by
 cases tg with
 | Tuple ts kk pp =>
   cases e with
   | Tuple vs q p2=>exact xV hs j h
   | _=>rfl
 | _=>first | rfl | (simp [jk] at h;done)
theorem ou {elt:Expr} {gens:List FO} {s sc:Scope} {pos px:Pos} {x:Str} {l:Nat} {env:Env} (hs:env.scope=sc) (j:sc.kind = .function) :
 Jd (.ListComp elt gens s pos) (some (.Name x px)) l env=pure (sB sc x px (.ListComp elt gens s pos)):=by
 have q:env.blockKind = .function:=by unfold KS;rw [hs,j];rfl
 unfold Jd;dsimp only;rw [q];unfold sB MW;rw [hs];rfl
theorem v9 {ek ev:Expr} {gens:List FO} {s sc:Scope} {pos px:Pos} {x:Str} {l:Nat} {env:Env} (hs:env.scope=sc) (j:sc.kind = .function) :
 Jd (.DictComp ek ev gens s pos) (some (.Name x px)) l env=pure (sc.names.lookup x==some .local&&px.line==(KR ek ev gens s pos).pos.line && !(s.names.any fun (n,k)=>n==x&&(k == .local || k == .cell))):=by
 have q:env.blockKind = .function:=by unfold KS;rw [hs,j];rfl
 unfold Jd;dsimp only;rw [q];unfold MW;rw [hs];rfl
mutual
theorem sS:∀ (m:MS) (G:Good C Φ k X) (q:C.sc.kind = .function) (s:Stmt),okS m C s=true->PS X s (lS X.K (wS Φ m))
 | .asg g m,G,q,s,h=>by
  refine i8 s h fun ts e pos h1 => ?_;clear h;refine bY ts h1 fun tg h => ?_;clear h1;simp only [hG] at h;obtain ⟨⟨⟨F,he⟩,Y⟩,L⟩:=h;have hw:=Ao G.sc q Y;have pg:=sG G g tg F;have plain:IV [tg] e pos.line X.env=pure false->PS X (.Assign [tg] e pos) (lS X.K (gX (wE Φ m) (bG g))):=fun hs =>
   PS.imp (t8 (sE m G e he) pg hs hw (by cases tg <;> first | rfl | (simp [jk] at Y;done))) (xr (mE G.mono m))
  cases tg with
  | Tuple ts a b=>exact plain (db (jP L))
  | Name x px =>
    cases e with
    | ListComp elt gens sc cpos =>
      by_cases sw:sB C.sc x px (.ListComp elt gens sc cpos)=true
      ·cases g with
       | tup gs=>exact absurd F i4
       | name i =>
         cases m with
         | comp fr N' c =>
           replace he:=bx he;have B:aH sc X.env.scope X.N N' fr:=by rw [G.sc,G.N];exact ee he.1
           have B':aH sc C.sc C.N N' fr:=ee he.1;have Z:PG X (.Name x px) (iy i):=by
            have F:=bx F;have F:=Jh (bx F.1) F.2;exact pN G.nd (by rw [G.N];exact of_decide_eq_true F.1.1) (G.loc F.1.2) (G.own F.2)
           have Ef:∀ l,Jd (.ListComp elt gens sc cpos) (some (.Name x px)) l X.env=pure true:=fun l=>by rw [ou G.sc q,sw]
           have mc:=mCmp G.mono fr c
           cases c with
           | last src g ifs m =>
             have h2:=he.2;simp only [okC] at h2
             split at h2
             ·rename_i t it fs a;simp only [hG,decide_eq_true_eq] at h2;obtain ⟨⟨⟨⟨rfl,hi⟩,O⟩,ht⟩,J⟩:=h2;refine PS.imp (iK (i:=i) (g:=lG X.K (bG g)) (wi:=lI X.K (wI Φ src)) G.calm G.hx B (fun g' z=>by simp at z) (sI src G _ t hi).1 (fun s H fp=>sG (G.blk B' s H fp) g t O) (tb:=fun p=>lC X.K p (bd (wTl Φ ifs) (dE (wE Φ m)))) (fun s H fp p => ?_) (sI src G _ t hi).2 Z (Ef _)) fun D σ H h => ?_
              ·have G':=G.blk B' s H fp;exact da (p:=p) G' (bm (mE G.mono m)) (mTl G.mono ifs) (PB.imp (jB G'.hx (sE m G' elt J) rfl) (fG (mE G.mono m))) (sTl ifs G' fs ht)
              ·exact dG (mI G.mono src) (aK (bm (mE G.mono m)) (mTl G.mono ifs)) σ H _ (kJ mc D σ H h)
             ·cases h2
           | more src g ifs rest =>
             have h2:=he.2;simp only [okC] at h2
             split at h2
             ·rename_i t it fs a g2 gs;simp only [hG,decide_eq_true_eq] at h2;obtain ⟨⟨⟨⟨rfl,hi⟩,O⟩,ht⟩,J⟩:=h2;have Eg:∀ g',(g2::gs)[0]? = some g'->g'.is_async=0:=fun g' z=>by
               have z':g2=g':=by simpa using z
               subst z';exact fT J
              refine PS.imp (iK (i:=i) (g:=lG X.K (bG g)) (wi:=lI X.K (wI Φ src)) G.calm G.hx B Eg (sI src G _ t hi).1 (fun s H fp=>sG (G.blk B' s H fp) g t O) (tb:=fun p=>lC X.K p (bd (wTl Φ ifs) (wCl Φ rest))) (fun s H fp p => ?_) (sI src G _ t hi).2 Z (Ef _)) fun D σ H h => ?_
              ·have G':=G.blk B' s H fp;exact da (p:=p) G' (mCl G.mono rest) (mTl G.mono ifs) (sCl rest G' elt (⟨t,it,fs,0⟩::g2::gs) sc cpos 0 (.inl rfl) p J) (sTl ifs G' fs ht)
              ·exact dG (mI G.mono src) (aK (mCl G.mono rest) (mTl G.mono ifs)) σ H _ (kJ mc D σ H h)
             ·cases h2
         | _=>exact absurd he i4
      ·refine plain ?_;simp only [JG] at sw;refine db ?_;rw [ou G.sc q,sw]
    | SetComp _ _ _ _=>cases m <;> exact absurd he i4
    | DictComp _ _ _ _ _ =>
      refine plain (db ?_);rw [v9 G.sc q];unfold C9 at L;simp only [Hf] at L;rw [L]
    | _=>exact plain (db rfl)
  | _=>simp [jk] at Y
 | .par3 i j l a b c,G,q,s,h=>by
  refine i8 s h fun ts e pos h => ?_;refine bY ts h fun tg h => ?_;refine dw tg h fun ts k p h => ?_;refine dw e h fun es k' p' h => ?_;refine C8 ts h fun t u v h => ?_;refine C8 es h fun e f g h => ?_;refine cy t h fun x px h => ?_;refine cy u h fun y py h => ?_;refine cy v h fun z pz h => ?_;simp only [hG,decide_eq_true_eq] at h;obtain ⟨⟨⟨⟨⟨⟨⟨⟨⟨⟨⟨⟨hi,hj⟩,U⟩,Eh⟩,Ei⟩,Ej⟩,n1⟩,n2⟩,n3⟩,Y⟩,hb⟩,L⟩,hw⟩:=h;obtain ⟨i1,i2⟩:=jQ hi;obtain ⟨j1,j2⟩:=jQ hj;obtain ⟨l1,l2⟩:=jQ U;exact PS.imp (A0 G.calm G.nd (by rw [G.N];exact i1) (by rw [G.N];exact j1) (by rw [G.N];exact l1) Eh Ei Ej (by rw [G.sc];exact i2) (by rw [G.sc];exact j2) (by rw [G.sc];exact l2) (bL (mE G.mono a) (am (mE G.mono b) (am (mE G.mono c) az)) (sE a G _ Y) (bL (mE G.mono b) (am (mE G.mono c) az) (sE b G _ hb) (bL (mE G.mono c) az (sE c G _ L) dW (aj n3)) (aj n2)) (aj n1)) (An G.sc q hw) (db rfl)) (uz (am (mE G.mono a) (am (mE G.mono b) (am (mE G.mono c) az))))
 | .put o i m,G,q,s,h=>by
  refine i8 s h fun ts e pos h => ?_;refine bY ts h fun tg h => ?_;refine cS tg h fun x y tp h => ?_;simp only [hG] at h;obtain ⟨⟨⟨⟨Ek,L⟩,ho⟩,hi⟩,he⟩:=h;exact BV (by have:=G.units;lia) (mE G.mono m) (mE G.mono o) (mE G.mono i) (sE m G e he) (sE o G x ho) (sE i G y hi) (db (jP L)) rfl (fun v=>by cases y <;> first | rfl | (simp [e8] at Ek;done))
 | .aug i op m,G,q,s,h=>by
  refine pJ s h fun t o e pos h => ?_;refine cy t h fun x _ h => ?_;simp only [hG,decide_eq_true_eq] at h;obtain ⟨⟨⟨⟨⟨rfl,El⟩,hi⟩,U⟩,hf⟩,he⟩:=h
  cases op with
  | add=>exact j6 G.nd (by rw [G.N];exact hi) (G.loc U) (sE m G _ he) ut kK (mE G.mono m) (G.own hf)
  | sub=>exact j6 G.nd (by rw [G.N];exact hi) (G.loc U) (sE m G _ he) uu kL (mE G.mono m) (G.own hf)
  | ext=>exact j6 G.nd (by rw [G.N];exact hi) (G.loc U) (sE m G _ he) uV kY (mE G.mono m) (G.own hf)
  | mul=>exact j6 G.nd (by rw [G.N];exact hi) (G.loc U) (sE m G _ he) uw kM (mE G.mono m) (G.own hf)
  | _=>simp at El
 | .drop m,G,q,s,h=>by
  refine C5 s h fun e _ h => ?_;simp only [hG] at h;exact PS.imp (zg (sE m G _ h.2) (jP h.1)) (uq (mE G.mono m))
 | .ret m,G,q,s,h=>by
  refine xR s h fun o _ h => ?_;refine jos o h fun e h => ?_;rw [wS];exact PS.imp (B7 (sE m G _ h)) (xq (mE G.mono m))
 | .ite c a b,G,q,s,h=>by
  refine Eb s h fun t x y _ h => ?_;simp only [hG] at h;exact PS.imp (CJ (sT c G _ h.1.1) (sSs a G q _ h.1.2) (sSs b G q _ h.2)) (zZ (mT G.mono c))
 | .for g src b,G,q,s,h=>by
  refine Du s h fun tg it body els _ h => ?_;refine i9 els h fun  h => ?_;simp only [hG] at h;obtain ⟨⟨⟨hs,F⟩,hi⟩,hb⟩:=h;exact PS.imp (Bd (fun e s z=>(G.hx e s z).elim) G.calm (sI src G _ _ hi).1 (sG G g _ F) (sSs b G q _ hb) (v8 hs)) (xt (mI G.mono src) (mSs G.mono b))
 | .while c b,G,q,s,h=>by
  refine Ak s h fun t body els _ h => ?_;refine i9 els h fun  h => ?_;simp only [hG] at h;exact PS.imp (wc (fun e s z=>(G.hx e s z).elim) (sT c G _ h.1) (sSs b G q _ h.2)) (rM (mT G.mono c) (mSs G.mono b))
 | .delk o k,G,q,s,h=>by
  refine xQ s h fun ts pos h => ?_;refine bY ts h fun t h => ?_;refine cS t h fun x y tp h => ?_;simp only [hG] at h;exact Ai (mE G.mono o) (mE G.mono k) (sE o G x h.1) (sE k G y h.2)
 | .pass,G,q,s,h=>by
  refine C7 s h fun _ h => ?_;exact PS.imp zf kI
 | .brk,G,q,s,h=>by
  refine Al s h fun _ h => ?_;exact PS.imp wa rL
 | .cnt,G,q,s,h=>by
  refine su s h fun _ h => ?_;exact PS.imp p5 uo
theorem sSs:∀ (m:MSs) (G:Good C Φ k X) (j:C.sc.kind = .function) (s:List Stmt),okSs m C s=true->PSs X s (lS X.K (wSs Φ m))
 | .nil,G,j,s,h=>by
  simp [okSs] at h;subst h;exact PSs.imp ze kI
 | .cons m r,G,j,[],h=>by simp [okSs] at h
 | .cons m r,G,j,s::ss,h=>by
  simp only [okSs,hG] at h;exact PSs.imp (vZ (sS m G j s h.1) (sSs r G j ss h.2)) (xp (mS G.mono m) (mSs G.mono r))
end
end
end
section
structure FD where
 name:Str
 st:Stmt
 N:List Str
 np:Nat
 body:MSs
noncomputable def eg (N:List Str) (ds:List D):ak:=ds.map some++FA (N.length - ds.length) none
noncomputable def phi (T:List FD):Nat->Phi
 | 0=>fun _ _ _ _=>False
 | k+1=>fun f ds M Q => ∃ d,T[f]? = some d/\ds.length=d.np/\wSs (phi T k) d.body { nx:=fun _ M'=>Q .non M',rt:=Q } (eg d.N ds) M
theorem ii (T:List FD):∀ k f,aR (phi T k f)
 | 0,f=>fun _ _ _ _ _ q=>q.elim
 | k+1,f=>fun ds M Q Q' h ⟨d,e,l,q⟩=>⟨d,e,l,mSs (ii T k) d.body { nx:=fun _ M'=>Q .non M',rt:=Q } { nx:=fun _ M'=>Q' .non M',rt:=Q' } _ _ ⟨fun _ M' q'=>h _ _ q',h,fun _ _ z=>z,fun _ _ z=>z⟩ q⟩
noncomputable def sD (Γ:List Str) (cs:List (Str×D)) (d:FD):Bool :=
 decide ((ay d.st).kind = .function) && !(ay d.st).isCoroutine && !(ay d.st).isGenerator&&decide (d.N.Nodup)&&decide (d.np<=d.N.length)
  && (d.N.take d.np).all (fun x=>(ay d.st).names.lookup x==some .local || (ay d.st).names.lookup x==some .cell)
  && (ay d.st).names.all (fun y => !(y.2 == .free))&&okSs d.body ⟨Γ,d.N,ay d.st,d.N,cs⟩ (bJ d.st)
theorem xW {Γ:List Str} {cs:List (Str×D)} {d:FD} (h:sD Γ cs d=true):gc d.N (d.N.take d.np) (ay d.st)/\(d.N.take d.np).length=d.np/\okSs d.body ⟨Γ,d.N,ay d.st,d.N,cs⟩ (bJ d.st)=true:=by
 simp only [sD,hG,decide_eq_true_eq,Hf] at h;obtain ⟨⟨⟨⟨⟨⟨⟨h1,h2⟩,q⟩,B⟩,O⟩,F⟩,G⟩,J⟩:=h;have j:(d.N.take d.np).length=d.np:=by rw [G9];lia
 refine ⟨⟨h1,h2,q,B,by rw [j],fun x hx => ?_,fun y L e => ?_⟩,j,J⟩
 ·have z:=JM.mp F x hx;simpa using z
 ·have z:=JM.mp G y L;rw [e] at z;simp at z
section
variable {P:FR} {w:G7} {K:Frag} {mg:Str->Option e7} {base:Heap}
structure yS (K:Frag) (mg:Str->Option e7) (T:List FD) (cs:List (Str×D)):Prop where
 blt:∀ x∈bltNames,mg x=none
 fns:∀ (i:Nat) (d:FD),T[i]? = some d -> ∃ f fd,Fun K d.name d.name d.st f fd/\mg d.name=some (.ref f)/\Jr K GB d.name=some (some (.ref f))/\Binds K fd (d.N.take d.np) []
 ok:∀ d∈T,sD (T.map (·.name)) cs d=true
 cst:∀ x d,(x,d)∈cs -> ∃ u,mg x=some u/\GV K d u
theorem vc {T:List FD} {cs:List (Str×D)} (O:yS K mg T cs):∀ (k i:Nat) (d:FD) (f:Addr) (fd:ID),T[i]? = some d->Fun K d.name d.name d.st f fd->dj P w K mg base CX0 k f fd (d.N.take d.np) (lSp K (phi T k i))
 | 0,i,d,f,fd,e,F=>⟨fun vs H Q E h=>by obtain ⟨ds,M,_,_,q⟩:=h;exact q.elim,fun A outer s H args us vs Q E _ _ _ _ h=>by obtain ⟨ds,M,_,_,q⟩:=h;exact q.elim⟩
 | k+1,i,d,f,fd,e,F=>by
   obtain ⟨S,hl,hb⟩:=xW (O.ok d (FU e));refine F.ok S (fun vs H Q E h => ?_) fun cdv A outer s H vs Q E hr h => ?_
   ·obtain ⟨ds,M,rm,rs,d',e',l,q⟩:=h;rw [e] at e';cases e';rw [rs.length,l,hl]
   ·obtain ⟨ds,M,rm,rs,d',e',l,q⟩:=h;rw [e] at e';cases e';have G:Good ⟨T.map (·.name),d.N,ay d.st,d.N,cs⟩ (phi T k) k ((gO CX0 P w K mg base d.N d.name (ay d.st) f cdv A outer s H E).nox):=by
     refine ⟨fun _ _ z=>z,rfl,rfl,rfl,S.nd,fun _ _=>rfl,hr,O.blt,fun j x hx => ?_,ii T k,O.cst⟩;have B:(T.map (·.name))[j]? = some x:=hx;rw [FK] at B
     cases Y:T[j]? with
     | none=>rw [Y] at B;cases B
     | some d2 =>
       rw [Y] at B;cases B;obtain ⟨f2,U,Z,m2,n2,b2⟩:=O.fns j d2 Y;exact ⟨f2,U,_,m2,n2,Z.kp,b2,vc O k j d2 f2 U Y Z⟩
    refine ⟨_,sSs d.body G S.kind _ hb,eg d.N ds,M, { nx:=fun _ M'=>KE' K M H Q .non M',rt:=KE' K M H Q }, ?_,rm,⟨fun ρ M' σ H' x rs' rm' q' => ?_,fun d M' v H' x rm' rd' q'=>q' v H' x rm' rd',fun _ _ _ _ _ _ _ z=>z,fun _ _ _ _ _ _ _ z=>z⟩,q⟩
    ·refine ⟨by simp [cr,eg,rs.length],fun j dd J => ?_⟩
     unfold eg at J;unfold cr
     by_cases L:j < ds.length
     ·rw [FH (by simpa using L),FK] at J
      cases e3:ds[j]? with
      | none=>rw [e3] at J;cases J
      | some z =>
        rw [e3] at J;cases J;obtain ⟨v,hv,rv⟩:=rs.get e3;refine ⟨v, ?_,rv⟩;rw [FH (by rw [gV,rs.length];exact L),FK,hv];rfl
     ·rw [z4 (by simpa using L),KZ] at J
      split at J <;> cases J
    ·exact q' .non H' x rm' (OP.mpr rfl)
theorem Cc {T:List FD} {k i:Nat} {H:Hp} {a:Addr} {ns:List Int} (B:r9 H) (F:SqL K H a (ns.map V.int)) (h:phi T k i [.con (ns.map D.int)] (fun _=>none) fun d _=>d = .bl true) :
 lSp K (phi T k i) [.ref a] H (fun v _=>v = .bl true) fun _ _ _=>False:=by
 have j:RM K (fun _=>none) H:=fun _ _ z=>by cases z
 refine ⟨[.con (ns.map D.int)],fun _=>none,j,RDs.cons (OO.mpr ⟨a,ns.map V.int,rfl, ?_,RDs.ints ns⟩) RDs.nil,ii T k i [.con (ns.map D.int)] (fun _=>none) (fun d _=>d = .bl true) (KE' K (fun _=>none) H fun v _=>v = .bl true) (fun d M' e=>fun v H' x rm rd => ?_) h⟩
 ·rcases F with (z | ⟨o,z⟩) | z
  ·rcases B a with q | ⟨o,xs,q⟩
   ·rw [z] at q;cases q
   ·rw [z] at q;cases q
  ·exact .inl ⟨o,z⟩
  ·exact .inr z
 ·subst e;exact OL.mp rd
end
theorem cz (us:List e7) (h:us.length=1):∃ a,us=[a]:=List.length_eq_one_iff.mp h
theorem bV (us:List e7) (h:us.length=2):∃ a b,us=[a,b]:=by
 cases us with
 | nil=>cases h
 | cons a us=>obtain ⟨b,rfl⟩:=cz us (Nat.succ.inj h);exact ⟨a,b,rfl⟩
theorem mf (us:List e7) (h:us.length=3):∃ a b c,us=[a,b,c]:=by
 cases us with
 | nil=>cases h
 | cons a us=>obtain ⟨b,c,rfl⟩:=bV us (Nat.succ.inj h);exact ⟨a,b,c,rfl⟩
theorem Dv (us:List e7) (h:us.length=4):∃ a b c d,us=[a,b,c,d]:=by
 cases us with
 | nil=>cases h
 | cons a us=>obtain ⟨b,c,d,rfl⟩:=mf us (Nat.succ.inj h);exact ⟨a,b,c,d,rfl⟩
end
section
theorem Cd {T:List FD} {k f:Nat} {d:FD} {ds:List D} {M:Mem} {Q:QD} (e:T[f]? = some d) (l:ds.length=d.np) {ρ:ak} (r:eg d.N ds = ρ)
 (h:wSs (phi T k) d.body { nx:=fun _ M'=>Q .non M',rt:=Q } ρ M):phi T (k+1) f ds M Q:=⟨d,e,l,by rw [r];exact h⟩
theorem ar {T:List FD} {n f:Nat} {d:FD} {ds:List D} {M:Mem} {Q:QD} (j : 1<=n) (e:T[f]? = some d) (l:ds.length=d.np) {ρ:ak} (r:eg d.N ds = ρ)
 (h:wSs (phi T (n - 1)) d.body { nx:=fun _ M'=>Q .non M',rt:=Q } ρ M):phi T n f ds M Q:=by
 obtain ⟨k,rfl⟩:∃ k,n=k+1:=⟨n - 1,by lia⟩
 exact Cd e l r h
theorem Ap {Φ:Phi} {D:b3} {ρ:ak} {M:Mem}:wSs Φ .nil D ρ M=D.nx ρ M:=by rw [wSs];rfl
theorem cn {Φ:Phi} {s:MS} {r:MSs} {D:b3} {ρ:ak} {M:Mem}:wSs Φ (.cons s r) D ρ M=wS Φ s { D with nx:=wSs Φ r D } ρ M:=by rw [wSs];rfl
theorem qt {ds:List D} {y:D} {M:Mem} {Q:QD}:wIx (.tup ds) y M Q = ∃ i d,y = .int i/\atI ds i=some d/\Q d M:=rfl
theorem qu {ds:List D} {y:D} {M:Mem} {Q:QD}:wIx (.con ds) y M Q = ∃ i d,y = .int i/\atI ds i=some d/\Q d M:=rfl
theorem aN {a:Addr} {i:Int} {ds:List D} {d:D} {M:Mem} {Q:QD} (h:M a=some (.lst ds)) (e:atI ds i=some d) (q:Q d M):wIx (.ref a) (.int i) M Q := .inl ⟨ds,i,d,h,rfl,e,q⟩
theorem bD {a:Addr} {i:Int} {ds:List D} {v:D} {j:Nat} {M:Mem} {Q:Mem->Prop} (h:M a=some (.lst ds)) (e:ixN ds.length i=some j) (q:Q (ad M a (.lst (ds.set j v)))):gm (.ref a) (.int i) v M Q:=⟨a,rfl, .inl ⟨ds,i,j,rfl,h,e,q⟩⟩
theorem jR {a:Addr} {ds:List D} {M:Mem} {Q:QD} (h:M a=some (.lst ds)) (q:Q (.int ds.length) M):eU [.ref a] M Q:=⟨_,_,rfl,by simp only [gU,h],q⟩
theorem af {a:Addr} {ds:List D} {M:Mem} (h:M a=some (.lst ds)):au M (.ref a)=some ds:=by simp only [au,h]
theorem Ce {i:Int} {M:Mem} {Q:QD}:mY [.int i] M Q=Q (.int i) M:=by
 apply propext;constructor
 ·rintro (⟨j,e,q⟩ | ⟨k,e,q⟩)
  ·cases e;exact q
  ·cases e
 ·exact fun q => .inl ⟨i,rfl,q⟩
theorem Cf {b:Bool} {M:Mem} {Q:QD}:mY [.bl b] M Q=Q (.int (if b then 1 else 0)) M:=by
 apply propext;constructor
 ·rintro (⟨j,e,q⟩ | ⟨k,e,q⟩)
  ·cases e
  ·cases e;exact q
 ·exact fun q => .inr ⟨b,rfl,q⟩
theorem Dw {i j:Int} {M:Mem} {Q:QD}:wEq (.int i) (.int j) M Q=Q (.bl (i==j)) M:=by
 simp [wEq,rb,Gh]
theorem Dx {i j:Int} {M:Mem} {Q:QD}:wNe (.int i) (.int j) M Q=Q (.bl (!(i==j))) M:=by
 simp [wNe,rb,Gh]
theorem vd {i j:Int} {M:Mem} {Q:QD}:eT (.int i) (.int j) M Q=Q (.int (i+j)) M:=rfl
theorem ve {a b:List D} {M:Mem} {Q:QD}:eT (.tup a) (.tup b) M Q=((a≠[]∨True)/\a.length+b.length<=D0/\Q (.tup (a++b)) M):=rfl
theorem ow {a b:Addr} {M:Mem} {Q:QD}:eT (.ref a) (.ref b) M Q = ∃ xs ys,M a=some (.lst xs)/\M b=some (.lst ys)/\xs.length+ys.length<=D0 /\ ∀ p,M p=none->Q (.ref p) (ad M p (.lst (xs++ys))):=rfl
theorem vf {i j:Int} {M:Mem} {Q:QD}:rp (.int i) (.int j) M Q=Q (.int (i - j)) M:=rfl
theorem vg {i j:Int} {M:Mem} {Q:QD}:jF (.int i) (.int j) M Q=(MulOk i j/\Q (.int (i*j)) M):=rfl
theorem vh {ds:List D} {k:Int} {M:Mem} {Q:QD}:jF (.tup ds) (.int k) M Q=(-(2 ^ 63)<=k/\k < 2 ^ 63/\ds.length*k.toNat<=D0/\Q (.tup (FA k.toNat ds).flatten) M):=rfl
theorem qv {i j:Int} {M:Mem} {Q:QD}:lN (.int i) (.int j) M Q=(0 < j/\j < 2 ^ 256/\Q (.int (i / j)) M):=rfl
theorem vj {i j:Int} {M:Mem} {Q:QD}:rq (.int i) (.int j) M Q=(0 < j/\Q (.int (i % j)) M):=rfl
theorem vk {i j:Int} {M:Mem} {Q:QD}:rz (.int i) (.int j) M Q=(0<=j/\j<=1000000/\i.natAbs < 2 ^ 64/\Q (.int (i ^ j.toNat)) M):=rfl
theorem yT {i j:Int} {M:Mem} {Q:QD}:wLt (.int i) (.int j) M Q=Q (.bl (decide (i < j))) M:=rfl
theorem yU {i j:Int} {M:Mem} {Q:QD}:wLe (.int i) (.int j) M Q=Q (.bl (decide (i<=j))) M:=rfl
theorem sF {i j:Int} {M:Mem} {Q:QD}:wGt (.int i) (.int j) M Q=Q (.bl (decide (j < i))) M:=rfl
theorem yV {i j:Int} {M:Mem} {Q:QD}:wGe (.int i) (.int j) M Q=Q (.bl (decide (j<=i))) M:=rfl
theorem qw {i j:Int} {M:Mem} {Q:QD}:lV (.int i) (.int j) M Q=Q (.int (i+j)) M:=rfl
theorem qz {i j:Int} {M:Mem} {Q:QD}:lW (.int i) (.int j) M Q=Q (.int (i - j)) M:=rfl
theorem qA {i j:Int} {M:Mem} {Q:QD}:lX (.int i) (.int j) M Q=(MulOk i j/\Q (.int (i*j)) M):=rfl
theorem vm {i:Int} {M:Mem} {Q:QD}:rB (.int i) M Q=Q (.int (-i)) M:=rfl
theorem Cg {i:Int} {M:Mem} {Q:QD}:mX [.int i] M Q=Q (.int (if i < 0 then -i else i)) M:=by simp [mX]
theorem Aq {i j:Int} {M:Mem} {Q:QD}:lP [.int i, .int j] M Q=Q (.int (if j > i then j else i)) M:=by
 apply propext;constructor
 ·rintro ⟨a,b,e,q⟩;cases e;exact q
 ·exact fun q=>⟨i,j,rfl,q⟩
theorem Ar {i j:Int} {M:Mem} {Q:QD}:lQ [.int i, .int j] M Q=Q (.int (if j < i then j else i)) M:=by
 apply propext;constructor
 ·rintro ⟨a,b,e,q⟩;cases e;exact q
 ·exact fun q=>⟨i,j,rfl,q⟩
theorem Ch {ds:List D} {M:Mem} {Q:QD}:eU [.con ds] M Q=Q (.int ds.length) M:=by simp [eU,gU]
theorem Ci {ds:List D} {M:Mem} {Q:QD}:eU [.tup ds] M Q=Q (.int ds.length) M:=by simp [eU,gU]
theorem vp {ds:List D} {M:Mem}:au M (.tup ds)=some ds:=rfl
theorem vq {ds:List D} {M:Mem}:au M (.con ds)=some ds:=rfl
theorem yW {α:Sort _} {a b : α}:(if true=true then a else b)=a:=rfl
theorem yX {α:Sort _} {a b : α}:(if false=true then a else b)=b:=rfl
theorem As {ta tb:TEd} {ρ:ak} {M:Mem} {R:List D->(Mem->Prop)->Mem->Prop}:nA ta tb ρ M R=ta ρ M fun x M1=>tb ρ M1 fun y M2 => ∃ xs ys,au M2 x=some xs/\au M2 y=some ys/\R (Kc lU xs ys) (fun M=>au M x=some xs/\au M y=some ys) M2:=by
 unfold nA b5;congr 1;funext x M1;unfold bW;congr 1;funext y M2;apply propext;constructor
 ·rintro ⟨x',y',xs,ys,e,q⟩
  cases e;exact ⟨xs,ys,q⟩
 ·rintro ⟨xs,ys,q⟩;exact ⟨x,y,xs,ys,rfl,q⟩
theorem vt {x y:Str} {M:Mem} {Q:QD}:eT (.str x) (.str y) M Q=(x.length+y.length<=D0/\Q (.str (x++y)) M):=rfl
local macro_rules | `(tactic| walk_at "wp") => `(tactic| ((try dsimp only [wS,wE,wA,wAnds,wOrs,wO,wT,wAndTs,wOrTs,wTl,wI,wCl,wCmp,bG,bGs,opB,opC,opF,opM,C0,opI,dN,lY,lZ,yL,yJ,yK,uW,yM,ql,wC,wOp,wUn,bW,b5,wAr,eS,mM,jD,ni,iQ,iR,nj,iS,no,iT,wIf,dX,iU,wSl,iV,fO,iN,fN,dv,j7,wBM,bT,gW,bM,rH,ny,iX,iW,dE,bd,bv,gj,gR,gk,nD,fI,iZ,j5,nE,sIf,gX,nF,nG,fJ,nH,nI,vd,ve,vt,vf,vg,vh,qv,vj,vk,yT,yU,sF,yV,qw,qz,qA,vm,vp,vq,qt,qu,yW,yX,La,I7,MX,MY,JI,J4,NR,NS,NT,FL,Jq,Gj,Io]);(try simp only [wS,wE,wA,wAnds,wOrs,wO,wT,wAndTs,wOrTs,wTl,wI,wCl,wCmp,bG,bGs,opB,opC,opF,opM,C0,opI,dN,yK,uW,yJ,yL,yM,ql,wC,wOp,wUn,bW,b5,wAr,eS,mM,jD,ni,iQ,iR,nj,iS,no,iT,wIf,dX,iU,wSl,iV,fO,iN,fN,dv,j7,wBM,bT,gW,bM,rH,ny,As,iX,iW,dE,bd,bv,gj,gR,gk,nD,fI,iZ,j5,nE,sIf,gX,nF,nG,fJ,nH,nI,Ap,
 vd,ve,vt,vf,vg,vh,qv,vj,vk,yT,yU,sF,yV,qw,qz,qA,vm,Ce,Cf,Dw,Dx,Cg,Aq,Ar,Ch,Ci,vp,vq,qt,qu,yW,yX,Hl,if_false,if_true,
 La,I7,MX,MY,Nj,exists_eq_left',exists_eq_left,exists_eq_right,exists_and_left,exists_and_right,D.bl.injEq,D.int.injEq,D.ref.injEq,D.tup.injEq,JI,J4,NR,NS,NT,FL,Jq,decide_eq_true_eq,Lx,and_true,true_and,Gj,Io])))
local macro_rules | `(tactic| walk_at "st") => `(tactic| ((first | rw [cn] | (dsimp only;rw [cn]));walk_at "wp"))
theorem dz {a:Addr} {t:Bool} {kvs:List (D×D)} {k d:D} {M:Mem} {Q:QD} (h:M a=some (.dct t kvs)) (ok:eQ t k=true) (e:aI kvs k=some d) (q:Q d M):wIx (.ref a) k M Q := .inr (.inl ⟨t,kvs,d,h,ok,e,q⟩)
theorem ij {a:Addr} {t:Bool} {kvs:List (D×D)} {k v:D} {M:Mem} {Q:Mem->Prop} (h:M a=some (.dct t kvs)) (ok:eQ t k=true) (j:kvs.length < D0) (q:Q (ad M a (.dct t (bO kvs k v)))):gm (.ref a) k v M Q:=⟨a,rfl, .inr ⟨t,kvs,h,ok,j,q⟩⟩
theorem fU {M:Mem} {a:Addr} {o o':O}:ad (ad M a o) a o'=ad M a o':=by
 funext b;unfold ad;split <;> rfl
def Ge (M M':Mem):Prop := ∀ a o,M a=some o->M' a=some o
theorem Ge.refl {M:Mem}:Ge M M:=fun _ _ h=>h
theorem Ge.trans {M M' M'':Mem} (h:Ge M M') (g:Ge M' M''):Ge M M'':=fun _ _ e=>g _ _ (h _ _ e)
theorem Ge.new {M:Mem} {p:Addr} {o:O} (h:M p=none):Ge M (ad M p o):=fun a o' e=>by
 rw [ab (fun z=>by rw [z,h] at e;cases e)];exact e
def Box (b:Addr) (M:Mem):Prop := ∃ x y z:Int,M b=some (.lst [.int x, .int y, .int z])
structure Bx (b:Addr) (M M':Mem):Prop where
 box:Box b M'
 keep:∀ a o,a≠b->M a=some o->M' a=some o
theorem Bx.refl {b:Addr} {M:Mem} (h:Box b M):Bx b M M:=⟨h,fun _ _ _ e=>e⟩
theorem Bx.trans {b:Addr} {M M' M'':Mem} (h:Bx b M M') (g:Bx b M' M''):Bx b M M'':=⟨g.box,fun a o n e=>g.keep a o n (h.keep a o n e)⟩
theorem Bx.ge {b:Addr} {M M' M'':Mem} (h:Bx b M M') (g:Ge M' M''):Bx b M M'':=⟨by obtain ⟨x,y,z,e⟩:=h.box;exact ⟨x,y,z,g _ _ e⟩,fun a o n e=>g _ _ (h.keep a o n e)⟩
theorem Bx.put {b:Addr} {M:Mem} {x y z:Int}:Bx b M (ad M b (.lst [.int x, .int y, .int z])):=⟨⟨x,y,z,aa⟩,fun a o n e=>by rw [ab n];exact e⟩
theorem Bx.of {b:Addr} {M M':Mem} (h:Box b M) (g:Ge M M'):Bx b M M':=(Bx.refl h).ge g
theorem lj {b:BT} {tb:TCd} {chk:Mem->Prop} {N:NC} (I:List D->ak->Mem->List D->Prop) {xs:List D} {ρ:ak} {M:Mem} {acc:List D}
 (h0:I [] ρ M acc)
 (q:∀ l ρ M acc,I l ρ M acc->chk M)
 (hs:∀ l x r ρ M acc,xs=l++x::r->I l ρ M acc -> ∃ ρ',b x ρ = some ρ' /\ ∀ N':NC,(∀ ρ2 M2 j,I (l++[x]) ρ2 M2 j->N' ρ2 M2 j)->tb ρ' M acc N')
 (z:∀ ρ M acc,I xs ρ M acc->N ρ M acc):aY b tb chk N xs ρ M acc:=by
 have g:∀ (r l:List D) (ρ:ak) (M:Mem) (acc:List D),xs=l++r->I l ρ M acc->aY b tb chk N r ρ M acc:=by
  intro r
  induction r with
  | nil=>intro l ρ M acc e i;rw [H0] at e;subst e;exact ⟨q _ _ _ _ i,z _ _ _ i⟩
  | cons x r ih =>
    intro l ρ M acc e i;obtain ⟨ρ',B,h⟩:=hs l x r ρ M acc e i;exact ⟨q _ _ _ _ i, ρ',B,h _ fun ρ2 M2 j F=>ih (l++[x]) ρ2 M2 j (by rw [e];simp) F⟩
 exact g xs [] ρ M acc rfl h0
theorem xX {b:BT} {tb:TSd} {chk:Mem->Prop} {E:b3} (I:List D->ak->Mem->Prop) {xs:List D} {ρ:ak} {M:Mem}
 (h0:I [] ρ M)
 (j:∀ l ρ M,I l ρ M->chk M)
 (hs:∀ l x r ρ M,xs=l++x::r->I l ρ M -> ∃ ρ',b x ρ = some ρ' /\ ∀ F:ak->Mem->Prop,(∀ ρ2 M2,I (l++[x]) ρ2 M2->F ρ2 M2)->tb { E with nx:=F,ct:=F,bk:=E.nx } ρ' M)
 (q:∀ ρ M,I xs ρ M->E.nx ρ M):bp b tb chk E xs ρ M:=by
 have g:∀ (r l:List D) (ρ:ak) (M:Mem),xs=l++r->I l ρ M->bp b tb chk E r ρ M:=by
  intro r
  induction r with
  | nil=>intro l ρ M e i;rw [H0] at e;subst e;exact ⟨j _ _ _ i,q _ _ i⟩
  | cons x r ih =>
    intro l ρ M e i;obtain ⟨ρ',z,h⟩:=hs l x r ρ M e i;exact ⟨j _ _ _ i, ρ',z,h _ fun ρ2 M2 B=>ih (l++[x]) ρ2 M2 (by rw [e];simp) B⟩
 exact g xs [] ρ M rfl h0
section
variable {T:List FD}
noncomputable def jl (s:Stmt):FD:=⟨"_law_cell_at",s,["_law_script", "_law_k"],2,
 (.cons (.ite (.cmp .lt (.var 1) (.blt .len (.cons (.var 0) .nil))) (.cons (.ret (.ix (.var 0) (.var 1)))
 .nil) .nil)
 (.cons (.ret (.int 0))
 .nil))⟩
theorem ox {α:Type} {xs:List α} {i:Int} (h0 : 0<=i) (h1:i < xs.length):∃ x,atI xs i=some x/\xs[i.toNat]? = some x:=by
 have:i.toNat < xs.length:=by lia
 refine ⟨xs[i.toNat], ?_,r4 this⟩;unfold atI ixN;simp [h0,h1,r4 this]
theorem Au {f:Nat} {s:Stmt} (hf:T[f]? = some (jl s)) {n:Nat} (z : 1<=n) {ns:List Int} {k:Int} {M:Mem} {Q:QD} (h0 : 0<=k) (q:∀ i,Q (.int i) M):phi T n f [.con (ns.map D.int), .int k] M Q:=by
 refine ar z hf rfl (ρ := [some _,some _]) rfl ?_;unfold jl;walk_at "st"
 split
 ·next h =>
  walk_at "st";obtain ⟨x,e,j⟩:=ox (xs:=ns.map D.int) h0 h;rw [FK] at j
  cases e3:ns[k.toNat]? with
  | none=>rw [e3] at j;cases j
  | some y=>rw [e3] at j;cases j;exact ⟨_,e,q y⟩
 ·walk_at "st";exact q 0
theorem Cj {i j:Int} (h : -(2 ^ 64) < i/\i < 2 ^ 64):MulOk i j := .inl h
theorem oy {i j:Int} (h : -(2 ^ 64) < j/\j < 2 ^ 64):MulOk i j := .inr (.inl h)
noncomputable def jS (s:Stmt):FD:=⟨"_law_mixed",s,["_law_number_here", "_law_k", "_law_once", "_law_twice"],2,
 (.cons (.asg (.name 2) (.bin .mod (.bin .mul (.bin .add (.bin .add (.bin .mod (.var 0) (.int 1000000007)) (.bin .mul (.int 7) (.var 1))) (.int 1)) (.int 48271)) (.int 2147483647)))
 (.cons (.asg (.name 3) (.bin .mod (.bin .mul (.var 2) (.bin .add (.bin .add (.bin .mod (.var 2) (.int 1009)) (.var 1)) (.int 3))) (.int 998244353)))
 (.cons (.ret (.bin .fdiv (.bin .mod (.bin .add (.bin .mul (.var 3) (.int 39373)) (.var 2)) (.int 2147483629)) (.int 64)))
 .nil)))⟩
theorem xY {f:Nat} {s:Stmt} (hf:T[f]? = some (jS s)) {n:Nat} (j : 1<=n) {x k:Int} {M:Mem} {Q:QD} (q:∀ i,Q (.int i) M):phi T n f [.int x, .int k] M Q:=by
 refine ar j hf rfl (ρ := [some _,some _,none,none]) rfl ?_;unfold jS;walk_at "st";refine ⟨by decide,Cj (by decide),oy (by decide),by decide, ?_⟩
 walk_at "st";refine ⟨by decide,Cj ?_,by decide, ?_⟩
 ·have h1:=K0 ((x % 1000000007+7*k+1)*48271) (b := 2147483647) (by decide)
  have h2:=Jc ((x % 1000000007+7*k+1)*48271) (b := 2147483647) (by decide)
  lia
 walk_at "st";refine ⟨oy (by decide),by decide,by decide,by decide, ?_⟩
 exact q _
noncomputable def sJ (s:Stmt) (fc fm:Nat):FD:=⟨"_law_box",s,["_law_script", "_law_k", "_law_cell"],2,
 (.cons (.asg (.name 2) (.call fc (.cons (.var 0) (.cons (.var 1) .nil))))
 (.cons (.ret (.lst (.cons (.bin .mul (.blt .abs (.cons (.var 2) .nil)) (.blt .int (.cons (.cmp .ge (.blt .abs (.cons (.var 2) .nil)) (.bin .pow (.int 10) (.int 18))) .nil))) (.cons (.call fm (.cons (.var 2) (.cons (.bin .add (.int 900) (.var 1)) .nil))) (.cons (.int 0) .nil)))))
 .nil))⟩
theorem Ck {f fc fm:Nat} {s sc:Stmt} (hf:T[f]? = some (sJ s fc fm)) (z:T[fc]? = some (jl sc)) {n:Nat} (B:∀ {x k:Int} {M:Mem} {Q:QD},(∀ i,Q (.int i) M)->phi T (n - 1) fm [.int x, .int k] M Q) (G : 2<=n) {ns:List Int} {k:Int} {M:Mem} {Q:QD} (h0 : 0<=k)
 (q:∀ p x y,M p=none->Q (.ref p) (ad M p (.lst [.int x, .int y, .int 0]))):phi T n f [.con (ns.map D.int), .int k] M Q:=by
 refine ar (by lia) hf rfl (ρ := [some _,some _,none]) rfl ?_
 unfold sJ;walk_at "st";refine Au z (by lia) h0 fun i => ?_
 walk_at "st";refine ⟨by decide,by decide,by decide,oy ?_, ?_⟩
 ·split <;> lia
 refine B fun j => ?_;exact ⟨by rw [hH];lia,fun p F=>q p _ _ F⟩
noncomputable def oz (s:Stmt) (fm:Nat):FD:=⟨"_law_take",s,["_law_box_here", "_law_many", "_law_found", "_law_reach"],2,
 (.cons (.ite (.cmp .gt (.ix (.var 0) (.int 0)) (.int 0)) (.cons (.asg (.name 2) (.bin .mod (.ix (.var 0) (.int 0)) (.var 1)))
 (.cons (.put (.var 0) (.int 0) (.bin .fdiv (.ix (.var 0) (.int 0)) (.var 1)))
 (.cons (.ret (.var 2))
 .nil))) .nil)
 (.cons (.asg (.tup (.cons (.name 2) (.cons (.name 3) .nil))) (.tup (.cons (.int 0) (.cons (.int 1) .nil))))
 (.cons (.while (.cmp .lt (.var 3) (.var 1)) (.cons (.put (.var 0) (.int 2) (.bin .add (.ix (.var 0) (.int 2)) (.int 1)))
 (.cons (.asg (.name 2) (.bin .add (.bin .mul (.var 2) (.int 33554432)) (.call fm (.cons (.ix (.var 0) (.int 1)) (.cons (.ix (.var 0) (.int 2)) .nil)))))
 (.cons (.asg (.name 3) (.bin .mul (.var 3) (.int 33554432)))
 .nil))))
 (.cons (.ret (.bin .mod (.var 2) (.var 1)))
 .nil))))⟩
def yY (T:List FD) (n fm:Nat):Prop := ∀ {x k:Int} {M:Mem} {Q:QD},(∀ i,Q (.int i) M)->phi T n fm [.int x, .int k] M Q
theorem Av {f fm:Nat} {s:Stmt} (hf:T[f]? = some (oz s fm)) {n:Nat} (J:yY T (n - 1) fm) (O : 2<=n) {b:Addr} {m:Int} {M:Mem} {Q:QD} (L:Box b M) (h1 : 0 < m) (h2:m<=2 ^ 120)
 (q:∀ r M',0<=r->r < m->Bx b M M'->Q (.int r) M'):phi T n f [.ref b, .int m] M Q:=by
 refine ar (by lia) hf rfl (ρ := [some _,some _,none,none]) rfl ?_
 unfold oz;obtain ⟨x,y,z,G⟩:=L;walk_at "st";refine aN G (d := .int x) rfl ?_;simp only [sF];walk_at "wp"
 split
 ·next hx =>
  walk_at "st";refine aN G (d := .int x) rfl ?_;walk_at "wp";refine ⟨h1, ?_⟩;walk_at "st";refine aN G (d := .int x) rfl ?_;walk_at "wp";refine ⟨h1,by lia, ?_⟩
  refine bD G (j := 0) rfl ?_;walk_at "st";exact q _ _ (K0 _ (by lia)) (Jc _ h1) Bx.put
 ·next hx =>
  walk_at "st";refine ⟨by rw [hH];lia, ?_⟩
  walk_at "st";refine ⟨6, ?_⟩;have go:∀ (f:Nat) (found reach z:Int) (M':Mem),m<=reach*33554432 ^ f->M' b=some (.lst [.int x, .int y, .int z])->Bx b M M' ->
   aL (eS (wOp wLt (dN 3) (dN 1))) (wSs (phi T (n - 1)) (MSs.cons (MS.put (ME.var 0) (ME.int 2) (ME.bin BOp.add ((ME.var 0).ix (ME.int 2)) (ME.int 1)))
    (MSs.cons (MS.asg (MG.name 2) (ME.bin BOp.add (ME.bin BOp.mul (ME.var 2) (ME.int 33554432)) (ME.call fm (MEs.cons ((ME.var 0).ix (ME.int 1)) (MEs.cons ((ME.var 0).ix (ME.int 2)) MEs.nil)))))
      (MSs.cons (MS.asg (MG.name 3) (ME.bin BOp.mul (ME.var 3) (ME.int 33554432))) MSs.nil))))
    { nx:=wSs (phi T (n - 1)) (MSs.cons (MS.ret (ME.bin BOp.mod (ME.var 2) (ME.var 1))) MSs.nil) { nx:=fun x M'=>Q D.non M',rt:=Q },rt:=Q } (f+1) [some (.ref b),some (.int m),some (.int found),some (.int reach)] M':=by
   intro f
   induction f with
   | zero =>
     intro found reach z M' hm F B;simp only [aL];walk_at "wp";rw [if_neg (by lia)]
     walk_at "st";exact ⟨h1,q _ _ (K0 _ (by lia)) (Jc _ h1) B⟩
   | succ f ih =>
     intro found reach z M' hm F B;rw [aL];walk_at "wp"
     split
     ·next hr =>
      walk_at "st";refine aN F (d := .int z) rfl ?_;walk_at "wp";refine bD F (j := 2) rfl ?_;walk_at "st";refine ⟨oy (by decide), ?_⟩
      refine aN aa (d := .int y) rfl ?_;refine aN aa (d := .int (z+1)) rfl ?_;refine J fun i => ?_;walk_at "wp";walk_at "st";refine ⟨oy (by decide), ?_⟩
      exact ih _ _ (z+1) _ (by rw [Int.mul_assoc, <- Int.pow_succ'];exact hm) aa (B.trans Bx.put)
     ·walk_at "st";exact ⟨h1,q _ _ (K0 _ (by lia)) (Jc _ h1) B⟩
  exact go 5 0 1 z M (by lia) G (Bx.refl ⟨x,y,z,G⟩)
def fV (T:List FD) (n f:Nat):Prop := ∀ {b:Addr} {m:Int} {M:Mem} {Q:QD},Box b M->0 < m->m<=2 ^ 120->(∀ r M',0<=r->r < m->Bx b M M'->Q (.int r) M')->phi T n f [.ref b, .int m] M Q
noncomputable def ik (s:Stmt) (ft:Nat):FD:=⟨"_law_number",s,["_law_box_here", "_law_way"],1,
 (.cons (.asg (.name 1) (.call ft (.cons (.var 0) (.cons (.int 9) .nil))))
 (.cons (.ite (.cmp .eq (.var 1) (.int 0)) (.cons (.ret (.bin .sub (.call ft (.cons (.var 0) (.cons (.int 2001) .nil))) (.int 1000)))
 .nil) .nil)
 (.cons (.ret (.ix (.lst (.cons (.int 0) (.cons (.int 0) (.cons (.int 0) (.cons (.int 1) (.cons (.int 1) (.cons (.int 1) (.cons (.neg (.int 1)) (.cons (.neg (.int 1)) (.cons (.int 2) .nil)))))))))) (.var 1)))
 .nil)))⟩
theorem vw {f ft:Nat} {s:Stmt} (hf:T[f]? = some (ik s ft)) {n:Nat} (j:fV T (n - 1) ft) (O : 1<=n) {b:Addr} {M:Mem} {Q:QD} (F:Box b M)
 (q:∀ r M', -1000<=r->r<=1000->Bx b M M'->Q (.int r) M'):phi T n f [.ref b] M Q:=by
 refine ar (by lia) hf rfl (ρ := [some _,none]) rfl ?_
 unfold ik;walk_at "st";refine j F (by decide) (by decide) fun r M1 h0 h1 B => ?_
 walk_at "st"
 split
 ·walk_at "st";refine j B.box (by decide) (by decide) fun r2 M2 h0 h1 G => ?_
  walk_at "wp";exact q _ _ (by lia) (by lia) (B.trans G)
 ·next hr =>
  walk_at "st";refine ⟨by rw [hH];lia,fun p J => ?_⟩
  have hr:r=1∨r=2∨r=3∨r=4∨r=5∨r=6∨r=7∨r=8:=by
   have:r≠0:=fun z=>hr (by rw [z];rfl)
   lia
  have L:=B.ge (Ge.new (o := .lst [.int 0, .int 0, .int 0, .int 1, .int 1, .int 1, .int (-1), .int (-1), .int 2]) J)
  rcases hr with rfl | rfl | rfl | rfl | rfl | rfl | rfl | rfl <;> exact aN aa rfl (q _ _ (by decide) (by decide) L)
end
section
variable {T:List FD}
def oB (T:List FD) (n f:Nat):Prop := ∀ {b:Addr} {M:Mem} {Q:QD},Box b M->(∀ r M', -1000<=r->r<=1000->Bx b M M'->Q (.int r) M')->phi T n f [.ref b] M Q
def fj (ns:List Int):Prop := ∀ x∈ns, -1000<=x/\x<=1000
theorem cT {lo:Int} {n:Nat}:(bu lo n).length=n:=by simp [bu]
theorem av {α:Type} {xs l r:List α} {x : α} (e:xs=l++x::r):l.length < xs.length:=by rw [e];simp
theorem vy {α:Type} {xs l r:List α} {x : α} (e:xs=l++x::r):xs[l.length]? = some x:=by rw [e];simp
noncomputable def oC (s:Stmt) (fn:Nat):FD:=⟨"_law_part",s,["_law_box_here", "_law_length"],2,
 (.cons (.ret (.blt .tuple (.cons (.comp [none,(some 0)] ["_law_k", "_law_box_here"] (.last (.rng1 (.var 1)) (.name 0) .nil (.call fn (.cons (.var 1) .nil)))) .nil)))
 .nil)⟩
theorem Aw {f fn:Nat} {s:Stmt} (hf:T[f]? = some (oC s fn)) {n:Nat} (B:oB T (n - 1) fn) (Y : 1<=n) {b:Addr} {L:Nat} (Z:L<=1000) {M:Mem} {Q:QD} (F:Box b M)
 (q:∀ (ns:List Int) M',ns.length=L->fj ns->Bx b M M'->Q (.tup (ns.map .int)) M'):phi T n f [.ref b, .int L] M Q:=by
 refine ar (by lia) hf rfl (ρ := [some _,some _]) rfl ?_
 unfold oC;walk_at "st";refine ⟨by lia,by lia, ?_⟩
 refine lj (I:=fun l ρ M' acc => ∃ (ns:List Int) (x:Option D),acc=ns.map .int/\ns.length=l.length/\fj ns/\Bx b M M' /\ ρ = [x,some (.ref b)]) ⟨[],none,rfl,rfl,fun _ h=>by simp at h,Bx.refl F,rfl⟩ (fun _ _ _ _ _=>trivial) ?_ ?_
 ·rintro l x r ρ M1 acc e ⟨ns,o,rfl,j,hs,z,rfl⟩;refine ⟨_,rfl,fun N' G => ?_⟩;walk_at "wp";refine B z.box fun v M2 h1 h2 J => ?_;have:=av e;rw [cT] at this;refine ⟨by rw [gV,j,hH];lia,G _ _ _ ⟨ns++[v],_,by simp,by simp [j], ?_,z.trans J,rfl⟩⟩
  intro y O
  rcases FC.mp O with h | h
  ·exact hs y h
  ·simp at h;subst h;exact ⟨h1,h2⟩
 ·rintro ρ M1 acc ⟨ns,o,rfl,j,hs,z,rfl⟩ p U;rw [cT] at j;refine ⟨_,ns.map .int,rfl,af aa,q ns _ (by lia) hs (z.ge (Ge.new U))⟩
noncomputable abbrev Pr:=List Int×List Int×List Int
noncomputable def prD (p:Pr):D := .tup [.tup (p.1.map .int), .tup (p.2.1.map .int), .tup (p.2.2.map .int)]
noncomputable def dP (p:Pr):Gw := .tuple [.tuple (p.1.map .int), .tuple (p.2.1.map .int), .tuple (p.2.2.map .int)]
structure oD (L0 L1 L2:Nat) (p:Pr):Prop where
 l0:p.1.length=L0
 l1:p.2.1.length=L1
 l2:p.2.2.length=L2
 s0:fj p.1
 s1:fj p.2.1
 s2:fj p.2.2
theorem gy {k:Nat} {M:Mem}:∀ ns:List Int,aA (rb k M) (ns.map D.int)=some (ns.map PyData.int)
 | [] => rfl
 | x::r=>by
   have e:rb k M (.int x)=some (.int x):=by cases k <;> rfl
   simp [aA,e,gy r]
theorem Dy {k:Nat} {M:Mem} (p:Pr):rb (k+2) M (prD p)=some (dP p):=by
 simp [rb,prD,dP,aA,gy]
theorem oE {k:Nat} {M:Mem}:∀ ps:List Pr,aA (rb (k+2) M) (ps.map prD)=some (ps.map dP)
 | [] => rfl
 | p::r=>by simp [aA,Dy,oE r]
theorem eA {k:Nat} {M:Mem} {a:Addr} {ds:List D} (h:M a=some (.lst ds)):rb (k+1) M (.ref a)=(aA (rb k M) ds).map NZ:=by
 simp only [rb,h]
theorem oF {Φ:Phi} {s:MS} {r:MSs} {E:b3} {ρ:ak} {M:Mem} (I:ak->Mem->Prop) (h1:∀ R:ak->Mem->Prop,(∀ ρ M,I ρ M->R ρ M)->wS Φ s { E with nx:=R } ρ M) (h2:∀ ρ M,I ρ M->wSs Φ r E ρ M):wSs Φ (.cons s r) E ρ M:=by
 rw [cn];exact h1 _ h2
theorem Bx.upd {b q:Addr} {M M':Mem} {o:O} (h:Bx b M M') (B:M q=none) (j:q≠b):Bx b M (ad M' q o) :=
 ⟨by obtain ⟨x,y,z,e⟩:=h.box;exact ⟨x,y,z,by rw [ab j.symm];exact e⟩,fun u o' nu eu=>by
   rw [ab (fun z=>by rw [z,B] at eu;cases eu)];exact h.keep u o' nu eu⟩
theorem Bx.none {b q:Addr} {M M':Mem} (h:Bx b M M') (z:M' q=none) (j:q≠b):M q=none:=by
 cases e:M q with
 | none=>rfl
 | some o=>rw [h.keep q o j e] at z;cases z
noncomputable def prL (p:Pr):List D := [.tup (p.1.map .int), .tup (p.2.1.map .int), .tup (p.2.2.map .int)]
theorem fW {k:Nat}:fj (FA k 0):=fun x h=>by
 rw [(List.mem_replicate.mp h).2];decide
theorem xZ {k:Nat}:(FA k [D.int 0]).flatten=(FA k (0:Int)).map D.int:=by
 induction k with
 | zero=>rfl
 | succ k ih=>rw [Gp,Hd,ih];rfl
def vz (T:List FD) (n f:Nat):Prop := ∀ {b:Addr} {L:Nat} {M:Mem} {Q:QD},L<=1000->Box b M->(∀ (ns:List Int) M',ns.length=L->fj ns->Bx b M M'->Q (.tup (ns.map .int)) M')->phi T n f [.ref b, .int L] M Q
end
section
theorem aO {α:Type} {f : α -> D} {b:BT} {tb:TCd} {chk:Mem->Prop} {N:NC} (I:List α -> ak->Mem->List D->Prop) {ys:List α} {xs:List D} (hx:xs=ys.map f) {ρ:ak} {M:Mem} {acc:List D}
 (h0:I [] ρ M acc)
 (q:∀ l ρ M acc,I l ρ M acc->chk M)
 (hs:∀ l x r ρ M acc,ys=l++x::r->I l ρ M acc -> ∃ ρ',b (f x) ρ = some ρ' /\ ∀ N':NC,(∀ ρ2 M2 j,I (l++[x]) ρ2 M2 j->N' ρ2 M2 j)->tb ρ' M acc N')
 (z:∀ ρ M acc,I ys ρ M acc->N ρ M acc):aY b tb chk N xs ρ M acc:=by
 subst hx;have g:∀ (r l:List α) (ρ:ak) (M:Mem) (acc:List D),ys=l++r->I l ρ M acc->aY b tb chk N (r.map f) ρ M acc:=by
  intro r
  induction r with
  | nil=>intro l ρ M acc e i;rw [H0] at e;subst e;exact ⟨q _ _ _ _ i,z _ _ _ i⟩
  | cons x r ih =>
    intro l ρ M acc e i;obtain ⟨ρ',B,h⟩:=hs l x r ρ M acc e i;exact ⟨q _ _ _ _ i, ρ',B,h _ fun ρ2 M2 j F=>ih (l++[x]) ρ2 M2 j (by rw [e];simp) F⟩
 exact g ys [] ρ M acc rfl h0
theorem br {α:Type} {f : α -> D} {b:BT} {tb:TSd} {chk:Mem->Prop} {E:b3} (I:List α -> ak->Mem->Prop) {ys:List α} {xs:List D} (hx:xs=ys.map f) {ρ:ak} {M:Mem}
 (h0:I [] ρ M)
 (j:∀ l ρ M,I l ρ M->chk M)
 (hs:∀ l x r ρ M,ys=l++x::r->I l ρ M -> ∃ ρ',b (f x) ρ = some ρ' /\ ∀ F:ak->Mem->Prop,(∀ ρ2 M2,I (l++[x]) ρ2 M2->F ρ2 M2)->tb { E with nx:=F,ct:=F,bk:=E.nx } ρ' M)
 (q:∀ ρ M,I ys ρ M->E.nx ρ M):bp b tb chk E xs ρ M:=by
 subst hx;have g:∀ (r l:List α) (ρ:ak) (M:Mem),ys=l++r->I l ρ M->bp b tb chk E (r.map f) ρ M:=by
  intro r
  induction r with
  | nil=>intro l ρ M e i;rw [H0] at e;subst e;exact ⟨j _ _ _ i,q _ _ i⟩
  | cons x r ih =>
    intro l ρ M e i;obtain ⟨ρ',z,h⟩:=hs l x r ρ M e i;exact ⟨j _ _ _ i, ρ',z,h _ fun ρ2 M2 B=>ih (l++[x]) ρ2 M2 (by rw [e];simp) B⟩
 exact g ys [] ρ M rfl h0
theorem qB {M M':Mem} {x:D} {ds:List D} (h:au M x=some ds) (g:Ge M M'):au M' x=some ds:=by
 cases x with
 | ref a =>
   simp only [au] at h ⊢
   split at h
   ·next e=>rw [g _ _ e];exact h
   ·cases h
 | _=>exact h
theorem y0 {M:Mem} {x:D} {ds:List D} (h:au M x=some ds):gU M x=some ds.length:=by
 cases x with
 | ref a =>
   simp only [au] at h
   split at h
   ·next e=>cases h;simp only [gU,e]
   ·cases h
 | tup es=>cases h;rfl
 | con es=>cases h;rfl
 | _=>cases h
theorem qC {M:Mem} {x:D} {ds:List D} {Q:QD} (h:au M x=some ds) (q:Q (.int ds.length) M):eU [x] M Q:=⟨_,_,rfl,y0 h,q⟩
theorem eB {α:Type} {xs:List α} {k:Nat} {x : α} (h:xs[k]? = some x):atI xs (k:Int)=some x:=by
 have j:k < xs.length:=(FN.mp h).1;unfold atI ixN;rw [if_pos (by lia),if_pos (by lia)]
 exact h
theorem cU {n:Nat}:bu 0 n=(Gc n).map fun i=>D.int (i:Nat):=by simp [bu]
end
section
inductive W where | l | r | t | p | a | e | k
deriving DecidableEq
noncomputable def ws:W->Str
 | .l=>q7 "left"
 | .r=>q7 "right"
 | .t=>q7 "times"
 | .p=>q7 "put"
 | .a=>q7 "add"
 | .e=>q7 "empty"
 | .k=>q7 "tell"
theorem Dz (a:W):Ni (ws a)=true:=by cases a <;> decide +kernel
end
section
section
variable {α:Type}
noncomputable def ig (h:List (Int × α)) (k:Int):Option α := (h.find? fun p=>decide (p.1=k)).map (·.2)
noncomputable def ip (h:List (Int × α)) (k:Int) (v : α):List (Int × α):=if (h.any fun p=>decide (p.1=k))=true then h.map (fun p=>if p.1=k then (p.1,v) else p) else h++[(k,v)]
noncomputable def idr (h:List (Int × α)) (k:Int):List (Int × α):=h.filter fun p=>decide (p.1≠k)
noncomputable def hD (g : α -> D) (p:Int × α):D×D:=(.int p.1,g p.2)
theorem jm {g : α -> D} {p:Int × α} {k:Int}:decide ((hD g p).1 = .int k)=decide (p.1=k):=by
 simp [hD]
theorem bb {g : α -> D} {h:List (Int × α)} {k:Int}:aI (h.map (hD g)) (.int k)=(ig h k).map g:=by
 unfold aI ig;rw [List.find?_map];have e:((fun p:D×D=>decide (p.1 = .int k)) ∘ hD g)=fun p:Int × α => decide (p.1=k):=funext fun p=>jm;rw [e]
 cases h.find? fun p=>decide (p.1=k) <;> rfl
theorem gB {g : α -> D} {h:List (Int × α)} {k:Int} {v : α}:bO (h.map (hD g)) (.int k) (g v)=(ip h k v).map (hD g):=by
 unfold bO ip;have e:((h.map (hD g)).any fun p=>decide (p.1 = .int k))=h.any fun p=>decide (p.1=k):=by
  rw [Jt];congr 1;exact funext fun p=>jm
 rw [e]
 split
 ·rw [G5,G5];refine IS fun p j => ?_;show (if (hD g p).1 = .int k then ((hD g p).1,g v) else hD g p)=hD g (if p.1=k then (p.1,v) else p)
  have:=jm (g:=g) (p:=p) (k:=k)
  by_cases z:p.1=k
  ·rw [if_pos z,if_pos (by simpa [z] using this)];rfl
  ·rw [if_neg z,if_neg (by simpa [z] using this)]
 ·rw [D2];rfl
theorem il {g : α -> D} {h:List (Int × α)} {k:Int}:cN (h.map (hD g)) (.int k)=(idr h k).map (hD g):=by
 unfold cN idr;rw [Og];congr 1;refine KI fun p j => ?_;have:=jm (g:=g) (p:=p) (k:=k);simpa using this
noncomputable def kp (ks:List Int) (k:Int):List Int:=if k∈ks then ks else ks++[k]
noncomputable def kd (ks:List Int) (k:Int):List Int:=ks.filter fun x=>decide (x≠k)
theorem im {h:List (Int × α)} {k:Int}:(h.any fun p=>decide (p.1=k))=decide (k∈h.map (·.1)):=by
 induction h with
 | nil=>rfl
 | cons p h ih =>
   rw [Hc,ih]
   by_cases z:p.1=k
   ·simp [z]
   ·simp [z,Ne.symm z]
theorem oG {h:List (Int × α)} {k:Int} (j:k∈h.map (·.1)):∃ v,ig h k=some v/\(k,v)∈h:=by
 induction h with
 | nil=>simp at j
 | cons p h ih =>
   by_cases z:p.1=k
   ·exact ⟨p.2,by simp [ig,z],by subst z;exact Gv⟩
   ·obtain ⟨v,e,m⟩:=ih (by simpa [z,Ne.symm z] using j)
    exact ⟨v,by rw [<- e];simp [ig,z],FJ _ m⟩
theorem Ax {h:List (Int × α)} {k:Int} (j:k∉h.map (·.1)):ig h k=none:=by
 induction h with
 | nil=>rfl
 | cons p h ih =>
   simp only [FL,Fx,not_or] at j;rw [<- ih j.2];simp [ig,Ne.symm j.1]
theorem de {p:Int × α} {l:List (Int × α)} {j:Int}:ig (p::l) j=if p.1=j then some p.2 else ig l j:=by
 unfold ig;rw [GP]
 by_cases z:p.1=j
 ·simp [z]
 ·simp [z]
theorem DA {l:List (Int × α)} {k j:Int} {v : α} (ej:j≠k):ig (l.map fun p=>if p.1=k then (p.1,v) else p) j=ig l j:=by
 induction l with
 | nil=>rfl
 | cons q l ih =>
   rw [FL,de,de,ih]
   by_cases q1:q.1=k
   ·have : ¬ q.1=j:=fun w=>ej (w.symm.trans q1);rw [if_pos q1,if_neg this,if_neg this]
   ·rw [if_neg q1]
theorem Cl {l:List (Int × α)} {k j:Int} {v : α}:ig (l++[(k,v)]) j=(ig l j).or (if k=j then some v else none):=by
 induction l with
 | nil=>rw [J3,de];rfl
 | cons q l ih =>
   rw [IM,de,de,ih]
   by_cases q1:q.1=j
   ·simp [q1]
   ·simp [q1]
theorem yZ {h:List (Int × α)} {k j:Int} {v : α}:ig (ip h k v) j=if j=k then some v else ig h j:=by
 unfold ip;rw [im]
 by_cases z:k∈h.map (·.1)
 ·rw [if_pos (by simpa using z)]
  by_cases ej:j=k
  ·subst ej;rw [if_pos rfl]
   induction h with
   | nil=>simp at z
   | cons p h ih =>
     rw [FL,de]
     by_cases e:p.1=j
     ·rw [if_pos e,if_pos e]
     ·rw [if_neg e,if_neg e];exact ih (by simpa [e,Ne.symm e] using z)
  ·rw [if_neg ej,DA ej]
 ·rw [if_neg (by simpa using z),Cl]
  by_cases ej:j=k
  ·subst ej;rw [Ax z];simp
  ·rw [if_neg ej,if_neg (Ne.symm ej)];simp
end
inductive Sp where
 | lin (l:Bool) (r:Int) (ps:List (Int×Int))
 | tim (r a b:Int)
 | put (r c b:Int)
 | add (a c b:Int)
 | emp (a:Int)
 | tel (k b:Int)
noncomputable def nk (ks:List Int):Sp->List Int
 | .lin _ r _=>kp ks r | .tim r _ _=>kp ks r | .put r _ _=>kp ks r | .add a _ _=>kp ks a | .emp a=>kd ks a | .tel _ b=>kd ks b
noncomputable def nt (td:List Int):Sp->List Int
 | .tel k _=>td++[k]
 | _=>td
def y3 (c:Int):Prop := -(10 ^ 30)<=c/\c<=10 ^ 30
noncomputable def Cn (L0 L1 L2:Nat) (ks td:List Int):Sp->Prop
 | .lin l _ ps=>ps.length<=20 /\ ∀ p∈ps,y3 p.1/\0<=p.2/\p.2 < (if l then L0 else L1:Nat)
 | .tim _ a b=>a∈ks/\b∈ks
 | .put _ c b=>y3 c/\b∈ks
 | .add a c b=>a∈ks/\y3 c/\b∈ks
 | .emp a=>a∈ks
 | .tel k b=>(0<=k/\k < L2/\k∉td)/\b∈ks
inductive Prog (L0 L1 L2:Nat):List Sp->List Int->List Int->Prop
 | nil:Prog L0 L1 L2 [] [] []
 | snoc {ss ks td s}:Prog L0 L1 L2 ss ks td->Cn L0 L1 L2 ks td s->Prog L0 L1 L2 (ss++[s]) (nk ks s) (nt td s)
theorem Prog.split {j q L2:Nat} {ss:List Sp} {ks td:List Int} (h:Prog j q L2 ss ks td):∀ {l r:List Sp} {x:Sp},ss=l++x::r -> ∃ ks' td',Prog j q L2 l ks' td'/\Cn j q L2 ks' td' x:=by
 induction h with
 | nil=>intro l r x e;cases l <;> cases e
 | @snoc ss ks td s h hs ih =>
  intro l r x e
  rcases LD r with rfl | ⟨r',y,rfl⟩
  ·have z:=NU e rfl;obtain ⟨rfl,B⟩:=z
   cases B
   exact ⟨ks,td,h,hs⟩
  ·have z:ss++[s]=(l++x::r')++[y]:=by rw [e];simp
   exact ih (NU z rfl).1
noncomputable def DB (row:List Int) (i:Int):Int:=row.getD i.toNat 0
noncomputable def DC (ps:List (Int×Int)) (row:List Int):Int:=(ps.map fun p=>p.1*DB row p.2).sum
noncomputable def gv (h:List (Int×Int)) (k:Int):Int:=(ig h k).getD 0
noncomputable def ex1 (one other:List Int) (h:List (Int×Int)):Sp->List (Int×Int)
 | .lin l r ps=>ip h r (DC ps (if l then one else other))
 | .tim r a b=>ip h r (gv h a*gv h b)
 | .put r c b=>ip h r (c*gv h b)
 | .add a c b=>ip h a (gv h a+c*gv h b)
 | .emp a=>idr h a
 | .tel _ b=>idr h b
noncomputable def ex2 (h t:List (Int×Int)):Sp->List (Int×Int)
 | .tel k b=>ip t k (gv h b)
 | _=>t
structure RsP where
 h:List (Int×Int)
 t:List (Int×Int)
 m:Int
noncomputable def exs (one other:List Int) (s:RsP) (x:Sp):RsP:=⟨ex1 one other s.h x,ex2 s.h s.t x,if ((ex1 one other s.h x).length:Int) > s.m then (ex1 one other s.h x).length else s.m⟩
noncomputable def ex (one other:List Int) (l:List Sp):RsP:=l.foldl (exs one other) ⟨[],[],0⟩
end
section
variable {T:List FD}
theorem oH:∀ (n:Nat) (L:List Int),(∀ i:Nat,i < n->(i:Int)∈L)->n<=L.length
 | 0,_,_=>GW _
 | n+1,L,h=>by
   have h1:=oH n (L.erase (n:Nat)) fun i hi=>(List.mem_erase_of_ne (by lia)).mpr (h i (by lia))
   have h2:=List.length_erase_of_mem (h n (by lia))
   have j : 0 < L.length:=List.length_pos_of_mem (h n (by lia))
   lia
def Mex (L:List Int) (m:Nat):Prop:=(m:Int)∉L /\ ∀ i:Nat,i < m->(i:Int)∈L
theorem Mex.le {L:List Int} {m:Nat} (h:Mex L m):m<=L.length:=oH m L h.2
theorem oI (L:List Int):∀ (k i:Nat),(∀ j:Nat,j < i->(j:Int)∈L)->L.length < i+k -> ∃ m,Mex L m/\i<=m
 | 0,i,h,q=>absurd (oH i L h) (by lia)
 | k+1,i,h,q=>by
   by_cases z:(i:Int)∈L
   ·obtain ⟨m,h1,h2⟩:=oI L k (i+1) (fun j B=>by
     by_cases z2:j=i
     ·subst z2;exact z
     ·exact h j (by lia)) (by lia)
    exact ⟨m,h1,by lia⟩
   ·exact ⟨i,⟨z,h⟩,Fy _⟩
theorem qD (L:List Int):∃ m,Mex L m:=let ⟨m,h,_⟩:=oI L (L.length+1) 0 (fun j q=>absurd q (by lia)) (by lia); ⟨m,h⟩
noncomputable def mex (L:List Int):Nat:=Classical.choose (qD L)
theorem bS (L:List Int):Mex L (mex L):=JC (qD L)
theorem vA {α:Type} {g : α -> D} {h:List (Int × α)} {k:Int}:(aI (h.map (hD g)) (.int k)).isSome=decide (k∈h.map (·.1)):=by
 rw [bb,HP, <- im];unfold ig;rw [HP,List.isSome_find?]
noncomputable def eC (s:Stmt):FD:=⟨"taken",s,["held", "room"],1,
 (.cons (.asg (.name 1) (.int 0))
 (.cons (.while (.cmp .inD (.var 1) (.var 0)) (.cons (.aug 1 .add (.int 1))
 .nil))
 (.cons (.put (.var 0) (.var 1) (.bl true))
 (.cons (.ret (.var 1))
 .nil))))⟩
theorem y4 {f:Nat} {s:Stmt} (hf:T[f]? = some (eC s)) {n:Nat} (B : 1<=n) {j:Addr} {h:List (Int×Bool)} {M:Mem} {Q:QD} (mh:M j=some (.dct false (h.map (hD .bl)))) (F:h.length<=1000)
 (q:Q (.int (mex (h.map (·.1)))) (ad M j (.dct false ((ip h (mex (h.map (·.1)):Nat) true).map (hD .bl))))):phi T n f [.ref j] M Q:=by
 refine ar B hf rfl (ρ := [some _,none]) rfl ?_;unfold eC;walk_at "st";refine ⟨h.length+1, ?_⟩;have hm:=bS (h.map (·.1));have hle:=hm.le;rw [gV] at hle;have go:∀ (f i:Nat),i<=mex (h.map (·.1))->mex (h.map (·.1)) < i+f->aL (eS (wOp (rZ false) (dN 1) (dN 0))) (wSs (phi T (n - 1)) (.cons (.aug 1 .add (.int 1)) .nil))
  { nx:=wSs (phi T (n - 1)) (.cons (.put (.var 0) (.var 1) (.bl true)) (.cons (.ret (.var 1)) .nil)) { nx:=fun x M'=>Q D.non M',rt:=Q },rt:=Q } f [some (.ref j),some (.int i)] M:=by
  intro f
  induction f with
  | zero=>intro i h1 h2;lia
  | succ f ih =>
    intro i h1 h2;rw [aL];walk_at "wp";refine ⟨j,false,_,rfl, .inl mh,rfl, ?_⟩;rw [if_neg i4,vA]
    by_cases z:i=mex (h.map (·.1))
    ·rw [decide_eq_false (by rw [z];exact hm.1)]
     refine ⟨false,rfl, ?_⟩;rw [if_neg i4];walk_at "st";refine ij mh rfl (by rw [gV,hH];lia) ?_
     rw [gB (g:=D.bl)];walk_at "st";rw [z];exact q
    ·rw [decide_eq_true (hm.2 i (by lia))]
     refine ⟨true,rfl, ?_⟩;rw [if_pos rfl];walk_at "st";exact ih (i+1) (by lia) (by lia)
 exact go _ 0 (by lia) (by lia)
noncomputable def eE (s:Stmt):FD:=⟨"_law_free",s,["_law_held"],1,
 (.cons (.ret (.blt .min1 (.cons (.comp [none,(some 0)] ["_law_room", "_law_held"] (.last (.rng1 (.bin .add (.blt .len (.cons (.var 0) .nil)) (.int 1))) (.name 0) (.cons (.cmp .ninS (.var 0) (.var 1)) .nil) (.var 0))) .nil)))
 .nil)⟩
theorem jT {f:Nat} {s:Stmt} (hf:T[f]? = some (eE s)) {n:Nat} (G : 1<=n) {lA:Addr} {L:List Int} {M:Mem} {Q:QD} (ml:M lA=some (.lst (L.map .int))) (Y:L.length<=1000)
 (q:∀ M',Ge M M'->Q (.int (mex L)) M'):phi T n f [.ref lA] M Q:=by
 refine ar G hf rfl (ρ := [some _]) rfl ?_;unfold eE;walk_at "st";refine jR ml ?_;walk_at "wp";rw [gV];refine ⟨by lia,by lia, ?_⟩
 rw [show ((L.length:Int)+1).toNat=L.length+1 by lia]
 refine aO (f:=fun i:Nat=>D.int (i:Nat)) (ys:=Gc (L.length+1)) (I:=fun l ρ M' acc => ∃ o:Option D, ρ = [o,some (.ref lA)]/\M'=M/\acc=((l.filter fun i:Nat => !decide ((i:Int)∈L)).map fun i:Nat=>(i:Int)).map D.int) cU ⟨none,rfl,rfl,rfl⟩ (fun _ _ _ _ _=>trivial) ?_ ?_
 ·rintro l i r ρ M' acc e ⟨o,rfl,rfl,rfl⟩;refine ⟨_,rfl,fun N' F => ?_⟩;have J:=av e;rw [Ng] at J;refine ⟨_,rfl,_,rfl,L,af ml,_,rfl, ?_⟩;have Z:=FV (fun i:Nat => !decide ((i:Int)∈L)) l
  cases hd:decide ((i:Int)∈L) with
  | true =>
    rw [if_neg (by decide)]
    exact F _ _ _ ⟨_,rfl,rfl,by rw [G1,Gs,hd];simp⟩
  | false =>
    rw [if_pos (by decide)]
    refine ⟨_,rfl,by rw [gV,gV,hH];lia,F _ _ _ ⟨_,rfl,rfl,by rw [G1,Gs,hd];simp⟩⟩
 ·rintro ρ M' acc ⟨o,rfl,rfl,rfl⟩ p hp;have hm:=bS L;have j:((mex L:Nat):Int)∈((Gc (L.length+1)).filter fun i:Nat => !decide ((i:Int)∈L)).map fun i:Nat=>(i:Int):=by
   refine FI.mpr ⟨mex L,G3.mpr ⟨Kg.mpr (by have:=hm.le;lia), ?_⟩,rfl⟩
   rw [decide_eq_false hm.1];rfl
  refine ⟨p,_,rfl,aa,(fun z=>by rw [z] at j;cases j),fun i hi O => ?_⟩
  obtain ⟨k,U,rfl⟩:=FI.mp hi;have h1:=O _ j;have B:=(G3.mp U).2;have e:k=mex L:=by
   rcases Nat.lt_or_ge k (mex L) with z | z
   ·have:=hm.2 k z;simp [this] at B
   ·lia
  rw [e];exact q _ (Ge.new hp)
end
section
open PySem PySem.Spec PyProof.Rows L2.Srt
variable {T:List FD}
noncomputable abbrev K3:=Int×Int×Int
noncomputable abbrev Tm:=K3×Int
noncomputable def k3K (k:K3):Ky := .tup [.int k.1, .int k.2.1, .int k.2.2]
def klt (a b:K3):Prop:=ltK (k3K a) (k3K b)=true
noncomputable def cf (ts:List Tm) (k:K3):Int:=((ts.filter fun t=>decide (t.1=k)).map (·.2)).sum
theorem jn {k:K3}:cf [] k=0:=rfl
theorem eF {t:Tm} {ts:List Tm} {k:K3}:cf (t::ts) k=(if t.1=k then t.2 else 0)+cf ts k:=by
 unfold cf
 by_cases h:t.1=k
 ·rw [GN (by simpa using h),if_pos h];simp
 ·rw [GL (by simpa using h),if_neg h];simp
theorem fX {a b:List Tm} {k:K3}:cf (a++b) k=cf a k+cf b k:=by
 induction a with
 | nil=>simp [jn]
 | cons t a ih=>rw [IM,eF,eF,ih];lia
theorem qE {ts:List Tm} {k:K3} (h:∀ t∈ts,t.1≠k):cf ts k=0:=by
 induction ts with
 | nil=>rfl
 | cons t ts ih=>rw [eF,if_neg (h t (by simp)),ih fun u j=>h u (by simp [j])];rfl
theorem Co {ts:List Tm} (j:(ts.map (·.1)).Nodup) {t:Tm} (q:t∈ts):cf ts t.1=t.2:=by
 induction ts with
 | nil=>simp at q
 | cons u ts ih =>
   simp only [FL,Hw] at j;rw [eF]
   rcases Fx.mp q with z | z
   ·subst z;rw [if_pos rfl,qE fun v B e=>j.1 (by rw [<- e];exact GS B)]
    lia
   ·rw [if_neg fun e=>j.1 (by rw [e];exact GS z),ih j.2 z];lia
theorem y6 {α:Type} {P:List α -> Prop} (h0:P []) (h1:∀ l x,P l->P (l++[x])) (l:List α):P l:=by
 have:∀ r:List α,P r.reverse:=by
  intro r
  induction r with
  | nil=>exact h0
  | cons x r ih=>rw [Iz];exact h1 _ _ ih
 have:=this l.reverse;rw [List.reverse_reverse] at this;exact this
structure IsTask (ts rs:List Tm):Prop where
 srt:rs.Pairwise fun a b=>klt a.1 b.1
 nz:∀ r∈rs,r.2≠0
 cf:∀ k,cf rs k=cf ts k
 mem:∀ r∈rs,r.1∈ts.map (·.1)
 len:rs.length<=ts.length
end
section
open PySem PySem.Spec PyProof.Rows L2.Srt
variable {T:List FD}
structure InB (rs:List Tm) (la lb N:Nat):Prop where
 k:∀ r∈rs,0<=r.1.1/\r.1.1 < N
 i:∀ r∈rs,0<=r.1.2.1/\r.1.2.1 < la
 j:∀ r∈rs,0<=r.1.2.2/\r.1.2.2 < lb
 c:∀ r∈rs, -(2 ^ 64) < r.2/\r.2 < 2 ^ 64
end
section
open PySem PySem.Spec PyProof.Rows L2.Srt
variable {T:List FD}
theorem IsTask.ref {ts rs:List Tm} (h:IsTask ts rs) {j q L2:Nat} (z:InB rs j q L2):True:=trivial
end
section
open PySem PySem.Spec PyProof.Rows L2.Srt
variable {T:List FD}
noncomputable def idx (l:List Int):List (Int×Int):=l.mapIdx fun i x=>((i:Nat),x)
noncomputable def nz (l:List Int):List (Int×Int):=(idx l).filter fun q => !(q.2==0)
noncomputable def pD (q:Int×Int):D := .tup [.int q.1, .int q.2]
theorem jU {l:List Int}:(idx l).length=l.length:=by simp [idx]
theorem bE {l:List Int}:(nz l).length<=l.length:=by
 unfold nz;exact G8 (FV _ _) (by rw [jU];exact Fy _)
theorem y7 {l:List Int}:cQ (l.map .int)=(idx l).map pD:=by
 unfold cQ idx;apply HR;intro j;simp only [HQ,FK]
 cases l[j]? <;> rfl
noncomputable def jV (i a j b:Int) (zs:List (Int×Int)):List Tm:=zs.map fun z=>((z.1,i,j),a*b*z.2)
noncomputable def io (i a:Int) (ys zs:List (Int×Int)):List Tm:=ys.flatMap fun y=>jV i a y.1 y.2 zs
noncomputable def jW (xs ys zs:List (Int×Int)):List Tm:=xs.flatMap fun x=>io x.1 x.2 ys zs
noncomputable def y8 (p:Pr):List Tm:=jW (nz p.1) (nz p.2.1) (nz p.2.2)
noncomputable def y9 (ps:List Pr):List Tm:=ps.flatMap y8
structure IsSum (ps:List Pr) (L:List Tm):Prop where
 nd:(L.map (·.1)).Nodup
 nz:∀ t∈L,t.2≠0
 cf:∀ k,cf L k=cf (y9 ps) k
end
section
open PySem PySem.Spec PyProof.Rows L2.Srt
noncomputable def S1 (zs:List (Int×Int)) (k:Int):Int:=(zs.map fun z=>if z.1=k then z.2 else 0).sum
theorem df {z:Int×Int} {zs:List (Int×Int)} {k:Int}:S1 (z::zs) k=(if z.1=k then z.2 else 0)+S1 zs k:=by simp [S1]
theorem qF {α:Type} {F : α -> List Tm} {k:K3}:∀ l:List α,cf (l.flatMap F) k=(l.map fun x=>cf (F x) k).sum
 | [] => rfl
 | x::l=>by rw [IB,fX,qF l];simp
theorem qG {i a j b k i' j':Int}:∀ {zs:List (Int×Int)},cf (jV i a j b zs) (k,i',j')=if i=i'/\j=j' then a*b*S1 zs k else 0
 | [] => by simp [jV,jn,S1]
 | z::zs=>by
   rw [show jV i a j b (z::zs)=((z.1,i,j),a*b*z.2)::jV i a j b zs from rfl,eF,qG,df]
   by_cases h:i=i'/\j=j'
   ·obtain ⟨rfl,rfl⟩:=h
    by_cases q:z.1=k
    ·subst q;simp [Int.mul_add]
    ·have : ¬ ((z.1,i,j)=(k,i,j)):=fun e=>q (congrArg (·.1) e);rw [if_neg this,if_pos ⟨rfl,rfl⟩,if_pos ⟨rfl,rfl⟩,if_neg q];simp
   ·have : ¬ ((z.1,i,j)=(k,i',j')):=fun e=>h ⟨congrArg (·.2.1) e,congrArg (·.2.2) e⟩;rw [if_neg this,if_neg h,if_neg h];rfl
theorem qH {i a k i' j':Int} {zs:List (Int×Int)}:∀ {ys:List (Int×Int)},cf (io i a ys zs) (k,i',j')=if i=i' then a*S1 ys j'*S1 zs k else 0
 | [] => by simp [io,jn,S1]
 | y::ys=>by
   rw [show io i a (y::ys) zs=jV i a y.1 y.2 zs++io i a ys zs from by simp [io],fX,qH,qG,df]
   by_cases h:i=i'
   ·subst h
    by_cases j:y.1=j'
    ·subst j;simp [Int.mul_add,Int.add_mul]
    ·rw [if_neg (fun e=>j e.2),if_pos rfl,if_pos rfl,if_neg j];simp
   ·rw [if_neg (fun e=>h e.1),if_neg h,if_neg h];rfl
theorem qI {k i' j':Int} {ys zs:List (Int×Int)}:∀ {xs:List (Int×Int)},cf (jW xs ys zs) (k,i',j')=S1 xs i'*S1 ys j'*S1 zs k
 | [] => by simp [jW,jn,S1]
 | x::xs=>by
   rw [show jW (x::xs) ys zs=io x.1 x.2 ys zs++jW xs ys zs from by simp [jW],fX,qI,qH,df]
   by_cases h:x.1=i'
   ·subst h;simp [Int.add_mul]
   ·rw [if_neg h,if_neg h];simp
noncomputable def gz (l:List Int) (i:Int):Int:=if i < 0 then 0 else l.getD i.toNat 0
theorem vB {l:List Int} {i:Int} (h:i < 0):gz l i=0:=if_pos h
theorem vC {i:Int}:gz [] i=0:=by unfold gz;split <;> simp
theorem jX {x:Int} {l:List Int} {i:Int}:gz (x::l) i=if i=0 then x else gz l (i - 1):=by
 unfold gz
 by_cases h:i < 0
 ·rw [if_pos h,if_neg (by lia),if_pos (by lia)]
 ·rw [if_neg h]
  by_cases h0:i=0
  ·subst h0;simp
  ·rw [if_neg h0,if_neg (by lia)]
   obtain ⟨n,rfl⟩:∃ n:Nat,i=((n+1:Nat):Int):=⟨(i - 1).toNat,by lia⟩
   rw [show (((n+1:Nat):Int) - 1).toNat=n by lia,Ht]
   simp
theorem vD {a b:List Int}:∀ {i:Int},gz (a++b) i=if i < a.length then gz a i else gz b (i - a.length):=by
 induction a with
 | nil =>
   intro i
   by_cases h:i < 0
   ·rw [if_pos (by simpa using h),J3,vB h,vB h]
   ·rw [if_neg (by simpa using h)];simp
 | cons x a ih =>
   intro i;rw [IM,jX,jX,ih,Gj]
   by_cases h0:i=0
   ·subst h0;rw [if_pos rfl,if_pos rfl,if_pos (by lia)]
   ·rw [if_neg h0,if_neg h0]
    by_cases h:i < ((a.length+1:Nat):Int)
    ·rw [if_pos (by lia),if_pos h]
    ·rw [if_neg (by lia),if_neg h]
     congr 1;lia
theorem Cp {l:List Int} {i:Int} (h:gz l i≠0) : 0<=i/\i < l.length:=by
 unfold gz at h
 by_cases hi:i < 0
 ·rw [if_pos hi] at h;exact absurd rfl h
 ·rw [if_neg hi] at h;refine ⟨by lia, ?_⟩
  by_cases hl:i.toNat < l.length
  ·lia
  ·rw [IG,JD (by lia)] at h;exact absurd rfl h
theorem vE {a b:List (Int×Int)} {k:Int}:S1 (a++b) k=S1 a k+S1 b k:=by simp [S1]
theorem jo {k:Int}:∀ zs:List (Int×Int),S1 (zs.filter fun q => !(q.2==0)) k=S1 zs k
 | [] => rfl
 | z::zs=>by
   rw [df]
   by_cases h:z.2=0
   ·rw [GL (by simp [h]),jo zs,h];simp
   ·rw [GN (by simp [h]),df,jo zs]
theorem oJ (l:List Int) (k:Int):S1 (idx l) k=gz l k:=y6 (P:=fun l=>S1 (idx l) k=gz l k) (by rw [vC];rfl) (fun l x ih=>by
 have e:idx (l++[x])=idx l++[(((l.length:Nat):Int),x)]:=by simp [idx,List.mapIdx_append]
 rw [e,vE,ih,vD,df];simp only [S1,Jq,List.sum_nil]
 by_cases h:k < l.length
 ·rw [if_pos h,if_neg (by lia)];lia
 ·rw [if_neg h,jX,vC];have z:gz l k=0:=by
   cases Decidable.em (gz l k=0) with
   | inl h=>exact h
   | inr h'=>exact absurd (Cp h').2 h
  rw [z]
  by_cases e:(l.length:Int)=k
  ·rw [if_pos e,if_pos (by lia)];lia
  ·rw [if_neg e,if_neg (by lia)];rfl) l
theorem Ay {p:Pr} {k i j:Int}:cf (y8 p) (k,i,j)=gz p.1 i*gz p.2.1 j*gz p.2.2 k:=by
 unfold y8;rw [qI];unfold nz;rw [jo,jo,jo,oJ,oJ,oJ]
noncomputable def Tn (ps:List Pr) (k i j:Int):Int:=(ps.map fun p=>gz p.1 i*gz p.2.1 j*gz p.2.2 k).sum
theorem Az {ps:List Pr} {k i j:Int}:cf (y9 ps) (k,i,j)=Tn ps k i j:=by
 unfold y9 Tn;rw [qF];congr 1;exact IS fun p _=>Ay
theorem Cq {a:List Tm} (j:(a.map (·.1)).Nodup) {k:K3} (h:cf a k≠0):(k,cf a k)∈a:=by
 by_cases e:∃ r∈a,r.1=k
 ·obtain ⟨r,hr,rfl⟩:=e;rw [Co j hr];exact hr
 ·exact absurd (qE fun r hr z=>e ⟨r,hr,z⟩) h
theorem IsSum.mem {ps:List Pr} {L:List Tm} (h:IsSum ps L) {k i j:Int} (q:Tn ps k i j≠0):((k,i,j),Tn ps k i j)∈L:=by
 have e:Mi.cf L (k,i,j)=Tn ps k i j:=by rw [h.cf,Az]
 rw [<- e] at q ⊢;exact Cq h.nd q
end
section
variable {T:List FD}
noncomputable def fY (x:Str) (s:Stmt) (ft fp:Nat):FD:=⟨"_law_scheme",s,["_law_box_here",x, "_law_count", "_law_products", "_law_k", "_law_product", "_law_way", "_law_side"],3,
 (.cons (.asg (.name 3) (.lst .nil))
 (.cons (.for (.name 4) (.rng1 (.var 2)) (.cons (.asg (.name 5) (.comp [none,(some 0)] ["_law_length", "_law_box_here"] (.last (.seq (.var 1)) (.name 0) .nil (.call fp (.cons (.var 1) (.cons (.var 0) .nil))))))
 (.cons (.asg (.name 6) (.call ft (.cons (.var 0) (.cons (.int 8) .nil))))
 (.cons (.ite (.and (.cons (.cmp .lt (.var 6) (.int 3)) (.cons (.cmp .ne (.var 3) (.lst .nil)) .nil))) (.cons (.put (.var 5) (.var 6) (.ix (.ix (.var 3) (.call ft (.cons (.var 0) (.cons (.blt .len (.cons (.var 3) .nil)) .nil)))) (.var 6)))
 .nil) .nil)
 (.cons (.ite (.cmp .eq (.var 6) (.int 3)) (.cons (.asg (.name 7) (.call ft (.cons (.var 0) (.cons (.int 3) .nil))))
 (.cons (.put (.var 5) (.var 7) (.bin .mul (.tup (.cons (.int 0) .nil)) (.ix (.var 1) (.var 7))))
 .nil)) .nil)
 (.cons (.drop (.meth .append (.var 3) (.blt .tuple (.cons (.var 5) .nil))))
 .nil))))))
 (.cons (.ret (.bin .add (.blt .tuple (.cons (.var 1) .nil)) (.tup (.cons (.var 3) .nil))))
 .nil)))⟩
theorem sK {x:Str} {f ft fp:Nat} {s:Stmt} (hf:T[f]? = some (fY x s ft fp)) {n:Nat} (Er:fV T (n - 1) ft) (Es:vz T (n - 1) fp) (hn : 1<=n) {b a:Addr} {L0 L1 L2 c:Nat} (h0:L0<=1000) (h1:L1<=1000) (h2:L2<=1000) (hc:c<=1000) {M:Mem} {Q:QD} (hb:Box b M) (Eg:a≠b) (ha:M a=some (.lst [.int L0, .int L1, .int L2]))
 (q:∀ (ps:List Pr) pr M',ps.length=c->(∀ p∈ps,oD L0 L1 L2 p)->Bx b M M'->M pr=none->M' pr=some (.lst (ps.map prD))->Q (.tup [.int L0, .int L1, .int L2, .ref pr]) M'):phi T n f [.ref b, .ref a, .int c] M Q:=by
 refine ar (by lia) hf rfl (ρ := [some _,some _,some _,none,none,none,none,none]) rfl ?_
 unfold fY;walk_at "st";refine ⟨by lia,fun pr Ei => ?_⟩
 have U:pr≠b:=fun z=>by obtain ⟨x,y,w,e⟩:=hb;rw [<- z,Ei] at e;cases e
 have EI:pr≠a:=fun z=>by rw [<- z,Ei] at ha;cases ha
 walk_at "st";refine ⟨by lia,by lia, ?_⟩
 refine xX (I:=fun l ρ M' => ∃ (ps:List Pr) (o4 o5 o6 o7:Option D), ρ = [some (.ref b),some (.ref a),some (.int c),some (.ref pr),o4,o5,o6,o7]/\ps.length=l.length/\(∀ p∈ps,oD L0 L1 L2 p)/\Bx b M M'/\M' pr=some (.lst (ps.map prD)))
  ⟨[],none,none,none,none,rfl,rfl,fun _ h=>by simp at h,Bx.of hb (Ge.new Ei),aa⟩ (fun _ _ _ _=>trivial) ?_ ?_
 ·rintro l x r ρ M1 e ⟨ps,o4,o5,o6,o7,rfl,hl,hp,x1,Et⟩;have EA:=av e;rw [cT] at EA;refine ⟨_,rfl,fun F hF => ?_⟩;walk_at "wp";have Ej:=x1.keep a _ Eg ha;rw [cn];walk_at "wp";refine ⟨_,af Ej, ?_⟩;simp only [aY];refine ⟨af Ej,_,rfl, ?_⟩;walk_at "wp";refine Es h0 x1.box fun n0 M2 l0 s0 x2 => ?_;have Eu:=x2.keep a _ Eg Ej;refine ⟨by simp [hH],af Eu, ?_⟩
  refine Es h1 x2.box fun n1 M3 l1 s1 x3 => ?_;have Ev:=x3.keep a _ Eg Eu;refine ⟨by simp [hH],af Ev, ?_⟩
  refine Es h2 x3.box fun n2 M4 l2 s2 x4 => ?_;have Em:=x4.keep a _ Eg Ev;refine ⟨by simp [hH],af Em,fun pq Eh => ?_⟩
  have Ef:=x4.keep pr _ U (x3.keep pr _ U (x2.keep pr _ U Et));have x5:=((x1.trans x2).trans (x3.trans x4)).ge (Ge.new (o := .lst ([]++[D.tup (Ia D.int n0)]++[D.tup (Ia D.int n1)]++[D.tup (Ia D.int n2)])) Eh);have J:pq≠b:=fun z=>by obtain ⟨x,y,w,e⟩:=x4.box;rw [<- z,Eh] at e;cases e
  have L:M pq=none:=((x1.trans x2).trans (x3.trans x4)).none Eh J;have Y:pr≠pq:=fun z=>by rw [z,Eh] at Ef;cases Ef
  have EJ:a≠pq:=fun z=>by rw [z,Eh] at Em;cases Em
  have Eo:ad M4 pq (.lst ([]++[D.tup (Ia D.int n0)]++[D.tup (Ia D.int n1)]++[D.tup (Ia D.int n2)])) pr=some (.lst (ps.map prD)):=by rw [ab Y];exact Ef
  have Ew:ad M4 pq (.lst ([]++[D.tup (Ia D.int n0)]++[D.tup (Ia D.int n1)]++[D.tup (Ia D.int n2)])) pq=some (.lst (prL (n0,n1,n2))):=aa;have hok:oD L0 L1 L2 (n0,n1,n2):=⟨l0,l1,l2,s0,s1,s2⟩;generalize ad M4 pq (.lst ([]++[D.tup (Ia D.int n0)]++[D.tup (Ia D.int n1)]++[D.tup (Ia D.int n2)]))=M5 at x5 Eo Ew;generalize hP:(n0,n1,n2)=p0 at hok Ew;clear Eh Ef x4 Em x3 Ev x2 Eu hP;walk_at "st";refine Er x5.box (by decide) (by decide) fun way M6 w0 w1 x6 => ?_
  have Ek:=x6.keep pr _ U Eo;have Ey:=x6.keep pq _ J Ew;have Ez:=x5.trans x6;refine oF (I:=fun ρ' M' => ρ'=[some (.ref b),some (.ref a),some (.int c),some (.ref pr),some x,some (.ref pq),some (.int way),o7] /\ ∃ p:Pr,oD L0 L1 L2 p/\Bx b M M'/\M' pr=some (.lst (ps.map prD))/\M' pq=some (.lst (prL p))) (fun R hR => ?_) ?_
  ·walk_at "wp"
   split
   ·next hw =>
    refine ⟨by lia,fun pe EB => ?_⟩
    have g:=Ge.new (o := .lst []) EB;refine ⟨_,_,eA (g _ _ Ek) |>.trans (by rw [oE];rfl),eA aa, ?_⟩
    walk_at "wp";have x7:=Ez.ge g;have O:=g _ _ Ek;have El:=g _ _ Ey
    split
    ·next EC =>
     have EH : 0 < ps.length:=by
      cases ps with
      | nil=>simp [Gh,Hq] at EC
      | cons p r=>simp
     walk_at "st";refine jR O ?_;refine Er x7.box (by rw [gV];lia) (by rw [gV];lia) fun r M8 r0 r1 x8 => ?_
     have G:=x8.keep pr _ U O;have Z:=x8.keep pq _ J El;obtain ⟨d,e1,e2⟩:=ox r0 r1;refine aN G e1 ?_;rw [FK] at e2
     cases e3:ps[r.toNat]? with
     | none=>rw [e3] at e2;cases e2
     | some pp =>
       rw [e3] at e2;cases e2;have ho:=hp pp (FU e3);have ED:way=0∨way=1∨way=2:=by lia
       have x9:=x7.trans x8
       rcases ED with rfl | rfl | rfl
       ·refine ⟨_,_,rfl,rfl,bD Z (j := 0) rfl ?_⟩;exact hR _ _ ⟨rfl,(pp.1,p0.2.1,p0.2.2),⟨ho.l0,hok.l1,hok.l2,ho.s0,hok.s1,hok.s2⟩,x9.upd L J,by rw [ab Y];exact G,aa⟩
       ·refine ⟨_,_,rfl,rfl,bD Z (j := 1) rfl ?_⟩;exact hR _ _ ⟨rfl,(p0.1,pp.2.1,p0.2.2),⟨hok.l0,ho.l1,hok.l2,hok.s0,ho.s1,hok.s2⟩,x9.upd L J,by rw [ab Y];exact G,aa⟩
       ·refine ⟨_,_,rfl,rfl,bD Z (j := 2) rfl ?_⟩;exact hR _ _ ⟨rfl,(p0.1,p0.2.1,pp.2.2),⟨hok.l0,hok.l1,ho.l2,hok.s0,hok.s1,ho.s2⟩,x9.upd L J,by rw [ab Y];exact G,aa⟩
    ·exact hR _ _ ⟨rfl,p0,hok,x7,O,El⟩
   ·exact hR _ _ ⟨rfl,p0,hok,Ez,Ek,Ey⟩
  ·rintro ρ M7 ⟨rfl,p,B,x7,O,El⟩;refine oF (I:=fun ρ' M' => ∃ (o7:Option D), ρ'=[some (.ref b),some (.ref a),some (.int c),some (.ref pr),some x,some (.ref pq),some (.int way),o7] /\ ∃ p:Pr,oD L0 L1 L2 p/\Bx b M M'/\M' pr=some (.lst (ps.map prD))/\M' pq=some (.lst (prL p))) (fun R hR => ?_) ?_
   ·walk_at "wp"
    split
    ·walk_at "st";refine Er x7.box (by decide) (by decide) fun side M8 d0 d1 x8 => ?_
     have G:=x8.keep pr _ U O;have Z:=x8.keep pq _ J El;have x9:=x7.trans x8;have Ex:=x9.keep a _ Eg ha;walk_at "st";refine ⟨by rw [hH];lia, ?_⟩
     have EE:side=0∨side=1∨side=2:=by lia
     rcases EE with rfl | rfl | rfl
     ·refine aN Ex (d := .int L0) rfl ?_;walk_at "wp";refine ⟨by lia,by lia,by rw [hH];lia,bD Z (j := 0) rfl ?_⟩
      rw [xZ];exact hR _ _ ⟨_,rfl,(FA (L0:Int).toNat 0,p.2.1,p.2.2),⟨by simp,B.l1,B.l2,fW,B.s1,B.s2⟩,x9.upd L J,by rw [ab Y];exact G,aa⟩
     ·refine aN Ex (d := .int L1) rfl ?_;walk_at "wp";refine ⟨by lia,by lia,by rw [hH];lia,bD Z (j := 1) rfl ?_⟩
      rw [xZ];exact hR _ _ ⟨_,rfl,(p.1,FA (L1:Int).toNat 0,p.2.2),⟨B.l0,by simp,B.l2,B.s0,fW,B.s2⟩,x9.upd L J,by rw [ab Y];exact G,aa⟩
     ·refine aN Ex (d := .int L2) rfl ?_;walk_at "wp";refine ⟨by lia,by lia,by rw [hH];lia,bD Z (j := 2) rfl ?_⟩
      rw [xZ];exact hR _ _ ⟨_,rfl,(p.1,p.2.1,FA (L2:Int).toNat 0),⟨B.l0,B.l1,by simp,B.s0,B.s1,fW⟩,x9.upd L J,by rw [ab Y];exact G,aa⟩
    ·exact hR _ _ ⟨_,rfl,p,B,x7,O,El⟩
   ·rintro ρ M9 ⟨EK,rfl,p,B,x9,Ep,EF⟩;walk_at "st";refine ⟨⟨_,Ep⟩,_,_,rfl,af EF,_,_,_,rfl,rfl,Ep,by rw [gV,hH];lia, ?_⟩
    walk_at "wp";exact hF _ _ ⟨ps++[p],_,_,_,_,rfl,by simp [hl],fun p' EG=>(FC.mp EG).elim (hp p') fun z=>by simp at z;subst z;exact B,x9.upd Ei U,by rw [aa];simp [prD,prL]⟩
 ·rintro ρ M1 ⟨ps,o4,o5,o6,o7,rfl,hl,hp,x1,Et⟩;have Ej:=x1.keep a _ Eg ha;dsimp only;walk_at "st";refine ⟨_,_,rfl,af Ej,by rw [hH];lia, ?_⟩
  walk_at "wp";rw [cT] at hl;exact ⟨by simp,by rw [hH];lia,q ps pr M1 (by lia) hp x1 Ei Et⟩
end
section
noncomputable abbrev K2:=Int×Int
noncomputable def k2D (k:K2):D := .tup [.int k.1, .int k.2]
noncomputable def raD (r:K2×Addr):D×D:=(k2D r.1, .ref r.2)
theorem dA {α β:Type} {f : α -> β}:∀ {l:List α},(l.map f).Nodup -> ∀ {x y : α},x∈l->y∈l->f x=f y->x=y
 | [],_,x,_,hx,_,_=>by cases hx
 | z::l,h,x,y,hx,B,e=>by
   rw [FL,Hw] at h
   rcases Fx.mp hx with rfl | j <;> rcases Fx.mp B with rfl | q
   ·rfl
   ·exact absurd (FI.mpr ⟨y,q,e.symm⟩) h.1
   ·exact absurd (FI.mpr ⟨x,j,e⟩) h.1
   ·exact dA h.2 j q e
structure RI (d:Addr) (N:Nat) (M:Mem) (R:List (K2×Addr)) (g:K2->List Int):Prop where
 dct:M d=some (.dct true (R.map raD))
 keys:(R.map (·.1)).Nodup
 ads:(R.map (·.2)).Nodup
 nd:∀ r∈R,r.2≠d
 row:∀ r∈R,M r.2=some (.lst ((g r.1).map .int))
 ln:∀ k,(g k).length=N
 out:∀ k,k∉R.map (·.1)->g k=FA N 0
structure Run (d:Addr) (R:List (K2×Addr)) (M:Mem) (R':List (K2×Addr)) (M':Mem):Prop where
 ex:∀ r∈R',r∈R∨M r.2=none
 kp:∀ b o,b≠d->b∉R.map (·.2)->M b=some o->M' b=some o
theorem RI.new {d:Addr} {N:Nat} {M:Mem} {R:List (K2×Addr)} {g:K2->List Int} (h:RI d N M R g) {k:K2} (G:k∉R.map (·.1)) {M1:Mem} {a:Addr} (ga:Ge M M1) (j:M a=none) (h1:M1 a=some (.lst ((FA N (0:Int)).map .int))) :
 RI d N (ad M1 d (.dct true ((R++[(k,a)]).map raD))) (R++[(k,a)]) g/\Run d R M (R++[(k,a)]) (ad M1 d (.dct true ((R++[(k,a)]).map raD))):=by
 have q:a≠d:=fun z=>by rw [z,h.dct] at j;cases j
 refine ⟨⟨aa, ?_, ?_, ?_, ?_,h.ln, ?_⟩,⟨?_, ?_⟩⟩
 ·rw [D2,Hv];exact ⟨h.keys,by simp,fun x hx y B=>by simp at B;subst B;exact fun z=>G (z ▸ hx)⟩
 ·rw [D2,Hv];refine ⟨h.ads,by simp,fun x hx y B => ?_⟩
  simp at B;subst B;intro z;obtain ⟨r,hr,rfl⟩:=FI.mp hx;rw [<- z,h.row r hr] at j;cases j
 ·intro r hr
  rcases FC.mp hr with hr | hr
  ·exact h.nd r hr
  ·simp at hr;subst hr;exact q
 ·intro r hr
  rcases FC.mp hr with hr | hr
  ·rw [ab (h.nd r hr)];exact ga _ _ (h.row r hr)
  ·simp at hr;subst hr;rw [ab q,h1,h.out k G]
 ·intro k' F;exact h.out k' fun z=>F (by rw [D2];exact G4 _ z)
 ·intro r hr
  rcases FC.mp hr with hr | hr
  ·exact .inl hr
  ·simp at hr;subst hr;exact .inr j
 ·intro b o n m e;rw [ab n];exact ga _ _ e
theorem RI.put {d:Addr} {N:Nat} {M:Mem} {R:List (K2×Addr)} {g:K2->List Int} (h:RI d N M R g) {k:K2} {a:Addr} (hr:(k,a)∈R) {row:List Int} (B:row.length=N) :
 RI d N (ad M a (.lst (row.map .int))) R (fun k'=>if k'=k then row else g k')/\Run d R M R (ad M a (.lst (row.map .int))):=by
 refine ⟨⟨?_,h.keys,h.ads,h.nd, ?_, ?_, ?_⟩,⟨fun r h => .inl h, ?_⟩⟩
 ·rw [ab (fun z=>h.nd _ hr z.symm)];exact h.dct
 ·intro r j
  by_cases e:r=(k,a)
  ·subst e;rw [aa,if_pos rfl]
  ·have na:r.2≠a:=fun z=>e (dA h.ads j hr z);have nk:r.1≠k:=fun z=>e (dA h.keys j hr z);rw [ab na,if_neg nk];exact h.row r j
 ·intro k'
  split
  ·exact B
  ·exact h.ln k'
 ·intro k' q;rw [if_neg (fun z=>q (FI.mpr ⟨_,hr,z.symm⟩))];exact h.out k' q
 ·intro b o n m e;rw [ab (fun z=>m (FI.mpr ⟨_,hr,z.symm⟩))];exact e
end
section
open PySem PySem.Spec PyProof.Rows L2.Srt
variable {T:List FD}
noncomputable def bF (s:Stmt):FD:=⟨"filled",s,["part"],1,
 (.cons (.ret (.comp [none,none] ["at", "x"] (.last (.enum (.var 0)) (.tup (.cons (.name 0) (.cons (.name 1) .nil))) (.cons (.cmp .ne (.var 1) (.int 0)) .nil) (.tup (.cons (.var 0) (.cons (.var 1) .nil))))))
 .nil)⟩
theorem fZ {f:Nat} {s:Stmt} (hf:T[f]? = some (bF s)) {n:Nat} (G : 1<=n) {x:D} {l:List Int} (J:l.length<=1000000) {M:Mem} {Q:QD} (hx:au M x=some (l.map .int)) (q:∀ p,M p=none->Q (.ref p) (ad M p (.lst ((nz l).map pD)))):phi T n f [x] M Q:=by
 refine ar (by lia) hf rfl (ρ := [some _]) rfl ?_
 unfold bF;walk_at "st";refine ⟨_,hx, ?_⟩;rw [y7];refine aO (f:=pD) (ys:=idx l) (I:=fun r ρ M' acc=>(∃ o0 z, ρ = [o0,z])/\M'=M/\acc=(r.filter fun q => !(q.2==0)).map pD) rfl ⟨⟨_,_,rfl⟩,rfl,rfl⟩ (fun _ _ _ _ h=>by rw [h.2.1];exact hx) ?_ ?_
 ·rintro l' y r ρ M1 acc e ⟨⟨o0,z,rfl⟩,rfl,rfl⟩;refine ⟨_,rfl,fun N' j => ?_⟩;have B:=av e;rw [jU] at B;have F:(l'.filter fun q => !(q.2==0)).length<=l'.length:=FV _ _;walk_at "wp"
  by_cases hz:y.2=0
  ·rw [if_neg (by simp [hz])]
   refine j _ _ _ ⟨⟨_,_,rfl⟩,rfl, ?_⟩;rw [G1,GL (by simp [hz])];simp
  ·rw [if_pos (by simp [hz])]
   refine ⟨by rw [hH];lia,by rw [gV,hH];lia,j _ _ _ ⟨⟨_,_,rfl⟩,rfl, ?_⟩⟩
   rw [G1,GN (by simp [hz])];simp [pD]
 ·rintro ρ M1 acc ⟨⟨o0,z,rfl⟩,rfl,rfl⟩ p hp;exact q p hp
end
section
variable {T:List FD}
noncomputable def ptD (p:Int×Int):D := .tup [.int p.1, .int p.2]
noncomputable def lr:Bool->W
 | true => .l
 | false => .r
noncomputable def spD (q:Addr):Sp->D
 | .lin l r _ => .tup [.str (ws (lr l)), .int r, .ref q]
 | .tim r a b => .tup [.str (ws .t), .int r, .int a, .int b]
 | .put r c b => .tup [.str (ws .p), .int r, .int c, .int b]
 | .add a c b => .tup [.str (ws .a), .int a, .int c, .int b]
 | .emp a => .tup [.str (ws .e), .int a]
 | .tel k b => .tup [.str (ws .k), .int k, .int b]
noncomputable def spM (M:Mem) (q:Addr):Sp->Prop
 | .lin _ _ ps=>M q=some (.lst (ps.map ptD))
 | _=>True
theorem Cr {M M':Mem} {q:Addr} {s:Sp} (h:spM M q s) (g:Ge M M'):spM M' q s:=by
 cases s <;> first | exact g _ _ h | trivial
theorem vF:∀ n:Nat,aA fL (FA n (D.bl true))=some (FA n true)
 | 0=>rfl
 | n+1=>by
   rw [Gp,Gp];simp [aA,fL,vF n]
theorem AA {M:Mem} {p:Addr} {n:Nat} {Q:QD} (h:M p=some (.lst (FA n (D.bl true)))) (q:Q (.bl true) M):rN [.ref p] M Q:=by
 refine ⟨_,_,_,rfl,af h,vF n, ?_⟩;have:(FA n true).all id=true:=by simp
 rw [this];exact q
theorem ya {α:Type} {n:Nat} {d : α}:FA n d++[d]=FA (n+1) d:=by
 rw [List.replicate_succ']
end
section
variable {T:List FD}
noncomputable def cF (s:Stmt) (ff:Nat):FD:=⟨"parts_of",s,["part"],1,
 (.cons (.ret (.comp [none,none] ["at", "x"] (.last (.seq (.call ff (.cons (.var 0) .nil))) (.tup (.cons (.name 0) (.cons (.name 1) .nil))) .nil (.tup (.cons (.var 1) (.cons (.var 0) .nil))))))
 .nil)⟩
noncomputable def pts (l:List Int):List (Int×Int):=(nz l).map fun p=>(p.2,(p.1:Int))
theorem jq {f ff:Nat} {s sf:Stmt} (hf:T[f]? = some (cF s ff)) (j:T[ff]? = some (bF sf)) {n:Nat} (J : 2<=n) {x:D} {l:List Int} (L:l.length<=1000) {M:Mem} {Q:QD} (hx:au M x=some (l.map .int))
 (q:∀ p M',Ge M M'->M p=none->M' p=some (.lst ((pts l).map ptD))->Q (.ref p) M'):phi T n f [x] M Q:=by
 refine ar (by lia) hf rfl (ρ := [some _]) rfl ?_
 unfold cF;walk_at "st";refine fZ j (by lia) (by lia) hx fun p B => ?_
 have g1:=Ge.new (o := .lst ((nz l).map pD)) B;refine ⟨_,af aa, ?_⟩;refine aO (f:=pD) (ys:=nz l) (I:=fun l' ρ M' acc => ∃ o o':Option D, ρ = [o,o']/\M'=ad M p (.lst ((nz l).map pD))/\acc=(l'.map fun p=>(p.2,(p.1:Int))).map ptD) rfl ⟨none,none,rfl,rfl,rfl⟩ ?_ ?_ ?_
 ·rintro l' ρ M' acc ⟨o,o',rfl,rfl,rfl⟩;exact af aa
 ·rintro l' ⟨O,U⟩ r ρ M' acc e ⟨o,o',rfl,rfl,rfl⟩;refine ⟨_,rfl,fun N' F => ?_⟩;have Y:=av e;have:=bE (l:=l);walk_at "wp";refine ⟨by rw [hH];lia,by rw [gV,gV,hH];lia,F _ _ _ ⟨_,_,rfl,rfl,by simp [ptD]⟩⟩
 ·rintro ρ M' acc ⟨o,o',rfl,rfl,rfl⟩ p2 hp2;have G:M p2=none:=by
   by_cases z:p2=p
   ·subst z;exact B
   ·rw [ab z] at hp2;exact hp2
  exact q p2 _ (g1.trans (Ge.new hp2)) G aa
noncomputable def tk (k:Int):D×D:=(.int k, .bl true)
theorem mj (ks:List Int):ks.map tk=(ks.map fun k=>(k,true)).map (hD .bl):=by rw [G5];rfl
theorem qJ (ks:List Int):(ks.map fun k=>(k,true)).map (·.1)=ks:=by rw [G5];exact List.map_id' _
theorem DD {ks:List Int} {k:Int} (h:k∉ks):ip (ks.map fun k=>(k,true)) k true=(ks++[k]).map fun k=>(k,true):=by
 unfold ip;rw [im,qJ,decide_eq_false h,if_neg i4,D2];rfl
theorem gC {ks:List Int} {k:Int}:cN (ks.map tk) (.int k)=(kd ks k).map tk:=by
 rw [mj,il,mj];congr 1;unfold idr kd;rw [Og];rfl
theorem jr {ks:List Int} {k:Int} (h:k∈ks):aI (ks.map tk) (.int k)=some (.bl true):=by
 induction ks with
 | nil=>cases h
 | cons x ks ih =>
   unfold aI at ih ⊢;rw [FL,GP]
   by_cases z:x=k
   ·subst z;simp [tk]
   ·have j:k∈ks:=by rcases Fx.mp h with e | e;exact absurd e.symm z;exact e
    have:decide ((tk x).1 = .int k)=false:=by simp [tk,z]
    rw [this];exact ih j
def jY (T:List FD) (n f:Nat):Prop := ∀ {hA:Addr} {ks:List Int} {M:Mem} {Q:QD},M hA=some (.dct false (ks.map tk))->ks.length<=1000->Q (.int (mex ks:Nat)) (ad M hA (.dct false ((ks++[(mex ks:Int)]).map tk)))->phi T n f [.ref hA] M Q
theorem ll {f:Nat} {s:Stmt} (hf:T[f]? = some (eC s)) {n:Nat} (j : 1<=n):jY T n f:=fun {z ks M Q} mh hl q=>by
 rw [mj] at mh;refine y4 hf j mh (by rw [gV];exact hl) ?_
 rw [qJ,DD (bS ks).1, <- mj];exact q
noncomputable def gD (s:Stmt) (ft fp:Nat):FD:=⟨"times_steps",s,["l", "r", "held", "first", "second", "room", "steps"],3,
 (.cons (.asg (.name 3) (.call ft (.cons (.var 2) .nil)))
 (.cons (.asg (.name 4) (.call ft (.cons (.var 2) .nil)))
 (.cons (.asg (.name 5) (.call ft (.cons (.var 2) .nil)))
 (.cons (.asg (.name 6) (.lst (.cons (.tup (.cons (.str (q7 "left")) (.cons (.var 3) (.cons (.call fp (.cons (.var 0) .nil)) .nil)))) (.cons (.tup (.cons (.str (q7 "right")) (.cons (.var 4) (.cons (.call fp (.cons (.var 1) .nil)) .nil)))) (.cons (.tup (.cons (.str (q7 "times")) (.cons (.var 5) (.cons (.var 3) (.cons (.var 4) .nil))))) (.cons (.tup (.cons (.str (q7 "empty")) (.cons (.var 3) .nil))) (.cons (.tup (.cons (.str (q7 "empty")) (.cons (.var 4) .nil))) .nil)))))))
 (.cons (.delk (.var 2) (.var 3))
 (.cons (.delk (.var 2) (.var 4))
 (.cons (.ret (.tup (.cons (.var 6) (.cons (.var 5) .nil))))
 .nil)))))))⟩
noncomputable def r1 (ks:List Int):Int:=(mex ks:Nat)
noncomputable def r2 (ks:List Int):Int:=(mex (ks++[r1 ks]):Nat)
noncomputable def r3 (ks:List Int):Int:=(mex (ks++[r1 ks]++[r2 ks]):Nat)
noncomputable def tms (ks l r:List Int):List Sp := [.lin true (r1 ks) (pts l), .lin false (r2 ks) (pts r), .tim (r3 ks) (r1 ks) (r2 ks), .emp (r1 ks), .emp (r2 ks)]
theorem yb {f ft fp:Nat} {s:Stmt} (hf:T[f]? = some (gD s ft fp)) {n:Nat} (hn : 3<=n) (ht:jY T (n - 1) ft) {ff:Nat} {sp sf:Stmt} (J:T[fp]? = some (cF sp ff)) (L:T[ff]? = some (bF sf))
 {x y:D} {l r ks:List Int} {F:Addr} (hl:l.length<=1000) (hr:r.length<=1000) (hk:ks.length<=900) {M:Mem} {Q:QD} (mh:M F=some (.dct false (ks.map tk))) (hx:x = .tup (l.map .int)) (hy:y = .tup (r.map .int))
 (q:∀ p B j M',(∀ a o,a≠F->M a=some o->M' a=some o)->M p=none->M B=none->M j=none->M' F=some (.dct false ((ks++[r3 ks]).map tk))->M' p=some (.lst [spD B (.lin true (r1 ks) (pts l)),spD j (.lin false (r2 ks) (pts r)),spD p (.tim (r3 ks) (r1 ks) (r2 ks)),spD p (.emp (r1 ks)),spD p (.emp (r2 ks))])->M' B=some (.lst ((pts l).map ptD))->M' j=some (.lst ((pts r).map ptD))->Q (.tup [.ref p, .int (r3 ks)]) M'):phi T n f [x,y, .ref F] M Q:=by
 subst hx hy;refine ar (by lia) hf rfl (ρ := [some _,some _,some _,none,none,none,none]) rfl ?_
 unfold gD;walk_at "st";refine ht mh (by lia) ?_
 walk_at "st";refine ht aa (by simp;lia) ?_
 walk_at "st";refine ht aa (by simp;lia) ?_
 walk_at "st";rw [fU,fU];have O:=aa (M:=M) (a:=F) (o := .dct false ((ks++[r1 ks]++[r2 ks]++[r3 ks]).map tk));have k1:∀ a o,a≠F->M a=some o->ad M F (.dct false ((ks++[r1 ks]++[r2 ks]++[r3 ks]).map tk)) a=some o:=fun a o na e=>by rw [ab na];exact e
 have nn:∀ a,ad M F (.dct false ((ks++[r1 ks]++[r2 ks]++[r3 ks]).map tk)) a=none->M a=none:=fun a e=>by
  by_cases z:a=F
  ·subst z;rw [aa] at e;cases e
  ·rw [ab z] at e;exact e
 have e1:((mex ks:Nat):Int)=r1 ks:=rfl;have e2:((mex (ks++[r1 ks]):Nat):Int)=r2 ks:=rfl;have e3:((mex (ks++[r1 ks]++[r2 ks]):Nat):Int)=r3 ks:=rfl;simp only [e1,e2,e3];have h1:r1 ks∉ks:=(bS ks).1;have h2:r2 ks∉ks++[r1 ks]:=(bS _).1;have Y:r3 ks∉ks++[r1 ks]++[r2 ks]:=(bS _).1;generalize r1 ks=a at *
 generalize r2 ks=b at *
 generalize r3 ks=c at *
 generalize ad M F (.dct false ((ks++[a]++[b]++[c]).map tk))=M1 at O k1 nn ⊢;refine jq J L (by lia) hl rfl fun B M2 g2 n2 s2 => ?_
 refine ⟨by rw [hH];lia, ?_⟩
 refine jq J L (by lia) hr rfl fun j U g3 Z s3 => ?_
 refine ⟨by rw [hH];lia,by rw [hH];lia,by rw [hH];lia,by rw [hH];lia,by rw [hH];lia,fun p G => ?_⟩
 have g4:∀ ds,Ge M1 (ad U p (.lst ds)):=fun ds=>(g2.trans g3).trans (Ge.new G);walk_at "st";have el : [D.tup [D.str (q7 "left"),D.int a,D.ref B],D.tup [D.str (q7 "right"),D.int b,D.ref j],D.tup [D.str (q7 "times"),D.int c,D.int a,D.int b],D.tup [D.str (q7 "empty"),D.int a],D.tup [D.str (q7 "empty"),D.int b]]
  = [spD B (Sp.lin true a (pts l)),spD j (Sp.lin false b (pts r)),spD p (Sp.tim c a b),spD p (Sp.emp a),spD p (Sp.emp b)]:=rfl
 rw [el];have g5:=g4 [spD B (Sp.lin true a (pts l)),spD j (Sp.lin false b (pts r)),spD p (Sp.tim c a b),spD p (Sp.emp a),spD p (Sp.emp b)];have ep:=aa (M:=U) (a:=p) (o := .lst [spD B (Sp.lin true a (pts l)),spD j (Sp.lin false b (pts r)),spD p (Sp.tim c a b),spD p (Sp.emp a),spD p (Sp.emp b)]);have p1:p≠B:=fun z=>by rw [z,g3 _ _ s2] at G;cases G
 have p2:p≠j:=fun z=>by rw [z,s3] at G;cases G
 have pA:p≠F:=fun z=>by rw [z,g3 _ _ (g2 _ _ O)] at G;cases G
 have Ef:ad U p (.lst [spD B (Sp.lin true a (pts l)),spD j (Sp.lin false b (pts r)),spD p (Sp.tim c a b),spD p (Sp.emp a),spD p (Sp.emp b)]) B=some (.lst ((pts l).map ptD)):=by rw [ab (Ne.symm p1)];exact g3 _ _ s2
 have Eg:ad U p (.lst [spD B (Sp.lin true a (pts l)),spD j (Sp.lin false b (pts r)),spD p (Sp.tim c a b),spD p (Sp.emp a),spD p (Sp.emp b)]) j=some (.lst ((pts r).map ptD)):=by rw [ab (Ne.symm p2)];exact s3
 have np:M p=none:=nn _ (by
  cases hz:M1 p with
  | none=>rfl
  | some o=>rw [g3 _ _ (g2 _ _ hz)] at G;cases G)
 have Eh:M j=none:=nn _ (by
  cases hz:M1 j with
  | none=>rfl
  | some o=>rw [g2 _ _ hz] at Z;cases Z)
 have Ei:B≠F:=fun z=>by rw [z,O] at n2;cases n2
 have Ej:j≠F:=fun z=>by rw [z,g2 _ _ O] at Z;cases Z
 generalize ad U p (.lst [spD B (Sp.lin true a (pts l)),spD j (Sp.lin false b (pts r)),spD p (Sp.tim c a b),spD p (Sp.emp a),spD p (Sp.emp b)])=M4 at *
 refine ⟨_,g5 _ _ O,rfl,by rw [jr (by simp)];rfl, ?_⟩
 rw [gC];walk_at "st";have ea:kd (ks++[a]++[b]++[c]) a=ks++[b]++[c]:=by
  unfold kd;simp only [G1];simp only [FC,Gf,not_or] at h2 Y;rw [Mr.mpr (fun x hx=>by simp;intro z;exact h1 (z ▸ hx))]
  simp [h2.2,Y.1.2]
 have eb:kd (ks++[b]++[c]) b=ks++[c]:=by
  unfold kd;simp only [G1];simp only [FC,Gf,not_or] at h2 Y;rw [Mr.mpr (fun x hx=>by simp;intro z;exact h2.1 (z ▸ hx))]
  simp [Y.2]
 rw [ea];refine ⟨_,aa,rfl,by rw [jr (by simp)];rfl, ?_⟩
 rw [gC,eb,fU];walk_at "st";refine ⟨by rw [hH];lia,q p B j _ (fun a' o na e=>by rw [ab na];exact g5 _ _ (k1 _ _ na e)) np (nn _ n2) Eh aa (by rw [ab pA];exact ep) (by rw [ab Ei];exact Ef) (by rw [ab Ej];exact Eg)⟩
end
section
variable {T:List FD}
noncomputable def jt (s:Stmt) (ff ft:Nat):FD:=⟨"sum_steps",s,["o", "room", "rooms", "held", "steps", "k", "c"],4,
 (.cons (.asg (.name 4) (.lst .nil))
 (.cons (.for (.tup (.cons (.name 5) (.cons (.name 6) .nil))) (.seq (.call ff (.cons (.var 0) .nil))) (.cons (.ite (.cmp .inD (.var 5) (.var 2)) (.cons (.drop (.meth .append (.var 4) (.tup (.cons (.str (q7 "add")) (.cons (.ix (.var 2) (.var 5)) (.cons (.var 6) (.cons (.var 1) .nil)))))))
 .nil) (.cons (.put (.var 2) (.var 5) (.call ft (.cons (.var 3) .nil)))
 (.cons (.drop (.meth .append (.var 4) (.tup (.cons (.str (q7 "put")) (.cons (.ix (.var 2) (.var 5)) (.cons (.var 6) (.cons (.var 1) .nil)))))))
 .nil)))
 .nil))
 (.cons (.delk (.var 3) (.var 1))
 (.cons (.ret (.bin .add (.var 4) (.lst (.cons (.tup (.cons (.str (q7 "empty")) (.cons (.var 1) .nil))) .nil))))
 .nil))))⟩
noncomputable abbrev Pst:=List Sp×List Int×List (Int×Int)
noncomputable def pS (room:Int) (s:Pst) (kc:Int×Int):Pst:=match ig s.2.2 kc.1 with
 | some v=>(s.1++[.add v kc.2 room],s.2.1,s.2.2)
 | none=>(s.1++[.put (mex s.2.1:Nat) kc.2 room],s.2.1++[(mex s.2.1:Int)],s.2.2++[(kc.1,(mex s.2.1:Int))])
noncomputable def pSs (room:Int) (ks:List Int) (rs:List (Int×Int)) (l:List (Int×Int)):Pst:=l.foldl (pS room) ([],ks,rs)
theorem bZ {room:Int} {ks:List Int} {rs l:List (Int×Int)} {kc:Int×Int}:pSs room ks rs (l++[kc])=pS room (pSs room ks rs l) kc:=by unfold pSs;rw [HS];rfl
theorem vG {room:Int}:∀ (l:List (Int×Int)) (s:Pst),(l.foldl (pS room) s).1.length=s.1.length+l.length/\(l.foldl (pS room) s).2.1.length<=s.2.1.length+l.length/\(l.foldl (pS room) s).2.2.length<=s.2.2.length+l.length /\ ∀ x∈s.2.1,x∈(l.foldl (pS room) s).2.1
 | [],s=>⟨rfl,Fy _,Fy _,fun _ h=>h⟩
 | kc::l,s=>by
   rw [Gr];obtain ⟨h1,h2,q,j⟩:=vG (room:=room) l (pS room s kc);have e:(pS room s kc).1.length=s.1.length+1/\(pS room s kc).2.1.length<=s.2.1.length+1/\(pS room s kc).2.2.length<=s.2.2.length+1 /\ ∀ x∈s.2.1,x∈(pS room s kc).2.1:=by
    unfold pS
    cases ig s.2.2 kc.1 with
    | some v=>exact ⟨by simp,by simp,by simp,fun _ h=>h⟩
    | none=>exact ⟨by simp,by simp,by simp,fun x hx=>G4 _ hx⟩
   rw [Gj];exact ⟨by lia,by lia,by lia,fun x hx=>j x (e.2.2.2 x hx)⟩
theorem dg {room:Int} {ks:List Int} {rs:List (Int×Int)} (l:List (Int×Int)):(pSs room ks rs l).1.length=l.length/\(pSs room ks rs l).2.1.length<=ks.length+l.length/\(pSs room ks rs l).2.2.length<=rs.length+l.length /\ ∀ x∈ks,x∈(pSs room ks rs l).2.1:=by
 have:=vG (room:=room) l ([],ks,rs);exact ⟨by have h:=this.1;rw [Io,Nat.zero_add] at h;exact h,this.2.1,this.2.2.1,this.2.2.2⟩
theorem vH {rs:List (Int×Int)} {k v:Int} (h:ig rs k=none):ip rs k v=rs++[(k,v)]:=by
 unfold ip;rw [if_neg];intro z;unfold ig at h;rw [Lq,List.find?_eq_none] at h;obtain ⟨p,j,e⟩:=I8.mp z;exact h p j e
theorem jZ {rs:List (Int×Int)} {k v:Int} (h:ig rs k=none):ig (rs++[(k,v)]) k=some v:=by
 unfold ig at h ⊢;rw [Lq] at h;rw [List.find?_append,h];simp
theorem AB {f ff ft:Nat} {s sf:Stmt} (hf:T[f]? = some (jt s ff ft)) {n:Nat} (hn : 2<=n) (ht:jY T (n - 1) ft) (Ef:T[ff]? = some (bF sf))
 {o ks:List Int} {rs:List (Int×Int)} {room:Int} {G rA:Addr} (hr:G≠rA) (hl:o.length<=100) (hk:ks.length<=800) (Eg:rs.length<=800) (hm:room∈ks) {M:Mem} {Q:QD} (mh:M G=some (.dct false (ks.map tk))) (mr:M rA=some (.dct false (rs.map (hD .int))))
 (q:∀ p M',(∀ a o,a≠G->a≠rA->M a=some o->M' a=some o)->M p=none->M' G=some (.dct false ((kd (pSs room ks rs (nz o)).2.1 room).map tk))->M' rA=some (.dct false ((pSs room ks rs (nz o)).2.2.map (hD .int)))->M' p=some (.lst (((pSs room ks rs (nz o)).1++[Sp.emp room]).map (spD 0)))->Q (.ref p) M') :
 phi T n f [.tup (o.map .int), .int room, .ref rA, .ref G] M Q:=by
 refine ar (by lia) hf rfl (ρ := [some _,some _,some _,some _,none,none,none]) rfl ?_
 unfold jt;walk_at "st";refine ⟨by rw [hH];lia,fun ps J => ?_⟩
 walk_at "st";refine fZ Ef (by lia) (by lia) rfl fun pf B => ?_
 have b1:=Ge.new (o := .lst []) J;have Y:=b1.trans (Ge.new (o := .lst ((nz o).map pD)) B);have sH:ps≠G:=fun z=>by rw [z,mh] at J;cases J
 have sR:ps≠rA:=fun z=>by rw [z,mr] at J;cases J
 have fH:pf≠G:=fun z=>by rw [z,b1 _ _ mh] at B;cases B
 have fR:pf≠rA:=fun z=>by rw [z,b1 _ _ mr] at B;cases B
 have fS:pf≠ps:=fun z=>by rw [z,aa] at B;cases B
 have m2:ad (ad M ps (.lst [])) pf (.lst ((nz o).map pD)) ps=some (.lst []):=by rw [ab (Ne.symm fS),aa]
 have m3:=aa (M:=ad M ps (.lst [])) (a:=pf) (o := .lst ((nz o).map pD));generalize ad (ad M ps (.lst [])) pf (.lst ((nz o).map pD))=M1 at Y m2 m3 ⊢;refine ⟨_,af m3, ?_⟩;have hz:=bE (l:=o);refine br (f:=pD) (ys:=nz o) (I:=fun l ρ M' => ∃ o5 o6:Option D, ρ = [some (.tup (o.map .int)),some (.int room),some (.ref rA),some (.ref G),some (.ref ps),o5,o6]/\(∀ a o,a≠G->a≠rA->a≠ps->M1 a=some o->M' a=some o)/\M' G=some (.dct false ((pSs room ks rs l).2.1.map tk))/\M' rA=some (.dct false ((pSs room ks rs l).2.2.map (hD .int)))/\M' ps=some (.lst ((pSs room ks rs l).1.map (spD 0)))) rfl ⟨none,none,rfl,fun _ _ _ _ _ e=>e,Y _ _ mh,Y _ _ mr,m2⟩ ?_ ?_ ?_
 ·rintro l ρ M' ⟨o5,o6,rfl,fr,_,_,_⟩;exact af (fr _ _ fH fR fS m3)
 ·rintro l ⟨k,c⟩ r ρ M' e ⟨o5,o6,rfl,fr,eh,er,es⟩;refine ⟨_,rfl,fun F hF => ?_⟩;have Eh:=av e;obtain ⟨l1,l2,l3,l4⟩:=dg (room:=room) (ks:=ks) (rs:=rs) l;walk_at "st";refine ⟨rA,false,_,rfl, .inl er,rfl, ?_⟩;rw [if_neg i4,bb,HP]
  cases U:ig (pSs room ks rs l).2.2 k with
  | some v =>
    refine ⟨true,rfl, ?_⟩;rw [if_pos rfl];walk_at "st";refine ⟨⟨_,es⟩, ?_⟩;refine dz er rfl (d := .int v) (by rw [bb,U];rfl) ?_
    refine ⟨by rw [hH];lia, ?_⟩
    refine ⟨ps,_,_,rfl,rfl,es,by rw [gV,hH];lia, ?_⟩
    refine hF _ _ ⟨_,_,rfl,fun a o h1 h2 L e=>by rw [ab L];exact fr _ _ h1 h2 L e, ?_, ?_, ?_⟩
    ·rw [ab (Ne.symm sH),eh,bZ];unfold pS;rw [U]
    ·rw [ab (Ne.symm sR),er,bZ];unfold pS;rw [U]
    ·rw [aa,bZ];unfold pS;rw [U,D2];rfl
  | none =>
    refine ⟨false,rfl, ?_⟩;rw [if_neg i4];walk_at "st";refine ht eh (by lia) ?_
    refine ij (by rw [ab (Ne.symm hr)];exact er) rfl (by rw [gV,hH];lia) ?_
    rw [gB (g:=D.int),vH U];walk_at "st";have Z:ad (ad M' G (.dct false (((pSs room ks rs l).2.1++[(mex (pSs room ks rs l).2.1:Int)]).map tk))) rA (.dct false (((pSs room ks rs l).2.2++[(k,(mex (pSs room ks rs l).2.1:Int))]).map (hD .int))) ps=some (.lst ((pSs room ks rs l).1.map (spD 0))):=by
     rw [ab sR,ab sH];exact es
    refine ⟨⟨_,Z⟩, ?_⟩;refine dz (t:=false) aa rfl (d := .int (mex (pSs room ks rs l).2.1:Nat)) (by rw [bb,jZ U];rfl) ?_
    refine ⟨by rw [hH];lia, ?_⟩
    refine ⟨ps,_,_,rfl,rfl,Z,by rw [gV,hH];lia, ?_⟩
    refine hF _ _ ⟨_,_,rfl,fun a o h1 h2 L e=>by rw [ab L,ab h2,ab h1];exact fr _ _ h1 h2 L e, ?_, ?_, ?_⟩
    ·rw [ab (Ne.symm sH),ab hr,aa,bZ];unfold pS;rw [U]
    ·rw [ab (Ne.symm sR),aa,bZ];unfold pS;rw [U]
    ·rw [aa,bZ];unfold pS;rw [U,D2];rfl
 ·rintro ρ M' ⟨o5,o6,rfl,fr,eh,er,es⟩;walk_at "st";obtain ⟨l1,l2,l3,l4⟩:=dg (room:=room) (ks:=ks) (rs:=rs) (nz o);refine ⟨_,eh,rfl,by rw [jr (l4 _ hm)];rfl, ?_⟩
  rw [gC];walk_at "st";refine ⟨by rw [hH];lia,by rw [hH];lia,fun pe j => ?_⟩
  have sE:ps≠pe:=fun z=>by rw [<- z,ab sH,es] at j;cases j
  have nM:∀ a,M1 a=none->M a=none:=fun a e=>by
   cases hz:M a with
   | none=>rfl
   | some o=>rw [Y _ _ hz] at e;cases e
  have keep:∀ a,M' a=none->M a=none:=fun a e=>nM a (by
   cases hz:M1 a with
   | none=>rfl
   | some o =>
     by_cases h1:a=G
     ·rw [h1,eh] at e;cases e
     ·by_cases h2:a=rA
      ·rw [h2,er] at e;cases e
      ·by_cases L:a=ps
       ·rw [L,es] at e;cases e
       ·rw [fr _ _ h1 h2 L hz] at e;cases e)
  rw [ow];refine ⟨_,_,by rw [ab sE,ab sH];exact es,aa,by rw [gV,hH];simp;lia,fun p O => ?_⟩
  have pe':p≠pe:=fun z=>by rw [z,aa] at O;cases O
  rw [ab pe'] at O;have pH:p≠G:=fun z=>by rw [z,aa] at O;cases O
  rw [ab pH] at O;have eH:pe≠G:=fun z=>by rw [z,aa] at j;cases j
  rw [ab eH] at j;have pR:p≠rA:=fun z=>by rw [z,er] at O;cases O
  have eR:pe≠rA:=fun z=>by rw [z,er] at j;cases j
  refine q p _ (fun a o h1 h2 e => ?_) (keep p O) ?_ ?_ ?_
  ·have L:a≠ps:=fun z=>by rw [z,J] at e;cases e
   have h4:a≠p:=fun z=>by rw [z,keep p O] at e;cases e
   have h5:a≠pe:=fun z=>by rw [z,keep pe j] at e;cases e
   rw [ab h4,ab h5,ab h1];exact fr _ _ h1 h2 L (Y _ _ e)
  ·rw [ab (Ne.symm pH),ab (Ne.symm eH),aa]
  ·rw [ab (Ne.symm pR),ab (Ne.symm eR),ab (Ne.symm hr)];exact er
  ·rw [aa,D2];rfl
end
section
variable {T:List FD}
noncomputable def ju (s:Stmt):FD:=⟨"tell_steps",s,["whole", "rooms", "held", "steps", "k", "room"],3,
 (.cons (.asg (.name 3) (.lst .nil))
 (.cons (.for (.name 4) (.seq (.var 0)) (.cons (.asg (.name 5) (.popk (.var 1) (.var 4)))
 (.cons (.delk (.var 2) (.var 5))
 (.cons (.drop (.meth .append (.var 3) (.tup (.cons (.str (q7 "tell")) (.cons (.var 4) (.cons (.var 5) .nil))))))
 .nil))))
 (.cons (.ret (.var 3))
 .nil)))⟩
structure RInv (ks:List Int) (rs:List (Int×Int)):Prop where
 k:(rs.map (·.1)).Nodup
 v:(rs.map (·.2)).Nodup
 m:∀ p∈rs,p.2∈ks
theorem idr_sub {rs:List (Int×Int)} {k:Int}:(idr rs k).Sublist rs:=K7
theorem vI {rs:List (Int×Int)} (h:(rs.map (·.2)).Nodup) {p q:Int×Int} (B:p∈rs) (F:q∈rs) (e:p.2=q.2):p=q:=by
 induction rs with
 | nil=>cases B
 | cons x rs ih =>
   rw [FL,Hw] at h
   rcases Fx.mp B with rfl | j <;> rcases Fx.mp F with rfl | z
   ·rfl
   ·exact absurd (FI.mpr ⟨q,z,e.symm⟩) h.1
   ·exact absurd (FI.mpr ⟨p,j,e⟩) h.1
   ·exact ih h.2 j z
theorem RInv.drop {ks:List Int} {rs:List (Int×Int)} (h:RInv ks rs) {k v:Int} (q:(k,v)∈rs):RInv (kd ks v) (idr rs k):=by
 refine ⟨h.k.sublist (idr_sub.map _),h.v.sublist (idr_sub.map _),fun p z => ?_⟩;have j:=G3.mp z;unfold kd;refine G3.mpr ⟨h.m p j.1, ?_⟩;have:p.1≠k:=of_decide_eq_true j.2;exact decide_eq_true fun e=>this (by rw [vI h.v j.1 q e])
noncomputable def tS (s:Pst) (k:Int):Pst:=match ig s.2.2 k with
 | some v=>(s.1++[.tel k v],kd s.2.1 v,idr s.2.2 k)
 | none=>s
noncomputable def tSs (ks:List Int) (rs:List (Int×Int)) (l:List Int):Pst:=l.foldl tS ([],ks,rs)
theorem oK {ks:List Int} {rs:List (Int×Int)} {l:List Int} {k:Int}:tSs ks rs (l++[k])=tS (tSs ks rs l) k:=by unfold tSs;rw [HS];rfl
theorem AC {f:Nat} {s:Stmt} (hf:T[f]? = some (ju s)) {n:Nat} (hn : 1<=n) {ws ks:List Int} {rs:List (Int×Int)} {wA rA B:Addr} (hr:B≠rA) (hl:ws.length<=1000) (hw:ws.Nodup) (hm:∀ k∈ws,k∈rs.map (·.1)) (hi:RInv ks rs)
 {M:Mem} {Q:QD} (mw:M wA=some (.lst (ws.map .int))) (mh:M B=some (.dct false (ks.map tk))) (mr:M rA=some (.dct false (rs.map (hD .int))))
 (q:∀ p M',(∀ a o,a≠B->a≠rA->M a=some o->M' a=some o)->M p=none->M' B=some (.dct false ((tSs ks rs ws).2.1.map tk))->M' rA=some (.dct false ((tSs ks rs ws).2.2.map (hD .int)))->M' p=some (.lst ((tSs ks rs ws).1.map (spD 0)))->RInv (tSs ks rs ws).2.1 (tSs ks rs ws).2.2->Q (.ref p) M') :
 phi T n f [.ref wA, .ref rA, .ref B] M Q:=by
 have wH:wA≠B:=fun z=>by rw [z,mh] at mw;cases mw
 have wR:wA≠rA:=fun z=>by rw [z,mr] at mw;cases mw
 refine ar hn hf rfl (ρ := [some _,some _,some _,none,none,none]) rfl ?_;unfold ju;walk_at "st";refine ⟨by rw [hH];lia,fun ps j => ?_⟩
 walk_at "st";have L:=Ge.new (o := .lst []) j;have sH:ps≠B:=fun z=>by rw [z,mh] at j;cases j
 have sR:ps≠rA:=fun z=>by rw [z,mr] at j;cases j
 have sW:ps≠wA:=fun z=>by rw [z,mw] at j;cases j
 have m2:=aa (M:=M) (a:=ps) (o := .lst []);generalize ad M ps (.lst [])=M1 at L m2 ⊢;refine ⟨_,af (L _ _ mw), ?_⟩;refine br (f:=D.int) (ys:=ws) (I:=fun l ρ M' => ∃ Y Z:Option D, ρ = [some (.ref wA),some (.ref rA),some (.ref B),some (.ref ps),Y,Z]/\(∀ a o,a≠B->a≠rA->a≠ps->M1 a=some o->M' a=some o)/\M' B=some (.dct false ((tSs ks rs l).2.1.map tk))/\M' rA=some (.dct false ((tSs ks rs l).2.2.map (hD .int)))/\M' ps=some (.lst ((tSs ks rs l).1.map (spD 0)))/\RInv (tSs ks rs l).2.1 (tSs ks rs l).2.2/\(tSs ks rs l).1.length<=l.length /\ ∀ k∈ws,k∉l->k∈(tSs ks rs l).2.2.map (·.1)) rfl ⟨none,none,rfl,fun _ _ _ _ _ e=>e,L _ _ mh,L _ _ mr,m2,hi,Fy _,fun k hk _=>hm k hk⟩ ?_ ?_ ?_
 ·rintro l ρ M' ⟨Y,Z,rfl,fr,_⟩;exact af (fr _ _ wH wR (Ne.symm sW) (L _ _ mw))
 ·rintro l k r ρ M' e ⟨Y,Z,rfl,fr,eh,er,es,inv,hlen,G⟩;refine ⟨_,rfl,fun F hF => ?_⟩;have Ei:=av e;have Ef:k∉l:=fun z=>by
   rw [e] at hw;have:=(Hv.mp hw).2.2 k z k (by simp)
   exact this rfl
  obtain ⟨v,hv,O⟩:=oG (G k (by rw [e];simp) Ef)
  have Eg:v∈(tSs ks rs l).2.1:=inv.m _ O;walk_at "st";refine ⟨⟨_,er⟩,_,er,rfl, .int v,by rw [bb,hv];rfl, ?_⟩
  rw [il];walk_at "st";refine ⟨_,by rw [ab hr];exact eh,rfl,by rw [jr Eg];rfl, ?_⟩
  rw [gC];walk_at "st";have U:ad (ad M' rA (.dct false ((idr (tSs ks rs l).2.2 k).map (hD .int)))) B (.dct false ((kd (tSs ks rs l).2.1 v).map tk)) ps=some (.lst ((tSs ks rs l).1.map (spD 0))):=by rw [ab sH,ab sR];exact es
  refine ⟨⟨_,U⟩,by rw [hH];lia, ?_⟩
  refine ⟨ps,_,_,rfl,rfl,U,by rw [gV,hH];lia, ?_⟩
  have et:tSs ks rs (l++[k])=((tSs ks rs l).1++[.tel k v],kd (tSs ks rs l).2.1 v,idr (tSs ks rs l).2.2 k):=by rw [oK];unfold tS;rw [hv]
  refine hF _ _ ⟨_,_,rfl,fun a o h1 h2 h3 e=>by rw [ab h3,ab h1,ab h2];exact fr _ _ h1 h2 h3 e, ?_, ?_, ?_, ?_, ?_,fun k' Eh J => ?_⟩
  ·rw [ab (Ne.symm sH),aa,et]
  ·rw [ab (Ne.symm sR),ab (Ne.symm hr),aa,et]
  ·rw [aa,et,D2];rfl
  ·rw [et];exact inv.drop O
  ·rw [et];simp;exact hlen
  ·rw [et];simp only [FC,Gf,not_or] at J;obtain ⟨p,hp,e2⟩:=FI.mp (G k' Eh J.1);exact FI.mpr ⟨p,G3.mpr ⟨hp,by rw [e2];simpa using J.2⟩,e2⟩
 ·rintro ρ M' ⟨Y,Z,rfl,fr,eh,er,es,inv,_,_⟩;walk_at "st";refine q ps M' (fun a o h1 h2 e=>fr _ _ h1 h2 (fun z=>by rw [z,j] at e;cases e) (L _ _ e)) j eh er es inv
end
section
variable {T:List FD}
theorem oM {rs:List (Int×Int)} {k:Int} (h:ig rs k=none):k∉rs.map (·.1):=fun z=>by
 obtain ⟨v,e,_⟩:=oG z;rw [h] at e;cases e
theorem RInv.one {room:Int} {s:Pst} {kc:Int×Int} (h:RInv s.2.1 s.2.2) (hr:∀ p∈s.2.2,p.2≠room) (hm:room∈s.2.1):RInv (pS room s kc).2.1 (pS room s kc).2.2/\(∀ p∈(pS room s kc).2.2,p.2≠room)/\room∈(pS room s kc).2.1:=by
 unfold pS
 cases hv:ig s.2.2 kc.1 with
 | some v=>exact ⟨h,hr,hm⟩
 | none =>
   have hx:=(bS s.2.1).1;refine ⟨⟨?_, ?_, ?_⟩, ?_,G4 _ hm⟩
   ·dsimp only;rw [D2,Hv];refine ⟨h.k,by simp,fun a q b B => ?_⟩
    have:b=kc.1:=by simpa using B
    subst this;exact fun z=>oM hv (z ▸ q)
   ·dsimp only;rw [D2,Hv];refine ⟨h.v,by simp,fun a q b B => ?_⟩
    have:b=(mex s.2.1:Int):=by simpa using B
    subst this;obtain ⟨p,j,rfl⟩:=FI.mp q;exact fun z=>hx (z ▸ h.m p j)
   ·intro p j
    rcases FC.mp j with z | z
    ·exact G4 _ (h.m p z)
    ·have:p=(kc.1,(mex s.2.1:Int)):=by simpa using z
     subst this;exact FE _ (by simp)
   ·intro p j
    rcases FC.mp j with z | z
    ·exact hr p z
    ·have:p=(kc.1,(mex s.2.1:Int)):=by simpa using z
     subst this;exact fun z=>hx (by rw [show (mex s.2.1:Int)=room from z];exact hm)
theorem P0 {room:Int}:∀ (l:List (Int×Int)) (s:Pst),RInv s.2.1 s.2.2->(∀ p∈s.2.2,p.2≠room)->room∈s.2.1->RInv (l.foldl (pS room) s).2.1 (l.foldl (pS room) s).2.2/\(∀ p∈(l.foldl (pS room) s).2.2,p.2≠room)/\room∈(l.foldl (pS room) s).2.1
 | [],s,h,hr,hm=>⟨h,hr,hm⟩
 | kc::l,s,h,hr,hm=>by
   rw [Gr];obtain ⟨h1,h2,j⟩:=h.one (kc:=kc) hr hm;exact P0 l _ h1 h2 j
noncomputable def aq (ks:List Int) (rs:List (Int×Int)) (p:Pr):Pst :=
 let u:=pSs (r3 ks) (ks++[r3 ks]) rs (nz p.2.2)
 (tms ks p.1 p.2.1++u.1++[.emp (r3 ks)],kd u.2.1 (r3 ks),u.2.2)
theorem yc {ks:List Int} {rs:List (Int×Int)} {p:Pr} (h:RInv ks rs):RInv (aq ks rs p).2.1 (aq ks rs p).2.2:=by
 have F:r3 ks∉ks:=fun z=>(bS (ks++[r1 ks]++[r2 ks])).1 (G4 _ (G4 _ z));obtain ⟨B,G,J⟩:=P0 (room:=r3 ks) (nz p.2.2) ([],ks++[r3 ks],rs) ⟨h.k,h.v,fun q j=>G4 _ (h.m q j)⟩ (fun q j e=>F (e ▸ h.m q j)) (FE _ (by simp))
 refine ⟨B.k,B.v,fun q j => ?_⟩;show q.2∈kd _ (r3 ks);unfold kd;exact G3.mpr ⟨B.m q j,decide_eq_true (G q j)⟩
end
section
variable {T:List FD}
noncomputable def bH (s:Stmt):FD:=⟨"_law_places",s,["_law_part_here"],1,
 (.cons (.ret (.comp [none,(some 0)] ["_law_place", "_law_part_here"] (.last (.rng1 (.blt .len (.cons (.var 0) .nil))) (.name 0) (.cons (.cmp .ne (.ix (.var 1) (.var 0)) (.int 0)) .nil) (.var 0))))
 .nil)⟩
noncomputable def plc (l:List Int):List Int:=(nz l).map (·.1)
theorem AD {l:List Int}:bu 0 l.length=(idx l).map fun q=>D.int q.1:=by
 rw [cU];unfold idx;apply HR;intro j;simp only [FK,HQ]
 by_cases h:j < l.length
 ·rw [Mm h,r4 h];rfl
 ·rw [JD (by simpa using h),JD (by simpa using h)];rfl
theorem Ct {l:List Int} {a b:List (Int×Int)} {x:Int×Int} (e:idx l=a++x::b):x.1=(a.length:Nat)/\l[a.length]? = some x.2:=by
 have h:(idx l)[a.length]? = some x:=by rw [e];simp
 unfold idx at h;rw [HQ] at h
 cases hz:l[a.length]? with
 | none=>rw [hz] at h;cases h
 | some y=>rw [hz] at h;cases h;exact ⟨rfl,rfl⟩
theorem dL {f:Nat} {s:Stmt} (hf:T[f]? = some (bH s)) {n:Nat} (F : 1<=n) {l:List Int} (G:l.length<=1000) {M:Mem} {Q:QD}
 (q:∀ p,M p=none->Q (.ref p) (ad M p (.lst ((plc l).map .int)))):phi T n f [.tup (l.map .int)] M Q:=by
 refine ar F hf rfl (ρ := [some _]) rfl ?_;unfold bH;walk_at "st";rw [gV];refine ⟨by lia,by lia, ?_⟩
 rw [Ht,AD];refine aO (f:=fun q:Int×Int=>D.int q.1) (ys:=idx l) (I:=fun r ρ M' acc => ∃ o, ρ = [o,some (.tup (l.map .int))]/\M'=M/\acc=((r.filter fun q => !(q.2==0)).map (·.1)).map .int) rfl ⟨none,rfl,rfl,rfl⟩ (fun _ _ _ _ _=>trivial) ?_ ?_
 ·rintro r x r' ρ M' acc e ⟨o,rfl,rfl,rfl⟩;refine ⟨_,rfl,fun N' B => ?_⟩;obtain ⟨h1,h2⟩:=Ct e;have z:=av e;rw [jU] at z;have J:(r.filter fun q => !(q.2==0)).length<=r.length:=FV _ _;refine ⟨_,rfl,_,rfl, ?_⟩;rw [h1];walk_at "wp";refine ⟨_,eB (by rw [FK,h2];rfl), ?_⟩
  walk_at "wp"
  by_cases j:x.2=0
  ·rw [if_neg (by simp [j])]
   exact B _ _ _ ⟨_,rfl,rfl,by rw [G1,Gs];simp [j]⟩
  ·rw [if_pos (by simp [j])]
   refine ⟨by rw [gV,gV,hH];lia,B _ _ _ ⟨_,rfl,rfl, ?_⟩⟩
   rw [G1,Gs];simp [j,h1]
 ·rintro ρ M' acc ⟨o,rfl,rfl,rfl⟩ p hp;exact q p hp
end
section
variable {T:List FD}
noncomputable def oO (s:Stmt) (fp:Nat):FD:=⟨"_law_with_room",s,["_law_scheme_here", "_law_order_here"],2,
 (.cons (.ret (.comp [none,(some 0)] ["_law_number_here", "_law_scheme_here"] (.last (.seq (.var 1)) (.name 0) (.cons (.cmp .ninE (.lst .nil) (.comp [none] ["_law_part_here"] (.last (.seq (.ix (.ix (.var 1) (.int 3)) (.var 0))) (.name 0) .nil (.call fp (.cons (.var 0) .nil))))) .nil) (.ix (.ix (.var 1) (.int 3)) (.var 0)))))
 .nil)⟩
noncomputable def b0 (p:Pr):Bool := !((plc p.1).isEmpty || (plc p.2.1).isEmpty || (plc p.2.2).isEmpty)
theorem AE {f fp:Nat} {s sp:Stmt} (hf:T[f]? = some (oO s fp)) (Y:T[fp]? = some (bH sp)) {n:Nat} (hn : 2<=n) {x y z:D} {pp oA:Addr} {ds:List Pr} {os:List Nat} {M:Mem} {Q:QD}
 (hd:∀ p∈ds,p.1.length<=1000/\p.2.1.length<=1000/\p.2.2.length<=1000) (mp:M pp=some (.lst (ds.map prD))) (mo:M oA=some (.lst (os.map fun i => .int (i:Nat)))) (ho:∀ i∈os,i < ds.length) (hl:os.length<=1000)
 (q:∀ p M',Ge M M'->M p=none->M' p=some (.lst (((os.filterMap fun i=>ds[i]?).filter b0).map prD))->Q (.ref p) M'):phi T n f [.tup [x,y,z, .ref pp], .ref oA] M Q:=by
 refine ar (by lia) hf rfl (ρ := [some _,some _]) rfl ?_
 unfold oO;walk_at "st";refine ⟨_,af mo, ?_⟩;refine aO (f:=fun i:Nat=>D.int (i:Nat)) (ys:=os) (I:=fun l ρ M' acc => ∃ o, ρ = [o,some (.tup [x,y,z, .ref pp])]/\Ge M M'/\acc=((l.filterMap fun i=>ds[i]?).filter b0).map prD) rfl ⟨none,rfl,Ge.refl,rfl⟩ (fun _ _ _ _ ⟨_,_,g,_⟩=>af (g _ _ mo)) ?_ ?_
 ·rintro l i r ρ M1 acc e ⟨o,rfl,g1,rfl⟩;refine ⟨_,rfl,fun N' hN => ?_⟩;have hi:i < ds.length:=ho i (by rw [e];simp)
  have G:=hd ds[i] (IP hi);have ei:ds[i]? = some ds[i]:=r4 hi;have Eh:=av e;generalize ds[i]=p at G ei;walk_at "wp";refine ⟨by rw [hH];lia,fun J Z=>⟨_,rfl, ?_⟩⟩
  have g2:=g1.trans (Ge.new (o := .lst []) Z);have e0:=aa (M:=M1) (a:=J) (o := .lst []);generalize ad M1 J (.lst [])=M2 at g2 e0 ⊢;refine aN (g2 _ _ mp) (d:=prD p) (eB (by rw [FK,ei];rfl)) ?_
  refine ⟨_,rfl, ?_⟩;refine aO (f:=fun t:List Int=>D.tup (t.map .int)) (ys := [p.1,p.2.1,p.2.2]) (I:=fun l' ρ M' acc' => ∃ (o:Option D) (rs:List (Addr×List D)), ρ = [o]/\Ge M2 M'/\acc'=rs.map (fun r=>D.ref r.1)/\rs.map (·.2)=l'.map (fun t=>(plc t).map D.int) /\ ∀ r∈rs,r.1≠J/\M' r.1=some (.lst r.2)) rfl ⟨none,[],rfl,Ge.refl,rfl,rfl,fun _ h=>by cases h⟩ (fun _ _ _ _ _=>rfl) ?_ ?_
  ·rintro l' t r' ρ M3 acc' e' ⟨o',rs,rfl,g3,rfl,F,B⟩;refine ⟨_,rfl,fun N2 Ef => ?_⟩;have ht:t.length<=1000:=by
    have:t∈[p.1,p.2.1,p.2.2]:=by rw [e'];simp
    simp only [Fx,FW,or_false] at this
    rcases this with rfl | rfl | rfl
    ·exact G.1
    ·exact G.2.1
    ·exact G.2.2
   have L:=av e';have Eg:rs.length=l'.length:=by have:=congrArg Hh F;simpa using this
   walk_at "wp";refine dL Y (by lia) ht fun O j => ?_
   refine ⟨by rw [gV,Eg,hH];simp at L;lia,Ef _ _ _ ⟨_,rs++[(O,(plc t).map .int)],rfl,g3.trans (Ge.new j),by simp,by simp [F],fun r hr => ?_⟩⟩
   rcases FC.mp hr with h | h
   ·exact ⟨(B r h).1,(Ge.new j) _ _ (B r h).2⟩
   ·have:r=(O,(plc t).map D.int):=by simpa using h
    subst this;exact ⟨(fun z=>by rw [show O=J from z,g3 _ _ e0] at j;cases j),aa⟩
  ·rintro ρ M3 acc' ⟨o',rs,rfl,g3,rfl,F,B⟩ O j;have g4:=g2.trans (g3.trans (Ge.new (o := .lst (rs.map fun r=>D.ref r.1)) j));refine ⟨J,O,rs,rfl,rfl,(Ge.new j) _ _ (g3 _ _ e0),aa,fun r hr=>⟨(B r hr).1,(Ge.new j) _ _ (B r hr).2⟩,_,rfl, ?_⟩;have ea:(!rs.any fun r=>r.2.isEmpty)=b0 p:=by
    have:(rs.any fun r=>r.2.isEmpty)=(rs.map (·.2)).any fun l=>l.isEmpty:=by rw [Jt];rfl
    rw [this,F];unfold b0;simp [Bool.or_assoc]
   rw [ea];have ef:(l++[i]).filterMap (fun i=>ds[i]?)=l.filterMap (fun i=>ds[i]?)++[p]:=by rw [LF];simp [ei]
   have hb:((l.filterMap fun i=>ds[i]?).filter b0).length<=l.length:=G8 (FV _ _) (HY _ _)
   cases U:b0 p with
   | true =>
     rw [if_pos rfl];refine ⟨_,rfl,aN (g4 _ _ mp) (d:=prD p) (eB (by rw [FK,ei];rfl)) ⟨by rw [gV,hH];lia,hN _ _ _ ⟨_,rfl,g4, ?_⟩⟩⟩
     rw [ef,G1,Gs,U,D2];rfl
   | false =>
     rw [if_neg i4];refine hN _ _ _ ⟨_,rfl,g4, ?_⟩;rw [ef,G1,Gs,U];simp
 ·rintro ρ M' acc ⟨o,rfl,g,rfl⟩ p G;have hM:M p=none:=by
   cases U:M p with
   | none=>rfl
   | some o=>rw [g _ _ U] at G;cases G
  exact q p _ (g.trans (Ge.new G)) hM aa
end
section
open PySem PySem.Spec PyProof.Rows L2.Srt
noncomputable def adl (a b:List Int):List Int:=Kc (· + ·) a b
noncomputable def nzb (l:List Int):Bool:=l.any fun x=>x != 0
noncomputable def okp (p:Pr):Bool:=nzb p.1&&nzb p.2.1&&nzb p.2.2
def al2 (p q:Pr):Prop:=(p.1=q.1/\p.2.1=q.2.1)∨(p.1=q.1/\p.2.2=q.2.2)∨(p.2.1=q.2.1/\p.2.2=q.2.2)
noncomputable def ptg (p q:Pr):Pr:=if p.1=q.1/\p.2.1=q.2.1 then (p.1,p.2.1,adl p.2.2 q.2.2) else if p.1=q.1/\p.2.2=q.2.2 then (p.1,adl p.2.1 q.2.1,p.2.2) else (adl p.1 q.1,p.2.1,p.2.2)
inductive Fw (ps:List Pr):Option (List Pr)->Prop
 | nought (A C:List Pr) (p:Pr) (e:ps=A++p::C) (hn:okp p=false) (hb:∀ q∈A,okp q=true):Fw ps (some (A++C))
 | alike (A B C:List Pr) (p q:Pr) (e:ps=A++p::(B++q::C)) (ha:al2 p q) (ok:∀ p∈ps,okp p=true)
    (hb:∀ (r s:Nat) p' q',ps[r]? = some p'->ps[s]? = some q'->r < s->al2 p' q'->A.length < r∨(A.length=r/\A.length+1+B.length<=s)):Fw ps (some (A++ptg p q::(B++C)))
 | none (ok:∀ p∈ps,okp p=true) (hb:∀ (r s:Nat) p' q',ps[r]? = some p'->ps[s]? = some q'->r < s -> ¬ al2 p' q'):Fw ps none
inductive Td:List Pr->List Pr->Prop
 | done {ps:List Pr} (h:Fw ps none):Td ps ps
 | step {ps qs rs:List Pr} (h:Fw ps (some qs)) (t:Td qs rs):Td ps rs
theorem Fw.len {ps qs:List Pr} (h:Fw ps (some qs)):qs.length+1=ps.length:=by
 generalize j:some qs=z at h
 cases h with
 | nought A C p e _ _=>cases j;rw [e];simp;lia
 | alike A B C p q e _ _ _=>cases j;rw [e];simp;lia
 | none _ _=>cases j
theorem Fw.all {P:Pr->Prop} {ps qs:List Pr} (h:Fw ps (some qs)) (j:∀ p∈ps,P p) (G:∀ p∈ps, ∀ q∈ps,okp p=true->okp q=true->P (ptg p q)):∀ p∈qs,P p:=by
 generalize F:some qs=z at h
 cases h with
 | nought A C p e _ _ =>
   cases F;intro x hx
   refine j x ?_;rw [e]
   rcases FC.mp hx with h | h
   ·simp [h]
   ·simp [h]
 | alike A B C p q e _ ok _ =>
   cases F;intro x hx
   have mp:p∈ps:=by rw [e];simp
   have mq:q∈ps:=by rw [e];simp
   simp only [FC,Fx] at hx
   rcases hx with h | rfl | h | h
   ·exact j x (by rw [e];simp [h])
   ·exact G p mp q mq (ok p mp) (ok q mq)
   ·exact j x (by rw [e];simp [h])
   ·exact j x (by rw [e];simp [h])
 | none _ _=>cases F
theorem Td.len {ps qs:List Pr} (h:Td ps qs):qs.length<=ps.length:=by
 induction h with
 | done _=>exact Fy _
 | step h _ ih=>have:=h.len;lia
noncomputable def tv (p:Pr) (k i j:Int):Int:=gz p.1 i*gz p.2.1 j*gz p.2.2 k
end
section
open PySem PySem.Spec PyProof.Rows L2.Srt
variable {T:List FD}
noncomputable def cG (s:Stmt):FD:=⟨"has_noughts",s,["product"],1,
 (.cons (.ret (.not (.blt .all (.cons (.comp [none] ["part"] (.last (.seq (.var 0)) (.name 0) .nil (.blt .any (.cons (.var 0) .nil)))) .nil))))
 .nil)⟩
theorem vJ {l:List Int}:aA fL (l.map D.int)=some (l.map fun x=>x != 0):=by
 induction l with
 | nil=>rfl
 | cons x l ih=>rw [FL,aA,ih];rfl
theorem AF {l:List Int}:(l.map fun x=>x != 0).any id=nzb l:=by
 unfold nzb;rw [Jt];rfl
theorem pK {f:Nat} {s:Stmt} (hf:T[f]? = some (cG s)) {k:Nat} (F : 1<=k) {u:Pr} {M:Mem} {Q:QD} (q:∀ M',Ge M M'->Q (.bl (!okp u)) M'):phi T k f [prD u] M Q:=by
 refine ar (by lia) hf rfl (ρ := [some _]) rfl ?_
 unfold cG prD;walk_at "st";refine aO (f:=fun w:List Int=>D.tup (w.map .int)) (ys := [u.1,u.2.1,u.2.2]) (I:=fun l ρ M' acc=>(∃ o0, ρ = [o0])/\M'=M/\acc=l.map fun w=>D.bl (nzb w)) rfl ⟨⟨_,rfl⟩,rfl,rfl⟩ (fun _ _ _ _ _=>by first | rfl | trivial) ?_ ?_
 ·rintro l w r ρ M1 acc e ⟨⟨o0,rfl⟩,rfl,rfl⟩;refine ⟨_,rfl,fun N j => ?_⟩;have z:l.length < 3:=av e;walk_at "wp";refine ⟨_,_,_,rfl,rfl,vJ, ?_⟩;rw [AF];exact ⟨by rw [gV,hH];lia,j _ _ _ ⟨⟨_,rfl⟩,rfl,by simp⟩⟩
 ·rintro ρ M1 acc ⟨⟨o0,rfl⟩,rfl,rfl⟩ p B;refine ⟨_,_,[nzb u.1,nzb u.2.1,nzb u.2.2],rfl,af aa,rfl, ?_⟩;have e : [nzb u.1,nzb u.2.1,nzb u.2.2].all id=okp u:=by simp [okp,Bool.and_assoc]
  rw [e];exact ⟨_,rfl,q _ (Ge.new B)⟩
end
section
variable {T:List FD}
theorem ka {l:List Int}:(plc l).isEmpty = !nzb l:=by
 have h:(plc l).isEmpty=true↔nzb l=false:=by
  unfold plc nzb nz idx;rw [L9,Mq,List.filter_eq_nil_iff,Jj];constructor
  ·intro h x hx;obtain ⟨i,hi,rfl⟩:=IT hx;have:=h ((i:Nat),l[i]) (K1.mpr ⟨i,hi,rfl⟩);simpa using this
  ·intro h q j;obtain ⟨i,hi,rfl⟩:=K1.mp j;have:=h l[i] (IP hi);simpa using this
 cases hb:nzb l with
 | false=>exact h.mpr hb
 | true =>
   cases hc:(plc l).isEmpty with
   | false=>rfl
   | true=>rw [h.mp hc] at hb;cases hb
theorem yd {p:Pr}:b0 p=okp p:=by
 unfold b0 okp;rw [ka,ka,ka]
 cases nzb p.1 <;> cases nzb p.2.1 <;> cases nzb p.2.2 <;> rfl
theorem ye {fh:Nat} {sh:Stmt} (B:T[fh]? = some (cG sh)) {n:Nat} (G : 1<=n) {ρ:ak} {x y z:D} {pp oA:Addr} {ds:List Pr} {os:List Nat} {M:Mem} {K:QD} (J : ρ[0]? = some (some (.tup [x,y,z, .ref pp]))) (L : ρ[1]? = some (some (.ref oA)))
 (mp:M pp=some (.lst (ds.map prD))) (mo:M oA=some (.lst (os.map fun i => .int (i:Nat)))) (ho:∀ i∈os,i < ds.length) (Y:os.length<=1000)
 (q:∀ p M',Ge M M'->M p=none->M' p=some (.lst (((os.filterMap fun i=>ds[i]?).filter b0).map prD))->K (.ref p) M') :
 wE (phi T n) (.comp [none,(some 0)] ["number", "scheme"] (.last (.seq (.var 1)) (.name 0) (.cons (.not (.tru (.call fh (.cons (.ix (.ix (.var 1) (.int 3)) (.var 0)) .nil)))) .nil) (.ix (.ix (.var 1) (.int 3)) (.var 0)))) ρ M K:=by
 walk_at "wp";refine ⟨_,L,_,af mo, ?_⟩;rw [show ρ[0]?.join=some (.tup [x,y,z, .ref pp]) by rw [J];rfl]
 refine aO (f:=fun i:Nat=>D.int (i:Nat)) (ys:=os) (I:=fun l ρ M' acc => ∃ o, ρ = [o,some (.tup [x,y,z, .ref pp])]/\Ge M M'/\acc=((l.filterMap fun i=>ds[i]?).filter b0).map prD) rfl ⟨none,rfl,Ge.refl,rfl⟩ (fun _ _ _ _ ⟨_,_,g,_⟩=>af (g _ _ mo)) ?_ ?_
 ·rintro l i r ρ M1 acc e ⟨o,rfl,g1,rfl⟩;refine ⟨_,rfl,fun N' F => ?_⟩;have hi:i < ds.length:=ho i (by rw [e];simp)
  have ei:ds[i]? = some ds[i]:=r4 hi;have O:=av e;generalize ds[i]=p at ei;have ef:(l++[i]).filterMap (fun i=>ds[i]?)=l.filterMap (fun i=>ds[i]?)++[p]:=by rw [LF];simp [ei]
  have Z:((l.filterMap fun i=>ds[i]?).filter b0).length<=l.length:=G8 (FV _ _) (HY _ _);have ep:atI (ds.map prD) (i:Int)=some (prD p):=eB (by rw [FK,ei];rfl)
  walk_at "wp";refine ⟨_,rfl,aN (g1 _ _ mp) (d:=prD p) ep ?_⟩;refine pK B G fun M2 g2 => ?_;rw [<- yd];refine ⟨_,rfl, ?_⟩;have g3:=g1.trans g2
  cases j:b0 p with
  | true =>
    rw [if_pos (by decide)]
    refine ⟨_,rfl,aN (g3 _ _ mp) (d:=prD p) ep ⟨by rw [gV,hH];lia,F _ _ _ ⟨_,rfl,g3, ?_⟩⟩⟩
    rw [ef,G1,Gs,j,D2];rfl
  | false =>
    rw [if_neg (by decide)]
    refine F _ _ _ ⟨_,rfl,g3, ?_⟩;rw [ef,G1,Gs,j];simp
 ·rintro ρ M' acc ⟨o,rfl,g,rfl⟩ p hp;have U:M p=none:=by
   cases j:M p with
   | none=>rfl
   | some o=>rw [g _ _ j] at hp;cases hp
  exact q p _ (g.trans (Ge.new hp)) U aa
end
section
variable {T:List FD}
noncomputable def lkv (q:Pr×Nat):List (D×D):=(nz q.1.2.2).map fun kc=>(.int kc.1, .int (q.2:Nat))
noncomputable def eD (q:Pr×Nat):D := .tup [.int (q.2:Nat),prD q.1]
theorem kb {ps:List Pr}:cQ (ps.map prD)=ps.zipIdx.map eD:=by
 unfold cQ;apply HR;intro j;simp only [HQ,FK,JU]
 cases ps[j]? <;> simp [eD]
theorem AG {ff:Nat} {sf:Stmt} (z:T[ff]? = some (bF sf)) {n:Nat} (O : 1<=n) {ρ:ak} {pA:Addr} {ps:List Pr} {M:Mem} {K:QD} (U : ρ[2]? = some (some (.ref pA))) (mp:M pA=some (.lst (ps.map prD))) (hd:∀ p∈ps,p.2.2.length<=1000) (hl:ps.length<=1000)
 (q:∀ p M',Ge M M'->M' p=none->M p=none->K (.ref p) (ad M' p (.dct false (b7 (ps.zipIdx.flatMap lkv))))) :
 wE (phi T n) (.dcomp2 [none,none,none,none,none,none] ["at", "l", "r", "o", "k", "c"] (.enum (.var 2)) (.tup (.cons (.name 0) (.cons (.tup (.cons (.name 1) (.cons (.name 2) (.cons (.name 3) .nil)))) .nil))) (.seq (.call ff (.cons (.var 3) .nil))) (.tup (.cons (.name 4) (.cons (.name 5) .nil))) (.var 4) (.var 0)) ρ M K:=by
 walk_at "wp";refine ⟨_,U,_,af mp, ?_⟩;rw [kb];have tot:∀ l:List (Pr×Nat),(∀ x∈l,x.1.2.2.length<=1000)->(l.flatMap lkv).length<=1000*l.length:=by
  intro l
  induction l with
  | nil=>intro _;simp
  | cons x l ih =>
    intro h;have h1:=ih fun y B=>h y (FJ _ B);have h2:=bE (l:=x.1.2.2);have h3:=h x (by simp)
    rw [IB,i5,Gj];have:(lkv x).length=(nz x.1.2.2).length:=by simp [lkv]
    lia
 have j:∀ x∈ps.zipIdx,x.1.2.2.length<=1000:=fun x hx=>hd _ (by
  obtain ⟨i,hi,rfl⟩:=IT hx;simp)
 refine aO (f:=eD) (ys:=ps.zipIdx) (I:=fun l ρ M' acc=>(∃ a b c d e f:Option D, ρ = [a,b,c,d,e,f])/\Ge M M'/\acc=(l.flatMap lkv).map kvT) rfl ⟨⟨_,_,_,_,_,_,rfl⟩,Ge.refl,rfl⟩ (fun _ _ _ _ ⟨_,g,_⟩=>af (g _ _ mp)) ?_ ?_
 ·rintro l x r ρ M1 acc e ⟨⟨a,b,c,d,e',f,rfl⟩,g1,rfl⟩;refine ⟨_,rfl,fun N' Y => ?_⟩;have hx:=j x (by rw [e];simp)
  have F:=av e;rw [Kv] at F;have ht:=tot l fun y B=>j y (by rw [e];simp [B])
  unfold bv;walk_at "wp";refine fZ z O (by lia) rfl fun pf G => ?_
  have g2:=g1.trans (Ge.new (o := .lst ((nz x.1.2.2).map pD)) G);refine ⟨_,af aa, ?_⟩;refine aO (f:=pD) (ys:=nz x.1.2.2) (I:=fun l' ρ M' acc=>(∃ e f:Option D, ρ = [some (.int (x.2:Nat)),some (.tup (x.1.1.map .int)),some (.tup (x.1.2.1.map .int)),some (.tup (x.1.2.2.map .int)),e,f])/\M'=ad M1 pf (.lst ((nz x.1.2.2).map pD))/\acc=(l.flatMap lkv).map kvT++(l'.map fun kc:Int×Int=>((.int kc.1, .int (x.2:Nat)):D×D)).map kvT) rfl ⟨⟨_,_,rfl⟩,rfl,by simp⟩ (fun _ _ _ _ ⟨_,g,_⟩=>by subst g;exact af aa) ?_ ?_
  ·rintro l' y r' ρ M3 acc e3 ⟨⟨Z,f4,rfl⟩,rfl,rfl⟩;refine ⟨_,rfl,fun N2 J => ?_⟩;have L:=av e3;have Ef:=bE (l:=x.1.2.2);unfold dv;walk_at "wp";refine ⟨rfl,by rw [i5,gV,gV,gV,hH];lia,J _ _ _ ⟨⟨_,_,rfl⟩,rfl, ?_⟩⟩
   simp [kvT]
  ·rintro ρ M3 acc ⟨⟨Z,f4,rfl⟩,rfl,rfl⟩;refine Y _ _ _ ⟨⟨_,_,_,_,_,_,rfl⟩,g2, ?_⟩;rw [Ms,D2];congr 1;simp [lkv]
 ·rintro ρ M' acc ⟨_,g,rfl⟩ kvs p e hp;have:=Ac e;subst this;have hM:M p=none:=by
   cases j:M p with
   | none=>rfl
   | some o=>rw [g _ _ j] at hp;cases hp
  exact q p M' g hp hM
end
section
noncomputable def ips (h:List (Int×Int)) (L:List (Int×Int)):List (Int×Int):=L.foldl (fun h p=>ip h p.1 p.2) h
theorem vK (L:List (Int×Int)):b7 (L.map (hD .int))=(ips [] L).map (hD .int):=by
 have h:∀ (L h:List (Int×Int)),(L.map (hD .int)).foldl (fun a kv=>bO a kv.1 kv.2) (h.map (hD .int))=(ips h L).map (hD .int):=by
  intro L
  induction L with
  | nil=>intro h;rfl
  | cons p L ih =>
    intro h;rw [FL,Gr];have:bO (h.map (hD .int)) (hD .int p).1 (hD .int p).2=(ip h p.1 p.2).map (hD .int):=gB (g:=D.int);rw [this,ih];rfl
 exact h L []
theorem ke {k:Int}:∀ (L h:List (Int×Int)),k∉L.map (·.1)->ig (ips h L) k=ig h k
 | [],_,_=>rfl
 | p::L,h,n=>by
   rw [FL,Fx,not_or] at n;show ig (ips (ip h p.1 p.2) L) k=_;rw [ke L _ n.2,yZ,if_neg n.1]
theorem vL {k c:Int}:∀ (L h:List (Int×Int)),(∀ p∈L,p.2=c)->k∈L.map (·.1)->ig (ips h L) k=some c
 | [],_,_,m=>by cases m
 | p::L,h,j,m=>by
   show ig (ips (ip h p.1 p.2) L) k=_
   by_cases z:k∈L.map (·.1)
   ·exact vL L _ (fun q B=>j q (FJ _ B)) z
   ·rw [ke L _ z,yZ,if_pos (by rcases Fx.mp (by simpa using m:k∈p.1::L.map (·.1)) with w | w;exact w;exact absurd w z),j p (by simp)]
theorem qK {h L L':List (Int×Int)}:ips h (L++L')=ips (ips h L) L':=by unfold ips;rw [HS]
noncomputable def lki (q:Pr×Nat):List (Int×Int):=(plc q.1.2.2).map fun k=>(k,(q.2:Int))
theorem AH {q:Pr×Nat}:lkv q=(lki q).map (hD .int):=by
 unfold lkv lki plc;rw [G5,G5];rfl
theorem Ec {l:List (Pr×Nat)}:l.flatMap lkv=(l.flatMap lki).map (hD .int):=by
 induction l with
 | nil=>rfl
 | cons q l ih=>rw [IB,IB,D2,ih,AH]
theorem oP {A B:List Pr} {p:Pr} {k:Int} (J:k∈plc p.2.2) (L:∀ b∈B,k∉plc b.2.2):aI (b7 ((A++p::B).zipIdx.flatMap lkv)) (.int k)=some (.int (A.length:Nat)):=by
 rw [Ec,vK,bb];rw [List.zipIdx_append,L4,Ms,IB,qK,qK];rw [ke]
 ·rw [vL (c:=(A.length:Nat))]
  ·rfl
  ·intro q j;obtain ⟨x,_,rfl⟩:=FI.mp j;simp
  ·unfold lki;rw [G5];exact FI.mpr ⟨k,J,rfl⟩
 ·intro z;obtain ⟨x,hx,e⟩:=FI.mp z;obtain ⟨q,j,F⟩:=List.mem_flatMap.mp hx;obtain ⟨y,O,rfl⟩:=FI.mp F;have G:q.1∈B:=by
   obtain ⟨i,hi,rfl⟩:=IT j;simp
  exact L q.1 G (by rw [<- e];exact O)
end
section
variable {T:List FD}
theorem lm {α:Type} {xs:List α} {l r:List (α × Nat)} {x : α × Nat} (e:xs.zipIdx=l++x::r):xs=l.map (·.1)++x.1::r.map (·.1):=by
 have:=congrArg (Ia Prod.fst) e;rw [Mp] at this;simpa using this
noncomputable abbrev Sq:=Sp×Addr
noncomputable def sqD (x:Sq):D:=spD x.2 x.1
structure PgI (M:Mem) (pg:Addr) (xs:List Sq):Prop where
 l:M pg=some (.lst (xs.map sqD))
 s:∀ x∈xs,spM M x.2 x.1
theorem PgI.ge {M M':Mem} {pg:Addr} {xs:List Sq} (h:PgI M pg xs) (g:Ge M M'):PgI M' pg xs:=⟨g _ _ h.l,fun x hx=>Cr (h.s x hx) g⟩
end
section
variable {T:List FD}
noncomputable def oQ (s:Stmt) (ft:Nat):FD:=⟨"_law_lengths",s,["_law_box_here", "_law_most"],2,
 (.cons (.ret (.comp [none,(some 0),(some 1)] ["_law_side", "_law_box_here", "_law_most"] (.last (.rng1 (.int 3)) (.name 0) .nil (.bin .add (.int 1) (.call ft (.cons (.var 1) (.cons (.var 2) .nil)))))))
 .nil)⟩
theorem dh {b p:Addr} {M:Mem} (h:Box b M) (j:M p=none):p≠b:=fun z=>by obtain ⟨x,y,w,e⟩:=h;rw [<- z,j] at e;cases e
def vM (T:List FD) (n f:Nat):Prop := ∀ {b:Addr} {m:Int} {M:Mem} {Q:QD},0 < m->m<=100->Box b M->(∀ (L0 L1 L2:Nat) p M',(1<=L0/\L0<=m.toNat)->(1<=L1/\L1<=m.toNat)->(1<=L2/\L2<=m.toNat)->Bx b M M'->M p=none->M' p=some (.lst [.int L0, .int L1, .int L2])->Q (.ref p) M')->phi T n f [.ref b, .int m] M Q
theorem AI {f ft:Nat} {s:Stmt} (hf:T[f]? = some (oQ s ft)) {n:Nat} (z:fV T (n - 1) ft) (O : 1<=n):vM T n f:=by
 intro b m M Q h0 h1 U q;refine ar O hf rfl (ρ := [some _,some _]) rfl ?_;unfold oQ;walk_at "st";refine ⟨by decide,by decide, ?_⟩
 have er:bu 0 (3:Int).toNat=[.int 0, .int 1, .int 2]:=rfl;rw [er];simp only [aY];refine ⟨trivial,_,rfl, ?_⟩;walk_at "wp";refine z U (by lia) (by lia) fun i M1 Z i1 J => ?_
 walk_at "wp";refine ⟨by simp [hH], ?_⟩
 refine z J.box (by lia) (by lia) fun j M2 j0 j1 L => ?_
 walk_at "wp";refine ⟨by simp [hH], ?_⟩
 refine z L.box (by lia) (by lia) fun k M3 k0 k1 Y => ?_
 walk_at "wp";refine ⟨by simp [hH],fun p B => ?_⟩
 have F:=(J.trans L).trans Y;have G:=dh F.box B;refine q (1+i).toNat (1+j).toNat (1+k).toNat p _ (by lia) (by lia) (by lia) (F.ge (Ge.new B)) (F.none B G) ?_
 rw [aa,GD (by lia),GD (by lia),GD (by lia)];rfl
end
section
variable {T:List FD}
theorem vN {ns:List Int} {ys:List D} (h:ys.Perm (ns.map D.int)):∃ ms:List Int,ys=ms.map D.int/\ms.Perm ns:=by
 have j:∀ y∈ys, ∃ i,y=D.int i:=fun y q=>by
  obtain ⟨i,_,e⟩:=FI.mp (h.mem_iff.mp q);exact ⟨i,e.symm⟩
 have:∃ ms:List Int,ys=ms.map D.int:=by
  clear h
  induction ys with
  | nil=>exact ⟨[],rfl⟩
  | cons y ys ih =>
    obtain ⟨i,rfl⟩:=j y Gv;obtain ⟨ms,rfl⟩:=ih fun z B=>j z (FJ _ B);exact ⟨i::ms,rfl⟩
 obtain ⟨ms,rfl⟩:=this;refine ⟨ms,rfl, ?_⟩
 let g:D->Int:=fun d=>match d with | .int i=>i | _ => 0
 have e:∀ l:List Int,(l.map D.int).map g=l:=fun l=>by rw [G5];exact List.map_id' l
 have:=h.map g
 rwa [e,e] at this
end
section
open PySem PySem.Spec PyProof.Rows L2.Srt
mutual
theorem vO:∀ (s:Sh) {a b:D},hs s a=true->hs s b=true->kyD a=kyD b->a=b
 | .int, .int i, .int j,_,_,e=>by
  have:Ky.int i=Ky.int j:=e
  cases this;rfl
 | .tup l, .tup ds, .tup es,h,g,e=>by
  have h:hss l ds=true:=by simpa [hs] using h
  have g:hss l es=true:=by simpa [hs] using g
  have e:Ky.tup (toKs (pds ds))=Ky.tup (toKs (pds es)):=by simpa [kyD,pd,toK] using e
  rw [ky_injs l h g (Ky.tup.inj e)]
 | .int, .tup _,_,h,_,_=>by simp [hs] at h
 | .int, .non,_,h,_,_=>by simp [hs] at h
 | .int, .bl _,_,h,_,_=>by simp [hs] at h
 | .int, .str _,_,h,_,_=>by simp [hs] at h
 | .int, .con _,_,h,_,_=>by simp [hs] at h
 | .int, .ref _,_,h,_,_=>by simp [hs] at h
 | .int, .fn _,_,h,_,_=>by simp [hs] at h
 | .int, .int _, .tup _,_,h,_=>by simp [hs] at h
 | .int, .int _, .non,_,h,_=>by simp [hs] at h
 | .int, .int _, .bl _,_,h,_=>by simp [hs] at h
 | .int, .int _, .str _,_,h,_=>by simp [hs] at h
 | .int, .int _, .con _,_,h,_=>by simp [hs] at h
 | .int, .int _, .ref _,_,h,_=>by simp [hs] at h
 | .int, .int _, .fn _,_,h,_=>by simp [hs] at h
 | .tup _, .int _,_,h,_,_=>by simp [hs] at h
 | .tup _, .non,_,h,_,_=>by simp [hs] at h
 | .tup _, .bl _,_,h,_,_=>by simp [hs] at h
 | .tup _, .str _,_,h,_,_=>by simp [hs] at h
 | .tup _, .con _,_,h,_,_=>by simp [hs] at h
 | .tup _, .ref _,_,h,_,_=>by simp [hs] at h
 | .tup _, .fn _,_,h,_,_=>by simp [hs] at h
 | .tup _, .tup _, .int _,_,h,_=>by simp [hs] at h
 | .tup _, .tup _, .non,_,h,_=>by simp [hs] at h
 | .tup _, .tup _, .bl _,_,h,_=>by simp [hs] at h
 | .tup _, .tup _, .str _,_,h,_=>by simp [hs] at h
 | .tup _, .tup _, .con _,_,h,_=>by simp [hs] at h
 | .tup _, .tup _, .ref _,_,h,_=>by simp [hs] at h
 | .tup _, .tup _, .fn _,_,h,_=>by simp [hs] at h
theorem ky_injs:∀ (l:List Sh) {ds es:List D},hss l ds=true->hss l es=true->toKs (pds ds)=toKs (pds es)->ds=es
 | [],[],[],_,_,_=>rfl
 | s::l,d::ds,e::es,h,g,k=>by
   have h:hs s d=true/\hss l ds=true:=by simpa [hss] using h
   have g:hs s e=true/\hss l es=true:=by simpa [hss] using g
   have k:toK (pd d)=toK (pd e)/\toKs (pds ds)=toKs (pds es):=by simpa [pds,toKs] using k
   rw [vO s h.1 g.1 k.1,ky_injs l h.2 g.2 k.2]
 | [],_::_,_,h,_,_=>by simp [hss] at h
 | [],[],_::_,_,h,_=>by simp [hss] at h
 | _::_,[],_,h,_,_=>by simp [hss] at h
 | _::_,_::_,[],_,h,_=>by simp [hss] at h
end
theorem pL {sh:Sh} {xs xs' ys ys':List D} (h:∀ d∈xs,hs sh d=true) (p:ys.Perm xs) (p':ys'.Perm xs') (px:xs.Perm xs') (s:jL ys) (s':jL ys'):ys=ys':=by
 refine List.Perm.eq_of_pairwise (le:=fun a b=>ltK (kyD b) (kyD a)=false) (fun a b j q h1 h2 => ?_) s s' (p.trans (px.trans p'.symm));have j:=h a (p.mem_iff.mp j);have q:=h b (px.mem_iff.mpr (p'.mem_iff.mp q));exact vO sh j q (kN _ _ h2 h1)
end
section
def jv (ns ms:List Int):Prop:=ms.Perm ns/\jL (ms.map .int)
theorem sL {ns ms ms':List Int} (h:jv ns ms) (h':jv ns ms'):ms=ms':=by
 have e:=pL (sh := .int) (xs:=ns.map .int) (xs':=ns.map .int) (ys:=ms.map .int) (ys':=ms'.map .int) (fun d hd=>by obtain ⟨i,_,rfl⟩:=FI.mp hd;rfl) (h.1.map _) (h'.1.map _) (Ks _) h.2 h'.2
 exact List.map_inj_right (fun _ _ z=>by cases z;rfl) |>.mp e
open Classical in
noncomputable def srt (ns:List Int):List Int:=if h:∃ ms,jv ns ms then choose h else ns
theorem Cu {ns ms:List Int} (h:jv ns ms):ms=srt ns:=by
 have hx:∃ ms,jv ns ms:=⟨ms,h⟩;unfold srt;rw [dif_pos hx];exact sL h (JC hx)
theorem srt_perm {ns:List Int}:(srt ns).Perm ns:=by
 unfold srt
 split
 ·next h=>exact (JC h).1
 ·exact Ks _
theorem lp {j:Addr} {z:List (Int×Int)} {M:Mem} {Q:QD} (mh:M j=some (.dct false (z.map (hD .int)))) (G:z.length<=63)
 (q:∀ p,M p=none->Q (.ref p) (ad M p (.lst ((srt (z.map (·.1))).map .int)))):jf [.ref j] M Q:=by
 refine ⟨j,false,_, .int,rfl,mh,rfl,fun kv B => ?_,by rw [gV];exact G,fun p ys J F hs => ?_⟩
 ·obtain ⟨x,_,rfl⟩:=FI.mp B;rfl
 ·rw [G5] at F;have e:((·.1) ∘ hD .int:Int×Int->D)=D.int ∘ (·.1):=rfl;rw [e, <- G5] at F;obtain ⟨ms,rfl,h2⟩:=vN F;rw [Cu ⟨h2,hs⟩];exact q p J
end
section
variable {T:List FD}
theorem yf {n:Nat} {ρ:ak} {rA lA:Addr} {rs:List (Int×Int)} {lk:List (D×D)} {g:Int->Int} {at':Int} {M:Mem} {K:QD} (J : ρ[3]? = some (some (.ref lA))) (L : ρ[6]? = some (some (.ref rA))) (O : ρ[7]? = some (some (.int at')))
 (mr:M rA=some (.dct false (rs.map (hD .int)))) (ml:M lA=some (.dct false lk)) (U:∀ k∈rs.map (·.1),aI lk (.int k)=some (.int (g k))) (B:rs.length<=63)
 (q:∀ p M',Ge M M'->M p=none->M' p=some (.lst (((srt (rs.map (·.1))).filter fun k=>decide (g k=at')).map .int))->K (.ref p) M') :
 wE (phi T n) (.comp [none,(some 3),(some 7)] ["k", "last", "at"] (.last (.seq (.blt .sorts (.cons (.var 6) .nil))) (.name 0) (.cons (.cmp .eq (.ix (.var 1) (.var 0)) (.var 2)) .nil) (.var 0))) ρ M K:=by
 walk_at "wp";refine ⟨_,L, ?_⟩;refine lp mr B fun ps z => ?_;refine ⟨_,af aa, ?_⟩;rw [show ρ[3]?.join=some (.ref lA) by rw [J];rfl,show ρ[7]?.join=some (.int at') by rw [O];rfl]
 have g1:=Ge.new (o := .lst ((srt (rs.map (·.1))).map .int)) z;have F:=aa (M:=M) (a:=ps) (o := .lst ((srt (rs.map (·.1))).map .int));generalize ad M ps (.lst ((srt (rs.map (·.1))).map .int))=M1 at g1 F ⊢;have hlen:(srt (rs.map (·.1))).length<=63:=by rw [srt_perm.length_eq,gV];exact B
 refine aO (f:=D.int) (ys:=srt (rs.map (·.1))) (I:=fun l ρ M' acc => ∃ o, ρ = [o,some (.ref lA),some (.int at')]/\M'=M1/\acc=(l.filter fun k=>decide (g k=at')).map .int) rfl ⟨none,rfl,rfl,rfl⟩ ?_ ?_ ?_
 ·rintro l ρ M' acc ⟨o,rfl,rfl,rfl⟩;exact af F
 ·rintro l k r ρ M' acc e ⟨o,rfl,rfl,rfl⟩;refine ⟨_,rfl,fun N' G => ?_⟩;have Y:k∈rs.map (·.1):=srt_perm.mem_iff.mp (by rw [e];simp)
  have Z:=av e;have hb:(l.filter fun k=>decide (g k=at')).length<=l.length:=FV _ _;walk_at "wp";refine dz (g1 _ _ ml) rfl (U k Y) ?_;walk_at "wp"
  by_cases j:g k=at'
  ·rw [if_pos (by simpa using j)]
   refine ⟨by rw [gV,hH];lia,G _ _ _ ⟨_,rfl,rfl, ?_⟩⟩
   rw [G1,Gs,decide_eq_true j,D2];rfl
  ·rw [if_neg (by simpa using j)]
   refine G _ _ _ ⟨_,rfl,rfl, ?_⟩;rw [G1,Gs,decide_eq_false j];simp
 ·rintro ρ M' acc ⟨o,rfl,rfl,rfl⟩ p hp;have hM:M p=none:=by
   cases j:M p with
   | none=>rfl
   | some o=>rw [g1 _ _ j] at hp;cases hp
  exact q p _ (g1.trans (Ge.new hp)) hM aa
end
section
variable {T:List FD}
theorem yg {M:Mem} {p e:Addr} {ms:List Int} {Q:QD} (j:M p=some (.lst (ms.map .int))) (he:M e=some (.lst [])) (q:Q (.bl (decide (ms≠[]))) M):wNe (.ref p) (.ref e) M Q:=by
 refine ⟨_,_,(eA j).trans (by rw [gy];rfl),eA he, ?_⟩
 have z:(!PyData.eqv (.list (ms.map .int)) (.list []))=decide (ms≠[]):=by
  cases ms <;> simp [Gh,Hq]
 show Q (.bl (!PyData.eqv (.list (ms.map .int)) (.list []))) M;rw [z];exact q
end
section
variable {T:List FD}
noncomputable def kf (s:Stmt) (ft:Nat):FD:=⟨"_law_order",s,["_law_box_here", "_law_many", "_law_left", "_law_found"],2,
 (.cons (.asg (.name 2) (.lrng (.var 1)))
 (.cons (.asg (.name 3) (.lst .nil))
 (.cons (.while (.cmp .ne (.var 2) (.lst .nil)) (.cons (.drop (.meth .append (.var 3) (.meth .pop (.var 2) (.call ft (.cons (.var 0) (.cons (.blt .len (.cons (.var 2) .nil)) .nil))))))
 .nil))
 (.cons (.ret (.var 3))
 .nil))))⟩
theorem yh {f ft:Nat} {s:Stmt} (hf:T[f]? = some (kf s ft)) {n:Nat} (hn : 1<=n) (Ef:fV T (n - 1) ft) {b:Addr} {m:Nat} (hm:m<=1000) {M:Mem} {Q:QD} (hb:Box b M)
 (q:∀ p (os:List Nat) M',Bx b M M'->Box b M'->M p=none->M' p=some (.lst (os.map fun i => .int (i:Nat)))->(∀ i∈os,i < m)->os.length<=m->Q (.ref p) M'):phi T n f [.ref b, .int m] M Q:=by
 refine ar hn hf rfl (ρ := [some _,some _,none,none]) rfl ?_;unfold kf;walk_at "st";refine ⟨m,rfl,by lia,fun pl J => ?_⟩
 have lb:pl≠b:=fun z=>by obtain ⟨x,y,w,e⟩:=hb;rw [z,e] at J;cases J
 have U:Bx b M (ad M pl (.lst ((Gc m).map fun i => .int (i:Nat)))):=(Bx.refl hb).upd J lb;have s1:=aa (M:=M) (a:=pl) (o := .lst ((Gc m).map fun i => .int (i:Nat)));generalize ad M pl (.lst ((Gc m).map fun i => .int (i:Nat)))=M1 at U s1 ⊢;walk_at "st";refine ⟨by rw [hH];lia,fun pf F => ?_⟩
 have fl:pf≠pl:=fun z=>by rw [z,s1] at F;cases F
 have fb:pf≠b:=fun z=>by obtain ⟨x,y,w,e⟩:=U.box;rw [z,e] at F;cases F
 have nf:M pf=none:=U.none F fb;have x2:Bx b M (ad M1 pf (.lst [])):=U.upd nf fb;have s2:ad M1 pf (.lst []) pl=some (.lst ((Gc m).map fun i => .int (i:Nat))):=by rw [ab (Ne.symm fl)];exact s1
 have f2:=aa (M:=M1) (a:=pf) (o := .lst []);generalize ad M1 pf (.lst [])=M2 at x2 s2 f2 ⊢;walk_at "st";refine ⟨m+1, ?_⟩;have go:∀ (f:Nat) (L os:List Nat) (M':Mem),Bx b M M'->M' pl=some (.lst (L.map fun i => .int (i:Nat)))->M' pf=some (.lst (os.map fun i => .int (i:Nat)))->(∀ i∈L,i < m)->(∀ i∈os,i < m)->os.length+L.length<=m->L.length < f ->
  aL (eS (wOp wNe (dN 2) (wAr jD bW))) (wSs (phi T (n - 1)) (.cons (.drop (.meth .append (.var 3) (.meth .pop (.var 2) (.call ft (.cons (.var 0) (.cons (.blt .len (.cons (.var 2) .nil)) .nil)))))) .nil))
   { nx:=wSs (phi T (n - 1)) (.cons (.ret (.var 3)) .nil) { nx:=fun x M'=>Q D.non M',rt:=Q },rt:=Q } f [some (.ref b),some (.int m),some (.ref pl),some (.ref pf)] M':=by
  intro f
  induction f with
  | zero=>intro L os M' _ _ _ _ _ _ h;lia
  | succ f ih =>
    intro L os M' x sl sf hL Y hlen Ei;rw [aL];walk_at "wp";refine ⟨by rw [hH];lia,fun pe B => ?_⟩
    have eb:pe≠b:=fun z=>by obtain ⟨U,y1,w1,e⟩:=x.box;rw [z,e] at B;cases B
    have el:pe≠pl:=fun z=>by rw [z,sl] at B;cases B
    have ef:pe≠pf:=fun z=>by rw [z,sf] at B;cases B
    have Z:Bx b M (ad M' pe (.lst [])):=x.upd (x.none B eb) eb;have G:ad M' pe (.lst []) pl=some (.lst (L.map fun i => .int (i:Nat))):=by rw [ab (Ne.symm el)];exact sl
    have O:ad M' pe (.lst []) pf=some (.lst (os.map fun i => .int (i:Nat))):=by rw [ab (Ne.symm ef)];exact sf
    have e3:=aa (M:=M') (a:=pe) (o := .lst []);generalize ad M' pe (.lst [])=M3 at Z G O e3 ⊢;have eL:(L.map fun i=>D.int (i:Nat))=(L.map fun i:Nat=>(i:Int)).map .int:=by rw [G5];rfl
    refine yg (by rw [G,eL]) e3 ?_
    refine ⟨_,rfl, ?_⟩
    cases L with
    | nil =>
      rw [if_neg (by simp)]
      walk_at "st";exact q pf os M3 Z Z.box nf O Y (by simp at hlen;exact hlen)
    | cons a L =>
      rw [if_pos (by simp)]
      walk_at "st";refine ⟨⟨_,O⟩,⟨_,G⟩,jR G ?_⟩;rw [gV,Gj];refine Ef Z.box (by lia) (by simp at hlen;lia) fun r M4 r0 r1 x4 => ?_
      obtain ⟨j,rfl⟩:=Int.eq_ofNat_of_zero_le r0;have hj:j < (a::L).length:=by rw [Gj];lia
      have Eg:=x4.keep _ _ lb G;have Eh:=x4.keep _ _ fb O;have x5:=Z.trans x4;refine ⟨pl,_,j, .int ((a::L)[j]:Nat),rfl,rfl,Eg,by rw [FK,r4 hj];rfl,by simp at hlen hj;lia, ?_⟩
      refine ⟨pf,_,_,rfl,rfl,by rw [ab fl];exact Eh,by rw [gV,hH];lia, ?_⟩
      have hle:((a::L).eraseIdx j).length+1=(a::L).length:=by rw [List.length_eraseIdx_of_lt hj];simp
      refine ih ((a::L).eraseIdx j) (os++[(a::L)[j]]) _ ((x5.upd J lb).upd nf fb) ?_ ?_ (fun i hi=>hL i (List.mem_of_mem_eraseIdx hi)) (fun i hi => ?_) ?_ ?_
      ·rw [ab (Ne.symm fl),aa];congr 2;exact cK _ _ _
      ·rw [aa,D2];rfl
      ·rcases FC.mp hi with h | h
       ·exact Y i h
       ·rw [Gf.mp h];exact hL _ (IP hj)
      ·rw [i5,G6];lia
      ·lia
 exact go (m+1) (Gc m) [] M2 x2 s2 f2 (fun i hi=>Kg.mp hi) (fun i hi=>by cases hi) (by simp) (by simp)
end
section
theorem oR {ks:List Int} (h:ks.Nodup) {k:Int}:(kd ks k).Nodup:=h.sublist K7
theorem oS {ks:List Int} (h:ks.Nodup) {k:Int}:ks.erase k=kd ks k:=by
 rw [h.erase_eq_filter];unfold kd;exact KI fun x _=>by
  by_cases z:x=k
  ·simp [z]
  ·simp [z]
theorem fo {ks:List Int} (h:ks.Nodup) {k:Int} (n:k∉ks):(ks++[k]).Nodup:=by
 rw [Hv];exact ⟨h,by simp,fun a j b q=>by rw [Gf.mp q];exact fun z=>n (z ▸ j)⟩
theorem iq {room:Int}:∀ (l:List (Int×Int)) (s:Pst),s.2.1.Nodup->(l.foldl (pS room) s).2.1.Nodup
 | [],_,h=>h
 | kc::l,s,h=>by
   rw [Gr];refine iq l _ ?_;unfold pS
   cases ig s.2.2 kc.1 with
   | some v=>exact h
   | none=>exact fo h (bS _).1
theorem vP {ks:List Int}:r3 ks∉ks:=fun z=>(bS (ks++[r1 ks]++[r2 ks])).1 (G4 _ (G4 _ z))
theorem sM {ks:List Int} {rs:List (Int×Int)} {p:Pr} (h:ks.Nodup):(aq ks rs p).2.1.Nodup:=oR (iq (nz p.2.2) ([],ks++[r3 ks],rs) (fo h vP))
theorem iu:∀ (l:List Int) (s:Pst),s.2.1.Nodup->(l.foldl tS s).2.1.Nodup
 | [],_,h=>h
 | k::l,s,h=>by
   rw [Gr];refine iu l _ ?_;unfold tS
   cases ig s.2.2 k with
   | some v=>exact oR h
   | none=>exact h
end
section
noncomputable def aT:Sp->Bool
 | .lin _ _ _=>true
 | _=>false
theorem AJ {a b:Addr} {s:Sp} (h:aT s=false):spD a s=spD b s:=by cases s <;> first | rfl | cases h
theorem oT {room:Int}:∀ (l:List (Int×Int)) (s:Pst),(∀ x∈s.1,aT x=false) -> ∀ x∈(l.foldl (pS room) s).1,aT x=false
 | [],_,h=>h
 | kc::l,s,h=>by
   rw [Gr];refine oT l _ ?_;unfold pS;intro x hx
   cases j:ig s.2.2 kc.1 with
   | some v =>
     rw [j] at hx
     rcases FC.mp hx with z | z
     ·exact h x z
     ·rw [Gf.mp z];rfl
   | none =>
     rw [j] at hx
     rcases FC.mp hx with z | z
     ·exact h x z
     ·rw [Gf.mp z];rfl
theorem qL {room:Int} {k:Int}:∀ (l:List (Int×Int)) (s:Pst),k∈(l.foldl (pS room) s).2.2.map (·.1)->k∈s.2.2.map (·.1)∨k∈l.map (·.1)
 | [],_,h => .inl h
 | kc::l,s,h=>by
   rw [Gr] at h
   rcases qL l _ h with z | z
   ·unfold pS at z
    cases hv:ig s.2.2 kc.1 with
    | some v=>rw [hv] at z;exact .inl z
    | none =>
      rw [hv] at z;dsimp only at z;rw [D2,FC] at z
      rcases z with z | z
      ·exact .inl z
      ·right;simp at z;simp [z]
   ·right;rw [FL];exact FJ _ z
theorem AK {rs:List (Int×Int)} {k v:Int} (h:ig rs k=some v):(k,v)∈rs:=by
 unfold ig at h;obtain ⟨p,j,e⟩:=HA.mp h;have h1:=List.mem_of_find?_eq_some j;have h2:=List.find?_some j;have:p.1=k:=by simpa using h2
 subst this e;exact h1
theorem jw:∀ (l:List Int) (s:Pst),RInv s.2.1 s.2.2->RInv (l.foldl tS s).2.1 (l.foldl tS s).2.2/\(l.foldl tS s).2.1.length<=s.2.1.length/\(l.foldl tS s).1.length<=s.1.length+l.length/\(∀ k∈(l.foldl tS s).2.2.map (·.1),k∈s.2.2.map (·.1)/\k∉l)/\((∀ x∈s.1,aT x=false) -> ∀ x∈(l.foldl tS s).1,aT x=false)
 | [],s,h=>⟨h,Fy _,Fy _,fun k G=>⟨G,by simp⟩,fun h=>h⟩
 | k::l,s,h=>by
   have h0:RInv (tS s k).2.1 (tS s k).2.2/\(tS s k).2.1.length<=s.2.1.length/\(tS s k).1.length<=s.1.length+1/\(∀ j∈(tS s k).2.2.map (·.1),j∈s.2.2.map (·.1)/\j≠k)/\((∀ x∈s.1,aT x=false) -> ∀ x∈(tS s k).1,aT x=false):=by
    unfold tS
    cases F:ig s.2.2 k with
    | some v =>
      refine ⟨h.drop (AK F),FV _ _,by simp,fun j q => ?_,fun h x hx => ?_⟩
      ·obtain ⟨p,J,rfl⟩:=FI.mp q;have B:=G3.mp J;exact ⟨FI.mpr ⟨p,B.1,rfl⟩,of_decide_eq_true B.2⟩
      ·rcases FC.mp hx with z | z
       ·exact h x z
       ·rw [Gf.mp z];rfl
    | none=>exact ⟨h,Fy _,Nat.le_succ _,fun j q=>⟨q,fun z=>oM F (z ▸ q)⟩,fun h=>h⟩
   rw [Gr];obtain ⟨L,i2,i3,O,U⟩:=jw l (tS s k) h0.1;refine ⟨L,by lia,by rw [Gj];lia,fun j q => ?_,fun h=>U (h0.2.2.2.2 h)⟩
   obtain ⟨Y,Z⟩:=O j q;obtain ⟨j3,j4⟩:=h0.2.2.2.1 j Y;exact ⟨j3,by rw [Fx,not_or];exact ⟨j4,Z⟩⟩
theorem kg:∀ (L:Nat) (xs:List Int),xs.Nodup->(∀ x∈xs,0<=x/\x < L)->xs.length<=L
 | 0,xs,_,h=>by
  cases xs with
  | nil=>simp
  | cons x xs=>have:=h x (by simp);lia
 | L+1,xs,j,h=>by
   have h1:=kg L (xs.erase (L:Nat)) (j.erase _) fun x hx=>by
    have hm:=(j.mem_erase_iff).mp hx;have:=h x hm.2;have:=hm.1;lia
   have:xs.length<=(xs.erase (L:Nat)).length+1:=by
    rw [List.length_erase];split <;> lia
   lia
noncomputable def aD (B:List Pr) (k:Int):Bool:=B.any fun b=>decide (k∈plc b.2.2)
noncomputable def whl (B:List Pr) (rs:List (Int×Int)):List Int:=(srt (rs.map (·.1))).filter fun k => !aD B k
noncomputable def stp (s:Pst) (p:Pr) (B:List Pr):Pst :=
 let u:=aq s.2.1 s.2.2 p
 let t:=tSs u.2.1 u.2.2 (whl B u.2.2)
 (s.1++u.1++t.1,t.2)
noncomputable def b9 (ps:List Pr):Nat->Pst
 | 0=>([],[],[])
 | i+1=>match ps[i]? with
   | some p=>stp (b9 ps i) p (ps.drop (i+1))
   | none=>b9 ps i
theorem kh {ps A B:List Pr} {p:Pr} (e:ps=A++p::B):b9 ps (A.length+1)=stp (b9 ps A.length) p B:=by
 rw [b9];have:ps[A.length]? = some p:=by rw [e];simp
 rw [this];have:ps.drop (A.length+1)=B:=by rw [e];simp
 dsimp only;rw [this]
structure PInv (L:Nat) (B:List Pr) (i:Nat) (s:Pst):Prop where
 r:RInv s.2.1 s.2.2
 n:s.2.1.Nodup
 f:∀ k∈s.2.2.map (·.1),aD B k=true
 kl:s.2.1.length<=(L+1)*i
 sl:s.1.length<=(6+2*L)*i
theorem Cv {l:List Int} {k:Int} (h:k∈plc l) : 0<=k/\k < l.length:=by
 unfold plc nz idx at h;obtain ⟨q,j,rfl⟩:=FI.mp h;obtain ⟨i,hi,rfl⟩:=K1.mp (G3.mp j).1;exact ⟨by simp,by simp;exact hi⟩
theorem oU {L:Nat} {B:List Pr} (j:∀ b∈B,b.2.2.length<=L) {k:Int} (h:aD B k=true) : 0<=k/\k < L:=by
 obtain ⟨b,q,e⟩:=I8.mp h;have h1:=Cv (of_decide_eq_true e);have h2:=j b q;exact ⟨h1.1,by lia⟩
theorem PInv.rl {L:Nat} {B:List Pr} {i:Nat} {s:Pst} (h:PInv L B i s) (j:∀ b∈B,b.2.2.length<=L):s.2.2.length<=L:=by
 have:=kg L _ h.r.k fun k q=>oU j (h.f k q)
 rwa [gV] at this
theorem PInv.mid {L:Nat} {B:List Pr} {i:Nat} {s:Pst} {p:Pr} (h:PInv L (p::B) i s) (q:∀ b∈p::B,b.2.2.length<=L) :
 RInv (aq s.2.1 s.2.2 p).2.1 (aq s.2.1 s.2.2 p).2.2/\(aq s.2.1 s.2.2 p).2.1.Nodup/\(∀ k∈(aq s.2.1 s.2.2 p).2.2.map (·.1),aD (p::B) k=true)/\(aq s.2.1 s.2.2 p).2.1.length<=(L+1)*(i+1)/\(aq s.2.1 s.2.2 p).1.length<=6+L/\(aq s.2.1 s.2.2 p).2.2.length<=L:=by
 have h1:=yc (p:=p) h.r;have j:∀ k∈(aq s.2.1 s.2.2 p).2.2.map (·.1),aD (p::B) k=true:=fun k j=>by
  rcases qL (nz p.2.2) _ j with z | z
  ·exact h.f k z
  ·exact I8.mpr ⟨p,by simp,decide_eq_true z⟩
 have F:=bE (l:=p.2.2);have G:=q p (by simp)
 obtain ⟨l1,l2,J,O⟩:=dg (room:=r3 s.2.1) (ks:=s.2.1++[r3 s.2.1]) (rs:=s.2.2) (nz p.2.2);refine ⟨h1,sM h.n,j, ?_, ?_, ?_⟩
 ·have:(aq s.2.1 s.2.2 p).2.1.length<=_:=FV _ _;have e:=h.kl;rw [i5,G6] at l2;rw [Nh];lia
 ·show (tms s.2.1 p.1 p.2.1++(pSs (r3 s.2.1) (s.2.1++[r3 s.2.1]) s.2.2 (nz p.2.2)).1++[Sp.emp (r3 s.2.1)]).length<=_;rw [i5,i5,l1];have:(tms s.2.1 p.1 p.2.1).length=5:=rfl;simp;lia
 ·have:=kg L _ h1.k fun k h=>oU q (j k h)
  rwa [gV] at this
theorem PInv.step {L:Nat} {B:List Pr} {i:Nat} {s:Pst} {p:Pr} (h:PInv L (p::B) i s) (j:∀ b∈p::B,b.2.2.length<=L):PInv L B (i+1) (stp s p B):=by
 obtain ⟨q,z,m3,F,m5,m6⟩:=h.mid j;unfold stp;dsimp only;generalize aq s.2.1 s.2.2 p=u at *
 obtain ⟨t1,G,t3,J,_⟩:=jw (whl B u.2.2) ([],u.2.1,u.2.2) q;have hw:(whl B u.2.2).length<=L:=by
  have h1:(whl B u.2.2).length<=(srt (u.2.2.map (·.1))).length:=FV _ _;rw [srt_perm.length_eq,gV] at h1;lia
 refine ⟨t1,iu _ _ z,fun k O => ?_,G8 G F, ?_⟩
 ·obtain ⟨U,Y⟩:=J k O
  cases Z:aD B k with
  | true=>rfl
  | false=>exact absurd (G3.mpr ⟨srt_perm.mem_iff.mpr U,by rw [Z];rfl⟩) Y
 ·have e:=h.sl;have Ef:(tSs u.2.1 u.2.2 (whl B u.2.2)).1.length<=0+(whl B u.2.2).length:=t3;rw [i5,i5,Nh];lia
theorem PInv.all {L:Nat} {ps:List Pr} (G:∀ b∈ps,b.2.2.length<=L):∀ (i:Nat) (A B:List Pr),A.length=i->ps=A++B->PInv L B i (b9 ps i):=by
 intro i
 induction i with
 | zero =>
   intro A B j e;exact ⟨⟨Kn,Kn,fun p J=>(by cases J)⟩,Kn,fun k O=>(by cases O),GW _,GW _⟩
 | succ i ih =>
   intro A B j e;obtain ⟨A',p,rfl⟩:∃ A' p,A=A'++[p]:=by
    rcases LD A with z | ⟨A',p,z⟩
    ·rw [z] at j;simp at j
    ·exact ⟨A',p,by simpa using z⟩
   have F:A'.length=i:=by simp at j;exact j
   have q:ps=A'++p::B:=by rw [e];simp
   have h1:=(ih A' (p::B) F q).step fun b U=>G b (by rw [q];exact FE _ U)
   subst F;rw [kh q];exact h1
end
section
variable {T:List FD}
theorem sN {Φ:Phi} {g:MG} {e:ME} {r:MSs} {E:b3} {ρ:ak} {M:Mem} (h:wE Φ e ρ M fun x M1 => ∃ ρ',bG g x ρ = some ρ'/\wSs Φ r E ρ' M1):wSs Φ (.cons (.asg g e) r) E ρ M:=by
 rw [cn];exact h
theorem Ed {Φ:Phi} {i f:Nat} {e:ME} {es:MEs} {r:MSs} {E:b3} {ρ:ak} {M:Mem} {x:D} (h : ρ[i]? = some (some x)) (k:wE Φ e ρ M fun w M1=>wA Φ es ρ M1 fun ws M2 => Φ f (w::ws) M2 fun y j=>m9 x y j fun z q=>wSs Φ r E (ρ.set i (some z)) q):wSs Φ (.cons (.aug i .ext (.call f (.cons e es))) r) E ρ M:=by
 rw [cn];refine ⟨x,h, ?_⟩;rw [wE,wA];exact k
noncomputable def g0 (s:Stmt) (fh ff ft fs fl:Nat):FD:=⟨"program_of",s,["scheme", "order", "products", "last", "program", "held", "rooms", "at", "l", "r", "o", "steps", "room"],2,
 (.cons (.asg (.name 2) (.comp [none,(some 0)] ["number", "scheme"] (.last (.seq (.var 1)) (.name 0) (.cons (.not (.tru (.call fh (.cons (.ix (.ix (.var 1) (.int 3)) (.var 0)) .nil)))) .nil) (.ix (.ix (.var 1) (.int 3)) (.var 0)))))
 (.cons (.asg (.name 3) (.dcomp2 [none,none,none,none,none,none] ["at", "l", "r", "o", "k", "c"] (.enum (.var 2)) (.tup (.cons (.name 0) (.cons (.tup (.cons (.name 1) (.cons (.name 2) (.cons (.name 3) .nil)))) .nil))) (.seq (.call ff (.cons (.var 3) .nil))) (.tup (.cons (.name 4) (.cons (.name 5) .nil))) (.var 4) (.var 0)))
 (.cons (.par3 4 5 6 (.lst .nil) (.dnew false) (.dnew false))
 (.cons (.for (.tup (.cons (.name 7) (.cons (.tup (.cons (.name 8) (.cons (.name 9) (.cons (.name 10) .nil)))) .nil))) (.enum (.var 2)) (.cons (.asg (.tup (.cons (.name 11) (.cons (.name 12) .nil))) (.call ft (.cons (.var 8) (.cons (.var 9) (.cons (.var 5) .nil)))))
 (.cons (.aug 4 .ext (.bin .add (.var 11) (.call fs (.cons (.var 10) (.cons (.var 12) (.cons (.var 6) (.cons (.var 5) .nil)))))))
 (.cons (.aug 4 .ext (.call fl (.cons (.comp [none,(some 3),(some 7)] ["k", "last", "at"] (.last (.seq (.blt .sorts (.cons (.var 6) .nil))) (.name 0) (.cons (.cmp .eq (.ix (.var 1) (.var 0)) (.var 2)) .nil) (.var 0))) (.cons (.var 6) (.cons (.var 5) .nil)))))
 .nil))))
 (.cons (.ret (.var 4))
 .nil)))))⟩
theorem jx {M M':Mem} {x:Sq} (h:spM M x.2 x.1) (k:∀ o,M x.2=some o->M' x.2=some o):spM M' x.2 x.1:=by
 obtain ⟨s,q⟩:=x
 cases s <;> first | exact k _ h | trivial
theorem vQ {l:List Sp} (h:∀ x∈l,aT x=false) (a:Addr):l.map (spD 0)=(l.map fun s=>(s,a)).map sqD:=by
 rw [G5];exact IS fun s hs=>AJ (h s hs)
theorem gE {M:Mem} {s:Sp} {a:Addr} (h:aT s=false):spM M a s:=by cases s <;> first | trivial | cases h
theorem sP {ps:List Pr} {k:Int} (h:aD ps k=true):∃ A p B,ps=A++p::B/\k∈plc p.2.2/\aD B k=false:=by
 induction ps with
 | nil=>cases h
 | cons p ps ih =>
   cases j:aD ps k with
   | true =>
     obtain ⟨A,p',B,e,h1,h2⟩:=ih j;exact ⟨p::A,p',B,by rw [e];rfl,h1,h2⟩
   | false =>
     refine ⟨[],p,ps,rfl, ?_,j⟩;unfold aD at h j;rw [Hc,j,Bool.or_false] at h;exact of_decide_eq_true h
theorem lq {A B:List Pr} {p:Pr} {k:Int} (h:aD (p::B) k=true):∃ i:Nat,aI (b7 ((A++p::B).zipIdx.flatMap lkv)) (.int k)=some (.int i)/\decide ((i:Int)=(A.length:Nat)) = !aD B k:=by
 cases j:aD B k with
 | true =>
   obtain ⟨A',p',B',e,h1,h2⟩:=sP j;refine ⟨(A++p::A').length, ?_, ?_⟩
   ·rw [e,show A++p::(A'++p'::B')=(A++p::A')++p'::B' by simp]
    exact oP h1 fun b q z=>by
     have:=Jj.mp h2 b q;exact this (decide_eq_true z)
   ·rw [decide_eq_false];rfl;simp;lia
 | false =>
   refine ⟨A.length, ?_,by simp⟩
   refine oP ?_ fun b q z => ?_
   ·unfold aD at h j;rw [Hc,j,Bool.or_false] at h;exact of_decide_eq_true h
   ·have:=Jj.mp j b q;exact this (decide_eq_true z)
theorem sQ {f fh ff ft fs fl fk fp:Nat} {s sh sf sl sm ss sp sk:Stmt} (hf:T[f]? = some (g0 s fh ff ft fs fl)) (EZ:T[fh]? = some (cG sh)) (Es:T[ff]? = some (bF sf)) (F1:T[ft]? = some (gD sm fk fp)) (F3:T[fp]? = some (cF sp ff)) (EF:T[fk]? = some (eC sk)) (F4:T[fs]? = some (jt ss ff fk)) (F5:T[fl]? = some (ju sl))
 {n:Nat} (hn : 4<=n) {x y z:D} {pp oA:Addr} {ds:List Pr} {os:List Nat} {M:Mem} {Q:QD} (hd:∀ p∈ds,p.1.length<=20/\p.2.1.length<=20/\p.2.2.length<=20) (mp:M pp=some (.lst (ds.map prD))) (mo:M oA=some (.lst (os.map fun i => .int (i:Nat)))) (ho:∀ i∈os,i < ds.length) (hl:os.length<=20)
 (q:∀ g xs M',Ge M M'->M g=none->PgI M' g xs->xs.map (·.1)=(b9 ((os.filterMap fun i=>ds[i]?).filter b0) ((os.filterMap fun i=>ds[i]?).filter b0).length).1->(∀ x∈xs,M x.2=none)->(∀ x∈xs,x.2≠g)->Q (.ref g) M'):phi T n f [.tup [x,y,z, .ref pp], .ref oA] M Q:=by
 refine ar (by lia) hf rfl (ρ := [some _,some _,none,none,none,none,none,none,none,none,none,none,none]) rfl ?_
 unfold g0;refine sN (ye EZ (by lia) rfl rfl mp mo ho (by lia) fun pA M1 g1 F6 e1=>⟨_,rfl, ?_⟩)
 have Et:∀ p∈(os.filterMap fun i=>ds[i]?).filter b0,p∈ds:=fun p hp=>by
  obtain ⟨i,_,e⟩:=J9.mp (G3.mp hp).1;exact FU e
 have Fb:((os.filterMap fun i=>ds[i]?).filter b0).length<=20:=G8 (FV _ _) (G8 (HY _ _) hl);generalize (os.filterMap fun i=>ds[i]?).filter b0=ps at *
 refine sN (AG Es (by lia) rfl e1 (fun p hp=>by have:=hd p (Et p hp);lia) (by lia) fun lA M2 g2 Eu nl=>⟨_,rfl, ?_⟩)
 have g3:=(g1.trans g2).trans (Ge.new (o := .dct false (b7 (ps.zipIdx.flatMap lkv))) Eu);have e3:ad M2 lA (.dct false (b7 (ps.zipIdx.flatMap lkv))) pA=some (.lst (ps.map prD)):=Ge.new Eu _ _ (g2 _ _ e1);have el:ad M2 lA (.dct false (b7 (ps.zipIdx.flatMap lkv))) lA=_:=aa;generalize ad M2 lA (.dct false (b7 (ps.zipIdx.flatMap lkv)))=M3 at g3 e3 el ⊢;clear g1 g2 Eu nl F6 e1;walk_at "st";refine ⟨by rw [hH];lia,fun gA Ev J Eh rA L => ?_⟩
 have hg:J≠gA:=fun z=>by rw [z,aa] at Eh;cases Eh
 have rh:rA≠J:=fun z=>by rw [z,aa] at L;cases L
 rw [ab rh] at L;have rg:rA≠gA:=fun z=>by rw [z,aa] at L;cases L
 have g4:=((Ge.new (o := .lst []) Ev).trans (Ge.new (o := .dct false []) Eh)).trans (Ge.new (o := .dct false []) (by rw [ab rh];exact L))
 have ng:M3 gA=none:=Ev;have nh:M3 J=none:=by rw [ab hg] at Eh;exact Eh
 have nr:M3 rA=none:=by rw [ab rg] at L;exact L
 have Ek:ad (ad (ad M3 gA (.lst [])) J (.dct false [])) rA (.dct false []) gA=some (.lst []):=by rw [ab (Ne.symm rg),ab (Ne.symm hg),aa]
 have Ew:ad (ad (ad M3 gA (.lst [])) J (.dct false [])) rA (.dct false []) J=some (.dct false []):=by rw [ab (Ne.symm rh),aa]
 have Ex:ad (ad (ad M3 gA (.lst [])) J (.dct false [])) rA (.dct false []) rA=some (.dct false []):=aa;generalize ad (ad (ad M3 gA (.lst [])) J (.dct false [])) rA (.dct false [])=M4 at g4 Ek Ew Ex ⊢;clear Ev Eh L;walk_at "st";refine ⟨_,af (g4 _ _ e3), ?_⟩;rw [kb];have pg:pA≠gA:=fun z=>by rw [z,ng] at e3;cases e3
 have pH:pA≠J:=fun z=>by rw [z,nh] at e3;cases e3
 have pr:pA≠rA:=fun z=>by rw [z,nr] at e3;cases e3
 have lg:lA≠gA:=fun z=>by rw [z,ng] at el;cases el
 have lh:lA≠J:=fun z=>by rw [z,nh] at el;cases el
 have lr':lA≠rA:=fun z=>by rw [z,nr] at el;cases el
 have hL:∀ b∈ps,b.2.2.length<=20:=fun b hb=>(hd b (Et b hb)).2.2;refine br (f:=eD) (ys:=ps.zipIdx) (I:=fun l ρ M' => ∃ (o7 o8 o9 El Em Eo:Option D) (xs:List Sq), ρ = [some (.tup [x,y,z, .ref pp]),some (.ref oA),some (.ref pA),some (.ref lA),some (.ref gA),some (.ref J),some (.ref rA),o7,o8,o9,El,Em,Eo] /\
  (∀ a o,a≠gA->a≠J->a≠rA->M4 a=some o->M' a=some o)/\M' J=some (.dct false ((b9 ps l.length).2.1.map tk))/\M' rA=some (.dct false ((b9 ps l.length).2.2.map (hD .int)))/\PgI M' gA xs/\xs.map (·.1)=(b9 ps l.length).1 /\ ∀ x∈xs,M4 x.2=none) rfl
  ⟨none,none,none,none,none,none,[],rfl,fun _ _ _ _ _ e=>e,Ew,Ex,⟨Ek,fun _ h=>by cases h⟩,rfl,fun _ h=>by cases h⟩ ?_ ?_ ?_
 ·rintro l ρ M' ⟨o7,o8,o9,El,Em,Eo,xs,rfl,fr,_⟩;exact af (fr _ _ pg pH pr (g4 _ _ e3))
 ·rintro l ⟨p,i⟩ r ρ M' e ⟨o7,o8,o9,El,Em,Eo,xs,rfl,fr,mh,mr,pi,ex,nx⟩;refine ⟨_,rfl,fun F hF => ?_⟩;have e5:=lm e;have hi:i=l.length:=by
   have h1:ps.zipIdx[l.length]? = some (p,i):=by rw [e];simp
   rw [JU] at h1
   cases hz:ps[l.length]? with
   | none=>rw [hz] at h1;cases h1
   | some w=>rw [hz] at h1;cases h1;simp
  subst hi;have hlen:(l.map (·.1)).length=l.length:=gV _;have Fc:l.length < 20:=by have:=congrArg Hh e5;simp at this;lia
  have inv:=PInv.all hL l.length (l.map (·.1)) (p::r.map (·.1)) hlen e5;have hB:∀ b∈p::r.map (·.1),b.2.2.length<=20:=fun b hb=>hL b (by rw [e5];exact FE _ hb)
  have est:=kh e5;rw [hlen] at est;obtain ⟨d1,d2,d3⟩:=hd p (Et p (by rw [e5];simp))
  have Fd:=inv.kl;have Fe:=inv.rl hB;have Ff:=inv.sl;obtain ⟨m1,m2,m3,m4,m5,m6⟩:=inv.mid hB;generalize hS:b9 ps l.length=S at *
  refine sN ?_;walk_at "wp";refine yb F1 (by lia) (ll EF (by lia)) F3 Es (by lia) (by lia) (by lia) mh rfl rfl fun a1 q1 q2 M5 k5 EG EH EI Ey EJ EK EL=>⟨_,rfl, ?_⟩
  have nb:∀ a,M' a=none->M4 a=none:=fun a h=>by
   cases hz:M4 a with
   | none=>rfl
   | some o =>
     by_cases U:a=gA
     ·rw [U,pi.l] at h;cases h
     ·by_cases G:a=J
      ·rw [G,mh] at h;cases h
      ·by_cases Y:a=rA
       ·rw [Y,mr] at h;cases h
       ·rw [fr _ _ U G Y hz] at h;cases h
  have ne1:∀ a,M4 a=none->a≠gA/\a≠J/\a≠rA:=fun a h=>⟨fun z=>(by rw [z,Ek] at h;cases h),fun z=>(by rw [z,Ew] at h;cases h),fun z=>(by rw [z,Ex] at h;cases h)⟩
  walk_at "st";refine AB F4 (by lia) (ll EF (by lia)) Es (Ne.symm rh) (by lia) (by rw [i5,G6];lia) (by lia) (FE _ (by simp)) Ey (k5 _ _ rh mr) fun a2 M6 k6 Ei Ez EA EM => ?_
  rw [ow];have Er:M' a2=none:=by
   cases hz:M' a2 with
   | none=>rfl
   | some o =>
     by_cases G:a2=J
     ·rw [G,Ey] at Ei;cases Ei
     ·rw [k5 _ _ G hz] at Ei;cases Ei
  obtain ⟨Fg,F7,F8⟩:=ne1 _ (nb _ EG);obtain ⟨Fh,Fi,Fj⟩:=ne1 _ (nb _ Er);obtain ⟨Fk,Fl,Fm⟩:=ne1 _ (nb _ EH);obtain ⟨Fn,Fo,Fp⟩:=ne1 _ (nb _ EI);obtain ⟨l1,l2,l3,l4⟩:=dg (room:=r3 S.2.1) (ks:=S.2.1++[r3 S.2.1]) (rs:=S.2.2) (nz p.2.2);have hz:=bE (l:=p.2.2);refine ⟨_,_,k6 _ _ F7 F8 EJ,EM,by rw [gV,i5,l1,hH];simp;lia,fun a3 Ef => ?_⟩
  have F9:xs.length=S.1.length:=by rw [<- ex,gV]
  have EB:M6 gA=some (.lst (xs.map sqD)):=k6 _ _ (Ne.symm hg) (Ne.symm rg) (k5 _ _ (Ne.symm hg) pi.l);have EN:a3≠gA:=fun z=>by rw [z,EB] at Ef;cases Ef
  have EO:a3≠J:=fun z=>by rw [z,Ez] at Ef;cases Ef
  have EQ:a3≠rA:=fun z=>by rw [z,EA] at Ef;cases Ef
  refine ⟨gA,a3,_,_,rfl,rfl,by rw [ab (Ne.symm EN)];exact EB,aa,by rw [gV,i5,gV,i5,l1,hH,F9];simp;lia, ?_⟩
  have enl:∀ s∈(pSs (r3 S.2.1) (S.2.1++[r3 S.2.1]) S.2.2 (nz p.2.2)).1++[Sp.emp (r3 S.2.1)],aT s=false:=fun s hs=>by
   rcases FC.mp hs with h | h
   ·exact oT (nz p.2.2) _ (fun _ h=>by cases h) s h
   ·rw [Gf.mp h];rfl
  obtain ⟨j,ER,ES,EC⟩:∃ j:List Sq,xs.map sqD++([spD q1 (.lin true (r1 S.2.1) (pts p.1)),spD q2 (.lin false (r2 S.2.1) (pts p.2.1)),spD a1 (.tim (r3 S.2.1) (r1 S.2.1) (r2 S.2.1)),spD a1 (.emp (r1 S.2.1)),spD a1 (.emp (r2 S.2.1))]++((pSs (r3 S.2.1) (S.2.1++[r3 S.2.1]) S.2.2 (nz p.2.2)).1++[Sp.emp (r3 S.2.1)]).map (spD 0))=j.map sqD/\j.map (·.1)=S.1++(aq S.2.1 S.2.2 p).1 /\ ∀ w∈j,w∈xs∨w=(.lin true (r1 S.2.1) (pts p.1),q1)∨w=(.lin false (r2 S.2.1) (pts p.2.1),q2)∨(aT w.1=false/\(w.2=a1∨w.2=a2)):=by
   refine ⟨xs++([(.lin true (r1 S.2.1) (pts p.1),q1),(.lin false (r2 S.2.1) (pts p.2.1),q2),(.tim (r3 S.2.1) (r1 S.2.1) (r2 S.2.1),a1),(.emp (r1 S.2.1),a1),(.emp (r2 S.2.1),a1)]++((pSs (r3 S.2.1) (S.2.1++[r3 S.2.1]) S.2.2 (nz p.2.2)).1++[Sp.emp (r3 S.2.1)]).map fun s=>(s,a2)), ?_, ?_,fun w hw => ?_⟩
   ·rw [vQ enl a2];generalize Ia (fun s=>((s,a2):Sq)) _=Z;rw [D2,D2];rfl
   ·rw [D2,ex,D2,G5];have:((fun x:Sq=>x.1) ∘ fun s:Sp=>((s,a2):Sq))=id:=rfl;rw [this,O1];show S.1++(tms S.2.1 p.1 p.2.1++_)=S.1++(tms S.2.1 p.1 p.2.1++_++_);rw [Gb]
   ·rcases FC.mp hw with h | h
    ·exact .inl h
    ·rcases FC.mp h with h | h
     ·simp only [Fx,FW,or_false] at h
      rcases h with rfl | rfl | rfl | rfl | rfl
      ·exact .inr (.inl rfl)
      ·exact .inr (.inr (.inl rfl))
      ·exact .inr (.inr (.inr ⟨rfl, .inl rfl⟩))
      ·exact .inr (.inr (.inr ⟨rfl, .inl rfl⟩))
      ·exact .inr (.inr (.inr ⟨rfl, .inl rfl⟩))
     ·obtain ⟨s,hs,rfl⟩:=FI.mp h;exact .inr (.inr (.inr ⟨enl s hs, .inr rfl⟩))
  rw [ER];have k8:∀ (B:O) (a:Addr) (o:O),a≠gA->a≠J->a≠rA->M' a=some o->ad (ad M6 a3 B) gA (.lst (j.map sqD)) a=some o:=fun B a o U G Y h=>by
   have h6:=k6 _ _ G Y (k5 _ _ G h);rw [ab U,ab (fun z=>by rw [z,Ef] at h6;cases h6)];exact h6
  have kq:∀ (B:O) (a:Addr) (o:O),a≠gA->a≠J->a≠rA->M5 a=some o->ad (ad M6 a3 B) gA (.lst (j.map sqD)) a=some o:=fun B a o U G Y h=>by
   have h6:=k6 _ _ G Y h;rw [ab U,ab (fun z=>by rw [z,Ef] at h6;cases h6)];exact h6
  have n8:∀ w∈j,M4 w.2=none:=fun w hw=>by
   rcases EC w hw with h | rfl | rfl | ⟨_,h | h⟩
   ·exact nx w h
   ·exact nb _ EH
   ·exact nb _ EI
   ·rw [h];exact nb _ EG
   ·rw [h];exact nb _ Er
  have s8:∀ (B:O), ∀ w∈j,spM (ad (ad M6 a3 B) gA (.lst (j.map sqD))) w.2 w.1:=fun B w hw=>by
   obtain ⟨U,G,Y⟩:=ne1 _ (n8 w hw)
   rcases EC w hw with h | rfl | rfl | ⟨h,_⟩
   ·exact jx (pi.s w h) fun o ho=>k8 B _ _ U G Y ho
   ·exact kq B _ _ U G Y EK
   ·exact kq B _ _ U G Y EL
   ·exact gE h
  have Ep:∀ (B:O),ad (ad M6 a3 B) gA (.lst (j.map sqD)) J=some (.dct false ((aq S.2.1 S.2.2 p).2.1.map tk)):=fun B=>by rw [ab hg,ab (Ne.symm EO)];exact Ez
  have Ej:∀ (B:O),ad (ad M6 a3 B) gA (.lst (j.map sqD)) rA=some (.dct false ((aq S.2.1 S.2.2 p).2.2.map (hD .int))):=fun B=>by rw [ab rg,ab (Ne.symm EQ)];exact EA
  generalize hO:(O.lst ([spD q1 (.lin true (r1 S.2.1) (pts p.1)),spD q2 (.lin false (r2 S.2.1) (pts p.2.1)),spD a1 (.tim (r3 S.2.1) (r1 S.2.1) (r2 S.2.1)),spD a1 (.emp (r1 S.2.1)),spD a1 (.emp (r2 S.2.1))]++((pSs (r3 S.2.1) (S.2.1++[r3 S.2.1]) S.2.2 (nz p.2.2)).1++[Sp.emp (r3 S.2.1)]).map (spD 0)))=B
  specialize k8 B
  specialize s8 B
  specialize Ep B
  specialize Ej B
  have ED:ad (ad M6 a3 B) gA (.lst (j.map sqD)) gA=_:=aa;generalize ad (ad M6 a3 B) gA (.lst (j.map sqD))=M8 at k8 s8 Ep Ej ED ⊢;clear kq EC ER hO Ef EN EO EQ EB EM EA Ez k6 Ei EK EL EJ Ey k5 enl;refine Ed rfl (yf (g:=fun k=>(match aI (b7 (ps.zipIdx.flatMap lkv)) (.int k) with | some (.int i)=>i | _ => 0)) (at':=(l.length:Nat)) rfl rfl rfl Ej (k8 _ _ lg lh lr' (fr _ _ lg lh lr' (g4 _ _ el))) (fun k hk => ?_) (by lia) fun wA' M9 g9 Fq ET => ?_)
  ·obtain ⟨i,h1,_⟩:=lq (A:=l.map (·.1)) (m3 k hk);rw [<- e5] at h1;rw [h1]
  have ew:((srt ((aq S.2.1 S.2.2 p).2.2.map (·.1))).filter fun k=>decide ((match aI (b7 (ps.zipIdx.flatMap lkv)) (.int k) with | some (.int i)=>i | _ => 0)=((l.length:Nat):Int)))=whl (r.map (·.1)) (aq S.2.1 S.2.2 p).2.2:=by
   refine KI fun k hk => ?_;obtain ⟨i,h1,h2⟩:=lq (A:=l.map (·.1)) (m3 k (srt_perm.mem_iff.mp hk));rw [<- e5] at h1;rw [h1, <- h2,hlen]
  rw [ew] at ET;have Fs:(whl (r.map (·.1)) (aq S.2.1 S.2.2 p).2.2).length<=20:=by
   have h1:(whl (r.map (·.1)) (aq S.2.1 S.2.2 p).2.2).length<=(srt ((aq S.2.1 S.2.2 p).2.2.map (·.1))).length:=FV _ _;rw [srt_perm.length_eq,gV] at h1;lia
  walk_at "wp";refine AC (ws:=whl (r.map (·.1)) (aq S.2.1 S.2.2 p).2.2) F5 (by lia) (Ne.symm rh) (by lia) ((srt_perm.nodup_iff.mpr m1.k).sublist K7) (fun k hk=>srt_perm.mem_iff.mp (G3.mp hk).1) m1 ET (g9 _ _ Ep) (g9 _ _ Ej) fun a4 Ft EE Eg EU EV Fa _ => ?_
  obtain ⟨t1,t2,t3,t4,t5⟩:=jw (whl (r.map (·.1)) (aq S.2.1 S.2.2 p).2.2) ([],(aq S.2.1 S.2.2 p).2.1,(aq S.2.1 S.2.2 p).2.2) m1;have Fu:(tSs (aq S.2.1 S.2.2 p).2.1 (aq S.2.1 S.2.2 p).2.2 (whl (r.map (·.1)) (aq S.2.1 S.2.2 p).2.2)).1.length<=0+(whl (r.map (·.1)) (aq S.2.1 S.2.2 p).2.2).length:=t3;have EW:∀ s∈(tSs (aq S.2.1 S.2.2 p).2.1 (aq S.2.1 S.2.2 p).2.2 (whl (r.map (·.1)) (aq S.2.1 S.2.2 p).2.2)).1,aT s=false:=t5 fun _ h=>by cases h
  have est':b9 ps (l++[(p,l.length)]).length=(S.1++(aq S.2.1 S.2.2 p).1++(tSs (aq S.2.1 S.2.2 p).2.1 (aq S.2.1 S.2.2 p).2.2 (whl (r.map (·.1)) (aq S.2.1 S.2.2 p).2.2)).1,(tSs (aq S.2.1 S.2.2 p).2.1 (aq S.2.1 S.2.2 p).2.2 (whl (r.map (·.1)) (aq S.2.1 S.2.2 p).2.2)).2):=by
   rw [i5,G6,est];rfl
  generalize tSs (aq S.2.1 S.2.2 p).2.1 (aq S.2.1 S.2.2 p).2.2 (whl (r.map (·.1)) (aq S.2.1 S.2.2 p).2.2)=V at *
  have Fv:j.length<=2000:=by
   have:=congrArg Hh ES;rw [gV,i5] at this;lia
  have EX:=EE _ _ (Ne.symm hg) (Ne.symm rg) (g9 _ _ ED);have EY:M4 a4=none:=nb _ (by
   cases hz:M' a4 with
   | none=>rfl
   | some o =>
     by_cases U:a4=gA
     ·rw [U,g9 _ _ ED] at Eg;cases Eg
     ·by_cases G:a4=J
      ·rw [G,g9 _ _ Ep] at Eg;cases Eg
      ·by_cases Y:a4=rA
       ·rw [Y,g9 _ _ Ej] at Eg;cases Eg
       ·rw [g9 _ _ (k8 _ _ U G Y hz)] at Eg;cases Eg)
  refine ⟨gA,a4,_,_,rfl,rfl,EX,Fa,by rw [gV,gV,hH];lia, ?_⟩
  rw [vQ EW a4, <- D2];refine hF _ _ ⟨_,_,_,_,_,_,j++V.1.map fun s=>(s,a4),rfl,fun a o U G Y h => ?_, ?_, ?_,⟨aa,fun w hw => ?_⟩, ?_,fun w hw => ?_⟩
  ·rw [ab U];exact EE _ _ G Y (g9 _ _ (k8 _ _ U G Y (fr _ _ U G Y h)))
  ·rw [ab hg,est'];exact EU
  ·rw [ab rg,est'];exact EV
  ·rcases FC.mp hw with h | h
   ·obtain ⟨U,G,Y⟩:=ne1 _ (n8 w h);exact jx (s8 w h) fun o ho=>by rw [ab U];exact EE _ _ G Y (g9 _ _ ho)
   ·obtain ⟨s,hs,rfl⟩:=FI.mp h;exact gE (EW s hs)
  ·rw [est',D2,ES,G5];have:((fun x:Sq=>x.1) ∘ fun s:Sp=>((s,a4):Sq))=id:=rfl;rw [this,O1]
  ·rcases FC.mp hw with h | h
   ·exact n8 w h
   ·obtain ⟨s,hs,rfl⟩:=FI.mp h;exact EY
 ·rintro ρ M' ⟨o7,o8,o9,El,Em,Eo,xs,rfl,fr,mh,mr,pi,ex,nx⟩;walk_at "st";rw [Kv] at ex;refine q gA xs M' (fun a o h => ?_) ?_ pi ex (fun x hx => ?_) (fun x hx h => ?_)
  ·have h3:=g3 _ _ h;exact fr _ _ (fun z=>by rw [z,ng] at h3;cases h3) (fun z=>by rw [z,nh] at h3;cases h3) (fun z=>by rw [z,nr] at h3;cases h3) (g4 _ _ h3)
  ·cases hz:M gA with
   | none=>rfl
   | some o=>rw [g3 _ _ hz] at ng;cases ng
  ·cases hz:M x.2 with
   | none=>rfl
   | some o=>have:=nx x hx;rw [g4 _ _ (g3 _ _ hz)] at this;cases this
  ·have:=nx x hx;rw [h,Ek] at this;cases this
end
section
variable {T:List FD}
structure LS (M M':Mem) (sA hA rA:Addr) (xs:List Sq) (ks:List Int) (rs:List (Int×Int)):Prop where
 g:Ge M M'
 ns:M sA=none
 nh:M hA=none
 nr:M rA=none
 sh:sA≠hA
 sr:sA≠rA
 hr:hA≠rA
 pi:PgI M' sA xs
 h:M' hA=some (.lst (ks.map .int))
 r:M' rA=some (.dct false (rs.map (hD .int)))
 l:∀ x∈xs,aT x.1=true->x.2≠sA/\x.2≠hA
theorem Cw {M:Mem} {x:Sq} {a:Addr} {kvs:List (D×D)} (h:spM M x.2 x.1) (j:M a=some (.dct false kvs)) (l:aT x.1=true):x.2≠a:=fun z=>by
 obtain ⟨s,q⟩:=x
 cases s <;> first | cases l | skip
 rw [show q=a from z] at h;have h':M a=some (.lst _):=h;rw [j] at h';cases h'
theorem LS.ge {M M' M2:Mem} {sA j rA:Addr} {xs:List Sq} {ks:List Int} {rs:List (Int×Int)} (s:LS M M' sA j rA xs ks rs) (g:Ge M' M2):LS M M2 sA j rA xs ks rs :=
 ⟨s.g.trans g,s.ns,s.nh,s.nr,s.sh,s.sr,s.hr,s.pi.ge g,g _ _ s.h,g _ _ s.r,s.l⟩
theorem eG {M M':Mem} {a:Addr} {o:O} (g:Ge M M') (n:M a=none):Ge M (ad M' a o):=fun b o' e=>by
 rw [ab (fun z=>by rw [z,n] at e;cases e)];exact g _ _ e
theorem LS.keep {M M':Mem} {sA q rA:Addr} {xs:List Sq} {ks:List Int} {rs:List (Int×Int)} (s:LS M M' sA q rA xs ks rs) {a:Addr} {o:O} (z:∀ x∈xs,aT x.1=true->x.2≠a):∀ x∈xs,spM (ad M' a o) x.2 x.1:=fun x hx=>by
 cases j:aT x.1 with
 | false=>exact gE j
 | true=>exact jx (s.pi.s x hx) fun o ho=>by rw [ab (z x hx j)];exact ho
theorem LS.push {M M':Mem} {sA q rA:Addr} {xs:List Sq} {ks:List Int} {rs:List (Int×Int)} (s:LS M M' sA q rA xs ks rs) {ys:List Sq} (z:∀ y∈ys,aT y.1=true->y.2≠sA/\y.2≠q/\spM M' y.2 y.1):LS M (ad M' sA (.lst (xs.map sqD++ys.map sqD))) sA q rA (xs++ys) ks rs:=by
 refine ⟨eG s.g s.ns,s.ns,s.nh,s.nr,s.sh,s.sr,s.hr,⟨by rw [aa,D2],fun x hx => ?_⟩,by rw [ab (Ne.symm s.sh)];exact s.h,by rw [ab (Ne.symm s.sr)];exact s.r,fun x hx j => ?_⟩
 ·rcases FC.mp hx with h | h
  ·exact s.keep (fun x hx j=>(s.l x hx j).1) x h
  ·cases j:aT x.1 with
   | false=>exact gE j
   | true =>
     obtain ⟨h1,h2,B⟩:=z x h j;exact jx B fun o ho=>by rw [ab h1];exact ho
 ·rcases FC.mp hx with h | h
  ·exact s.l x h j
  ·obtain ⟨h1,h2,B⟩:=z x h j;exact ⟨h1,h2⟩
theorem LS.hold {M M':Mem} {sA j rA:Addr} {xs:List Sq} {ks ks':List Int} {rs:List (Int×Int)} (s:LS M M' sA j rA xs ks rs):LS M (ad M' j (.lst (ks'.map .int))) sA j rA xs ks' rs :=
 ⟨eG s.g s.nh,s.ns,s.nh,s.nr,s.sh,s.sr,s.hr,⟨by rw [ab s.sh];exact s.pi.l,s.keep fun x hx q=>(s.l x hx q).2⟩,aa,by rw [ab (Ne.symm s.hr)];exact s.r,s.l⟩
theorem LS.room {M M':Mem} {sA j rA:Addr} {xs:List Sq} {ks:List Int} {rs rs':List (Int×Int)} (s:LS M M' sA j rA xs ks rs):LS M (ad M' rA (.dct false (rs'.map (hD .int)))) sA j rA xs ks rs' :=
 ⟨eG s.g s.nr,s.ns,s.nh,s.nr,s.sh,s.sr,s.hr,⟨by rw [ab s.sr];exact s.pi.l,s.keep fun x hx q=>Cw (s.pi.s x hx) s.r q⟩,by rw [ab s.hr];exact s.h,aa,s.l⟩
theorem LS.newh {M M':Mem} {sA F rA p:Addr} {xs:List Sq} {ks ks':List Int} {rs:List (Int×Int)} (s:LS M M' sA F rA xs ks rs) (j:M' p=none):LS M (ad M' p (.lst (ks'.map .int))) sA p rA xs ks' rs:=by
 have g:=Ge.new (o := .lst (ks'.map .int)) j;refine ⟨s.g.trans g,s.ns, ?_,s.nr,fun z => ?_,s.sr,fun z => ?_,s.pi.ge g,aa,g _ _ s.r,fun x hx B=>⟨(s.l x hx B).1,fun z => ?_⟩⟩
 ·cases hz:M p with
  | none=>rfl
  | some o=>rw [s.g _ _ hz] at j;cases j
 ·rw [<- z,s.pi.l] at j;cases j
 ·rw [z,s.r] at j;cases j
 ·have h:=s.pi.s x hx;obtain ⟨x,q⟩:=x
  cases x <;> first | cases B | skip
  rw [show q=p from z] at h;have h':M' p=some (.lst _):=h;rw [j] at h';cases h'
theorem z0 {u:List Int} {y:Int×Int} (h:y∈nz u):atI (u.map D.int) y.1=some (.int y.2):=by
 unfold nz idx at h;obtain ⟨i,hi,rfl⟩:=K1.mp (G3.mp h).1;exact eB (by rw [FK,r4 hi];rfl)
theorem iw {ds:List D} {d:D}:atI (ds++[d]) (-1)=some d:=by
 unfold atI ixN;rw [if_neg (by lia),i5,G6,if_pos (by lia),show ((-1:Int)+((ds.length+1:Nat):Int)).toNat=ds.length by lia]
 simp
noncomputable def lrD (q:Bool×List Int):D := .tup [.str (ws (lr q.1)), .tup (q.2.map .int)]
noncomputable def lrS (s:List Sp×List Int) (q:Bool×List Int):List Sp×List Int:=(s.1++[.lin q.1 (mex s.2:Nat) (pts q.2)],s.2++[(mex s.2:Int)])
theorem vR:∀ (l:List (Bool×List Int)) (s:List Sp×List Int),(l.foldl lrS s).1.length=s.1.length+l.length/\(l.foldl lrS s).2.length=s.2.length+l.length
 | [],s=>⟨rfl,rfl⟩
 | q::l,s=>by
   rw [Gr];obtain ⟨h1,h2⟩:=vR l (lrS s q);rw [h1,h2];constructor <;> simp [lrS] <;> lia
theorem AL {n fq fp:Nat} {sq sp:Stmt} (Y:T[fq]? = some (eE sq)) (Z:T[fp]? = some (bH sp)) (hn : 1<=n) {M M':Mem} {sA j rA pA:Addr} {xs:List Sq} {ks:List Int} {rs:List (Int×Int)} {S:List Sp} (hS:xs.map (·.1)=S) (Eg:xs.length<=10000) (Eh:ks.length<=900) (s:LS M M' sA j rA xs ks rs) {l r:List Int} (hl:l.length<=1000) (hr:r.length<=1000)
 {w4 w7 G J L O:Option D} {E:b3} {R:MSs}
 (q:∀ G J xs' M2,xs'.map (·.1)=S++[.lin true (r1 ks) (pts l), .lin false (r2 ks) (pts r)]->LS M M2 sA j rA xs' (ks++[r1 ks]++[r2 ks]) rs->wSs (phi T n) R E [some (.ref pA),some (.ref sA),some (.ref j),some (.ref rA),w4,some (.tup (l.map .int)),some (.tup (r.map .int)),w7,G,J,L,O] M2) :
 wSs (phi T n) (.cons (.for (.tup (.cons (.name 8) (.cons (.name 9) .nil))) (.seq (.tup (.cons (.tup (.cons (.str (q7 "left")) (.cons (.var 5) .nil))) (.cons (.tup (.cons (.str (q7 "right")) (.cons (.var 6) .nil))) .nil)))) (.cons (.drop (.meth .append (.var 1) (.tup (.cons (.var 8) (.cons (.call fq (.cons (.var 2) .nil)) (.cons (.comp [none,(some 9)] ["_law_place", "_law_part_here"] (.last (.seq (.call fp (.cons (.var 9) .nil))) (.name 0) .nil (.tup (.cons (.ix (.var 1) (.var 0)) (.cons (.var 0) .nil))))) .nil))))))
 (.cons (.drop (.meth .append (.var 2) (.ix (.ix (.var 1) (.neg (.int 1))) (.int 1))))
 .nil))) R) E [some (.ref pA),some (.ref sA),some (.ref j),some (.ref rA),w4,some (.tup (l.map .int)),some (.tup (r.map .int)),w7,G,J,L,O] M':=by
 walk_at "st";refine ⟨by rw [hH];lia,by rw [hH];lia,by rw [hH];lia, ?_⟩
 refine br (f:=lrD) (ys := [(true,l),(false,r)]) (I:=fun t ρ M2 => ∃ (G J:Option D) (xs':List Sq), ρ = [some (.ref pA),some (.ref sA),some (.ref j),some (.ref rA),w4,some (.tup (l.map .int)),some (.tup (r.map .int)),w7,G,J,L,O]/\xs'.map (·.1)=(t.foldl lrS (S,ks)).1/\LS M M2 sA j rA xs' (t.foldl lrS (S,ks)).2 rs) rfl ⟨_,_,xs,rfl,hS,s⟩ (fun _ _ _ _=>trivial) ?_ ?_
 ·rintro t ⟨b,u⟩ t' ρ M2 e ⟨G,J,xs',rfl,ex,s2⟩;refine ⟨_,rfl,fun F hF => ?_⟩;have hu:u.length<=1000:=by
   have h1:(b,u)∈[(true,l),(false,r)]:=by rw [e];simp
   simp only [Fx,Prod.mk.injEq,FW,or_false] at h1
   rcases h1 with ⟨_,rfl⟩ | ⟨_,rfl⟩
   ·exact hl
   ·exact hr
  have ht:t.length < 2:=av e;obtain ⟨z1,z2⟩:=vR t (S,ks);have Ei:xs'.length<=10001:=by
   have:=congrArg Hh ex;rw [gV,z1, <- hS] at this;simp at this;lia
  dsimp only at z2;walk_at "st";refine ⟨⟨_,s2.pi.l⟩, ?_⟩;refine jT Y hn s2.h (by lia) fun M3 g3 => ?_
  refine dL Z hn hu fun p1 Ef => ?_;refine ⟨_,af aa, ?_⟩;have s4:=(s2.ge g3).ge (Ge.new (o := .lst ((plc u).map .int)) Ef);have m4:=aa (M:=M3) (a:=p1) (o := .lst ((plc u).map .int));generalize ad M3 p1 (.lst ((plc u).map .int))=M4 at s4 m4 ⊢;refine aO (f:=fun q:Int×Int=>D.int q.1) (ys:=nz u) (I:=fun t ρ U acc => ∃ o, ρ = [o,some (.tup (u.map .int))]/\U=M4/\acc=(t.map fun q:Int×Int=>(q.2,(q.1:Int))).map ptD) (by unfold plc;rw [G5];rfl) ⟨none,rfl,rfl,rfl⟩ ?_ ?_ ?_
  ·rintro t ρ U acc ⟨o,rfl,rfl,rfl⟩;exact af m4
  ·rintro t y t' ρ U acc e' ⟨o,rfl,rfl,rfl⟩;refine ⟨_,rfl,fun N' hN => ?_⟩;have hy:y∈nz u:=by rw [e'];simp
   have Ej:=av e';have hz:=bE (l:=u);walk_at "wp";refine ⟨_,z0 hy,by rw [hH];lia,by rw [gV,gV,hH];lia,hN _ _ _ ⟨_,rfl,rfl, ?_⟩⟩
   rw [D2,D2];rfl
  ·rintro ρ U acc ⟨o,rfl,rfl,rfl⟩ p2 hp2;refine ⟨by rw [hH];lia, ?_⟩
   have s5:=s4.ge (Ge.new (o := .lst ((pts u).map ptD)) hp2);have y1:p2≠sA:=fun z=>by rw [z,s4.pi.l] at hp2;cases hp2
   have y2:p2≠j:=fun z=>by rw [z,s4.h] at hp2;cases hp2
   refine ⟨sA,_,_,rfl,rfl,s5.pi.l,by rw [gV,hH];lia, ?_⟩
   have B:=s5.push (ys := [(.lin b (mex (t.foldl lrS (S,ks)).2:Nat) (pts u),p2)]) (fun y hy hl=>by
    rw [Gf.mp hy];exact ⟨y1,y2,aa⟩)
   rw [Hb] at B;have ed:sqD (.lin b (mex (t.foldl lrS (S,ks)).2:Nat) (pts u),p2)=D.tup [D.str (ws (lr b)),D.int (mex (t.foldl lrS (S,ks)).2:Nat),D.ref p2]:=rfl;rw [ed] at B;unfold pts at B;generalize ad (ad U p2 _) sA _=M6 at B ⊢;have m6:=B.pi.l;rw [D2,Hb,show sqD (.lin b (mex (t.foldl lrS (S,ks)).2:Nat) ((nz u).map fun p=>(p.2,(p.1:Int))),p2)=D.tup [D.str (ws (lr b)),D.int (mex (t.foldl lrS (S,ks)).2:Nat),D.ref p2] from rfl] at m6;walk_at "st";refine ⟨⟨_,B.h⟩,aN m6 iw ?_⟩;walk_at "wp";refine ⟨_,rfl, ?_⟩;refine ⟨j,_,_,rfl,rfl,B.h,by rw [gV,hH];lia, ?_⟩
   have s7:=B.hold (ks':=(t.foldl lrS (S,ks)).2++[(mex (t.foldl lrS (S,ks)).2:Int)]);rw [D2] at s7;refine hF _ _ ⟨_,_,xs'++[(.lin b (mex (t.foldl lrS (S,ks)).2:Nat) ((nz u).map fun p=>(p.2,(p.1:Int))),p2)],rfl, ?_, ?_⟩
   ·rw [HS,D2,ex];rfl
   ·rw [HS];exact s7
 ·rintro ρ M2 ⟨G,J,xs',rfl,ex,s2⟩;exact q _ _ xs' M2 (by rw [ex];simp [lrS,r1,r2]) s2
end
section
variable {T:List FD}
theorem LS.push1 {M M':Mem} {sA j rA:Addr} {xs:List Sq} {ks:List Int} {rs:List (Int×Int)} (s:LS M M' sA j rA xs ks rs) {y:Sp} (B:aT y=false) {d:D} (hd:d=spD 0 y):LS M (ad M' sA (.lst (xs.map sqD++[d]))) sA j rA (xs++[(y,0)]) ks rs:=by
 subst hd;have:=s.push (ys := [(y,0)]) (fun z F q=>by rw [Gf.mp F,B] at q;cases q)
 exact this
theorem AM {n fq fp:Nat} {sq sp:Stmt} (U:T[fq]? = some (eE sq)) (Y:T[fp]? = some (bH sp)) (hn : 1<=n) {M M':Mem} {sA G rA pA:Addr} {xs:List Sq} {ks:List Int} {rs:List (Int×Int)} {S:List Sp} (hS:xs.map (·.1)=S) (Eh:xs.length<=10000) (Ei:ks.length<=900) (Ej:rs.length<=900) (s:LS M M' sA G rA xs ks rs) {o:List Int} (hl:o.length<=20) {room:Int}
 {Z w5 w6 w8 w9 j:Option D} {E:b3} {R:MSs}
 (q:∀ j xs' M2,xs'.map (·.1)=S++(pSs room ks rs (nz o)).1->LS M M2 sA G rA xs' (pSs room ks rs (nz o)).2.1 (pSs room ks rs (nz o)).2.2->wSs (phi T n) R E [some (.ref pA),some (.ref sA),some (.ref G),some (.ref rA),Z,w5,w6,some (.tup (o.map .int)),w8,w9,some (.int room),j] M2) :
 wSs (phi T n) (.cons (.for (.name 11) (.seq (.call fp (.cons (.var 7) .nil))) (.cons (.ite (.cmp .inD (.var 11) (.var 3)) (.cons (.drop (.meth .append (.var 1) (.tup (.cons (.str (q7 "add")) (.cons (.ix (.var 3) (.var 11)) (.cons (.ix (.var 7) (.var 11)) (.cons (.var 10) .nil)))))))
 .nil) (.cons (.put (.var 3) (.var 11) (.call fq (.cons (.var 2) .nil)))
 (.cons (.drop (.meth .append (.var 2) (.ix (.var 3) (.var 11))))
 (.cons (.drop (.meth .append (.var 1) (.tup (.cons (.str (q7 "put")) (.cons (.ix (.var 3) (.var 11)) (.cons (.ix (.var 7) (.var 11)) (.cons (.var 10) .nil)))))))
 .nil))))
 .nil)) R) E [some (.ref pA),some (.ref sA),some (.ref G),some (.ref rA),Z,w5,w6,some (.tup (o.map .int)),w8,w9,some (.int room),j] M':=by
 walk_at "st";refine dL Y hn (by lia) fun J B => ?_
 refine ⟨_,af aa, ?_⟩;have s1:=s.ge (Ge.new (o := .lst ((plc o).map .int)) B);have m1:=aa (M:=M') (a:=J) (o := .lst ((plc o).map .int));have O:J≠sA:=fun z=>by rw [z,s.pi.l] at B;cases B
 have Ef:J≠G:=fun z=>by rw [z,s.h] at B;cases B
 have Eg:J≠rA:=fun z=>by rw [z,s.r] at B;cases B
 generalize ad M' J (.lst ((plc o).map .int))=M1 at s1 m1 ⊢;have hz:=bE (l:=o);refine br (f:=fun q:Int×Int=>D.int q.1) (ys:=nz o) (I:=fun l ρ M2 => ∃ (j:Option D) (xs':List Sq), ρ = [some (.ref pA),some (.ref sA),some (.ref G),some (.ref rA),Z,w5,w6,some (.tup (o.map .int)),w8,w9,some (.int room),j]/\M2 J=some (.lst ((plc o).map .int))/\xs'.map (·.1)=S++(pSs room ks rs l).1/\LS M M2 sA G rA xs' (pSs room ks rs l).2.1 (pSs room ks rs l).2.2) (by unfold plc;rw [G5];rfl) ⟨_,xs,rfl,m1,by rw [hS];exact (H0 _).symm,s1⟩ ?_ ?_ ?_
 ·rintro l ρ M2 ⟨j,xs',rfl,m,_⟩;exact af m
 ·rintro l ⟨k,c⟩ r ρ M2 e ⟨j,xs',rfl,m,ex,s2⟩;refine ⟨_,rfl,fun F hF => ?_⟩;have Ek:=av e;have hy:(k,c)∈nz o:=by rw [e];simp
  obtain ⟨l1,l2,l3,l4⟩:=dg (room:=room) (ks:=ks) (rs:=rs) l;have El:xs'.length<=10100:=by
   have:=congrArg Hh ex;rw [gV,i5, <- hS,gV,l1] at this;lia
  have hk:=z0 hy;have es:=bZ (room:=room) (ks:=ks) (rs:=rs) (l:=l) (kc:=(k,c));unfold pS at es;walk_at "st";refine ⟨rA,false,_,rfl, .inl s2.r,rfl, ?_⟩;rw [if_neg i4,bb,HP]
  cases L:ig (pSs room ks rs l).2.2 k with
  | some v =>
    rw [L] at es;refine ⟨true,rfl, ?_⟩;rw [if_pos rfl];walk_at "st";refine ⟨⟨_,s2.pi.l⟩, ?_⟩;refine dz s2.r rfl (d := .int v) (by rw [bb,L];rfl) ?_
    walk_at "wp";refine ⟨_,hk,by rw [hH];lia, ?_⟩
    refine ⟨sA,_,_,rfl,rfl,s2.pi.l,by rw [gV,hH];lia, ?_⟩
    refine hF _ _ ⟨_,xs'++[(.add v c room,0)],rfl,by rw [ab O];exact m, ?_, ?_⟩
    ·rw [D2,ex,es];simp
    ·rw [es];exact s2.push1 rfl rfl
  | none =>
    rw [L] at es;refine ⟨false,rfl, ?_⟩;rw [if_neg i4];walk_at "st";refine jT U hn s2.h (by lia) fun M3 g3 => ?_
    have s3:=s2.ge g3;refine ij s3.r rfl (by rw [gV,hH];lia) ?_
    rw [gB (g:=D.int),vH L];have s4:=s3.room (rs':=(pSs room ks rs l).2.2++[(k,(mex (pSs room ks rs l).2.1:Int))]);have m4:ad M3 rA (.dct false (((pSs room ks rs l).2.2++[(k,(mex (pSs room ks rs l).2.1:Int))]).map (hD .int))) J=some (.lst ((plc o).map .int)):=by rw [ab Eg];exact g3 _ _ m
    generalize ad M3 rA (.dct false (((pSs room ks rs l).2.2++[(k,(mex (pSs room ks rs l).2.1:Int))]).map (hD .int)))=M4 at s4 m4 ⊢;walk_at "st";refine ⟨⟨_,s4.h⟩, ?_⟩;refine dz s4.r rfl (d := .int (mex (pSs room ks rs l).2.1:Nat)) (by rw [bb,jZ L];rfl) ?_
    refine ⟨G,_,_,rfl,rfl,s4.h,by rw [gV,hH];lia, ?_⟩
    have s5:=s4.hold (ks':=(pSs room ks rs l).2.1++[(mex (pSs room ks rs l).2.1:Int)]);rw [D2,Hb] at s5;have m5:ad M4 G (.lst ((pSs room ks rs l).2.1.map .int++[.int (mex (pSs room ks rs l).2.1:Nat)])) J=some (.lst ((plc o).map .int)):=by rw [ab Ef];exact m4
    generalize ad M4 G (.lst ((pSs room ks rs l).2.1.map .int++[.int (mex (pSs room ks rs l).2.1:Nat)]))=M5 at s5 m5 ⊢;walk_at "st";refine ⟨⟨_,s5.pi.l⟩, ?_⟩;refine dz s5.r rfl (d := .int (mex (pSs room ks rs l).2.1:Nat)) (by rw [bb,jZ L];rfl) ?_
    walk_at "wp";refine ⟨_,hk,by rw [hH];lia, ?_⟩
    refine ⟨sA,_,_,rfl,rfl,s5.pi.l,by rw [gV,hH];lia, ?_⟩
    refine hF _ _ ⟨_,xs'++[(.put (mex (pSs room ks rs l).2.1:Nat) c room,0)],rfl,by rw [ab O];exact m5, ?_, ?_⟩
    ·rw [D2,ex,es];simp
    ·rw [es];exact s5.push1 rfl rfl
 ·rintro ρ M2 ⟨j,xs',rfl,m,ex,s2⟩;exact q _ xs' M2 ex s2
end
section
variable {T:List FD}
theorem vS {k:Int}:∀ (l:List Int) (s:Pst),k∈s.2.2.map (·.1)->k∉l->k∈(l.foldl tS s).2.2.map (·.1)
 | [],_,h,_=>h
 | j::l,s,h,n=>by
   rw [Fx,not_or] at n;rw [Gr];refine vS l _ ?_ n.2;unfold tS
   cases hv:ig s.2.2 j with
   | none=>exact h
   | some v =>
     obtain ⟨p,q,e⟩:=FI.mp h;exact FI.mpr ⟨p,G3.mpr ⟨q,by rw [e];simpa using n.1⟩,e⟩
theorem yi {ds es:List D} {d:D}:cJ (ds++d::es) (some ((ds.length:Int)+1)) none=es:=by
 have h1:HT.sIx (ds++d::es).length 0 (some ((ds.length:Int)+1))=ds.length+1:=by
  unfold HT.sIx;rw [i5,Gj];simp;lia
 have h2:HT.sIx (ds++d::es).length (ds++d::es).length none=(ds++d::es).length:=rfl;unfold cJ;rw [h1,h2];rw [show (ds++d::es).drop (ds.length+1)=es by simp,i5,Gj]
 exact Lp (by lia)
theorem Cy {A B:List Pr} {p:Pr}:cJ (A.map prD++prD p::B.map prD) (some ((A.length:Int)+1)) none=B.map prD:=by
 have:=yi (ds:=A.map prD) (d:=prD p) (es:=B.map prD)
 rwa [gV] at this
theorem vT:∀ l:List Bool,aA fL (l.map D.bl)=some l
 | [] => rfl
 | b::l=>by rw [FL,aA,vT l];rfl
theorem AN {n fp:Nat} {sp:Stmt} (Ek:T[fp]? = some (bH sp)) (hn : 1<=n) {M M':Mem} {sA J rA pA:Addr} {xs:List Sq} {ks:List Int} {rs:List (Int×Int)} {S:List Sp} (hS:xs.map (·.1)=S) (Ez:xs.length<=10000) (s:LS M M' sA J rA xs ks rs) (hr:RInv ks rs) (hk:ks.Nodup) (Y:rs.length<=63) {A B:List Pr} {p:Pr} (mp:M pA=some (.lst ((A++p::B).map prD))) (hB:∀ b∈B,b.2.2.length<=1000) (El:(A++p::B).length<=1000)
 {w5 w6 w7 w8 w9 U j:Option D} {E:b3} {R:MSs}
 (q:∀ j xs' M2,xs'.map (·.1)=S++(tSs ks rs (whl B rs)).1->LS M M2 sA J rA xs' (tSs ks rs (whl B rs)).2.1 (tSs ks rs (whl B rs)).2.2->wSs (phi T n) R E [some (.ref pA),some (.ref sA),some (.ref J),some (.ref rA),some (.int (A.length:Nat)),w5,w6,w7,w8,w9,U,j] M2) :
 wSs (phi T n) (.cons (.for (.name 11) (.seq (.blt .sorts (.cons (.var 3) .nil))) (.cons (.ite (.not (.tru (.blt .any (.cons (.comp [none,(some 11)] ["_law_later", "_law_k"] (.last (.seq (.sl (.var 0) (.some (.bin .add (.var 4) (.int 1))) .none)) (.name 0) .nil (.cmp .inS (.var 1) (.call fp (.cons (.ix (.var 0) (.int 2)) .nil))))) .nil)))) (.cons (.drop (.meth .remove (.var 2) (.ix (.var 3) (.var 11))))
 (.cons (.drop (.meth .append (.var 1) (.tup (.cons (.str (q7 "tell")) (.cons (.var 11) (.cons (.popk (.var 3) (.var 11)) .nil))))))
 .nil)) .nil)
 .nil)) R) E [some (.ref pA),some (.ref sA),some (.ref J),some (.ref rA),some (.int (A.length:Nat)),w5,w6,w7,w8,w9,U,j] M':=by
 walk_at "st";refine lp s.r Y fun L G => ?_;refine ⟨_,af aa, ?_⟩;have s1:=s.ge (Ge.new (o := .lst ((srt (rs.map (·.1))).map .int)) G);have m1:=aa (M:=M') (a:=L) (o := .lst ((srt (rs.map (·.1))).map .int));have Em:L≠sA:=fun z=>by rw [z,s.pi.l] at G;cases G
 have Eo:L≠J:=fun z=>by rw [z,s.h] at G;cases G
 have Ep:L≠rA:=fun z=>by rw [z,s.r] at G;cases G
 generalize ad M' L (.lst ((srt (rs.map (·.1))).map .int))=M1 at s1 m1 ⊢;have hlen:(srt (rs.map (·.1))).length<=63:=by rw [srt_perm.length_eq,gV];exact Y
 have Z:(srt (rs.map (·.1))).Nodup:=srt_perm.nodup_iff.mpr hr.k;refine br (f:=D.int) (ys:=srt (rs.map (·.1))) (I:=fun l ρ M2 => ∃ (j:Option D) (xs':List Sq), ρ = [some (.ref pA),some (.ref sA),some (.ref J),some (.ref rA),some (.int (A.length:Nat)),w5,w6,w7,w8,w9,U,j]/\M2 L=some (.lst ((srt (rs.map (·.1))).map .int))/\xs'.map (·.1)=S++(tSs ks rs (l.filter fun k => !aD B k)).1/\LS M M2 sA J rA xs' (tSs ks rs (l.filter fun k => !aD B k)).2.1 (tSs ks rs (l.filter fun k => !aD B k)).2.2) rfl ⟨_,xs,rfl,m1,by rw [hS];exact (H0 _).symm,s1⟩ ?_ ?_ ?_
 ·rintro l ρ M2 ⟨j,xs',rfl,m,_⟩;exact af m
 ·rintro l k r ρ M2 e ⟨j,xs',rfl,m,ex,s2⟩;refine ⟨_,rfl,fun F hF => ?_⟩;have EA:=av e;have Er:k∉l:=fun z=>by
   rw [e] at Z;exact (Hv.mp Z).2.2 k z k (by simp) rfl
  have Es:k∈rs.map (·.1):=srt_perm.mem_iff.mp (by rw [e];simp)
  have Et:k∉l.filter fun k => !aD B k:=fun z=>Er (G3.mp z).1;obtain ⟨t1,t2,t3,t4,t5⟩:=jw (l.filter fun k => !aD B k) ([],ks,rs) hr;have EB:(l.filter fun k => !aD B k).length<=l.length:=FV _ _;have Eu:=vS (l.filter fun k => !aD B k) ([],ks,rs) Es Et;have Ev:=iu (l.filter fun k => !aD B k) ([],ks,rs) hk;have ea:(l++[k]).filter (fun k => !aD B k)=if aD B k=true then l.filter (fun k => !aD B k) else l.filter (fun k => !aD B k)++[k]:=by
   rw [G1,Gs]
   cases aD B k <;> simp
  rw [ea] at hF;generalize (l.filter fun k => !aD B k)=fl at *
  obtain ⟨v,hv,Ew⟩:=oG Eu;have es:tSs ks rs (fl++[k])=((tSs ks rs fl).1++[.tel k v],kd (tSs ks rs fl).2.1 v,idr (tSs ks rs fl).2.2 k):=by
   rw [oK];unfold tS;rw [show ig (tSs ks rs fl).2.2 k=some v from hv]
  have EC:(tSs ks rs fl).1.length<=0+fl.length:=t3;have Ex:v∈(tSs ks rs fl).2.1:=t1.m _ Ew;have Ef:(tSs ks rs fl).2.1.Nodup:=Ev;have Eg:ig (tSs ks rs fl).2.2 k=some v:=hv;generalize hV:tSs ks rs fl=V at *
  have ED:xs'.length<=10100:=by
   have:=congrArg Hh ex;rw [gV,i5, <- hS,gV] at this;lia
  walk_at "st";have Eh:=s2.g _ _ mp;rw [D2,FL] at Eh;refine ⟨_,Eh,fun p2 Ei => ?_⟩;rw [Cy];refine ⟨_,af aa, ?_⟩;have s3:=s2.ge (Ge.new (o := .lst (B.map prD)) Ei);have m3:=aa (M:=M2) (a:=p2) (o := .lst (B.map prD));have Ej:ad M2 p2 (.lst (B.map prD)) L=some (.lst ((srt (rs.map (·.1))).map .int)):=Ge.new Ei _ _ m;generalize ad M2 p2 (.lst (B.map prD))=M3 at s3 m3 Ej ⊢;refine aO (f:=prD) (ys:=B) (I:=fun l ρ M4 acc => ∃ o, ρ = [o,some (.int k)]/\Ge M3 M4/\acc=(l.map fun b:Pr=>decide (k∈plc b.2.2)).map D.bl) rfl ⟨none,rfl,Ge.refl,rfl⟩ ?_ ?_ ?_
  ·rintro l ρ M4 acc ⟨o,rfl,g,rfl⟩;exact af (g _ _ m3)
  ·rintro l b r ρ M4 acc e' ⟨o,rfl,g,rfl⟩;refine ⟨_,rfl,fun N' hN => ?_⟩;have Ey:=av e';simp at El;walk_at "wp";refine ⟨_,_,rfl,rfl, ?_⟩;refine dL Ek hn (hB b (by rw [e'];simp)) fun p3 O => ?_
   refine ⟨_,af aa,by rw [gV,gV,hH];lia,hN _ _ _ ⟨_,rfl,g.trans (Ge.new O), ?_⟩⟩
   rw [D2,D2];rfl
  ·rintro ρ M4 acc ⟨o,rfl,g,rfl⟩ p3 O;refine ⟨_,_,_,rfl,af aa,vT _, ?_⟩;rw [show ((B.map fun b:Pr=>decide (k∈plc b.2.2)).any id)=aD B k by rw [Jt];rfl]
   have s5:=(s3.ge g).ge (Ge.new (o := .lst ((B.map fun b:Pr=>decide (k∈plc b.2.2)).map D.bl)) O);have m5:=Ge.new (o := .lst ((B.map fun b:Pr=>decide (k∈plc b.2.2)).map D.bl)) O _ _ (g _ _ Ej);generalize ad M4 p3 (.lst ((B.map fun b:Pr=>decide (k∈plc b.2.2)).map D.bl))=M5 at s5 m5 ⊢;refine ⟨_,rfl, ?_⟩
   cases hlk:aD B k with
   | true =>
     rw [if_neg (by decide)]
     refine hF _ _ ⟨_,xs',rfl,m5, ?_, ?_⟩
     ·rw [hlk,if_pos rfl,hV];exact ex
     ·rw [hlk,if_pos rfl,hV];exact s5
   | false =>
     rw [if_pos (by decide)]
     rw [hlk,if_neg i4,es] at hF;walk_at "st";refine ⟨⟨_,s5.h⟩,dz s5.r rfl (d := .int v) (by rw [bb,Eg];rfl) ?_⟩
     refine ⟨J,_,v,rfl,rfl,s5.h,Ex, ?_⟩;rw [oS Ef];have s6:=s5.hold (ks':=kd V.2.1 v);have m6:ad M5 J (.lst ((kd V.2.1 v).map .int)) L=some (.lst ((srt (rs.map (·.1))).map .int)):=by rw [ab Eo];exact m5
     generalize ad M5 J (.lst ((kd V.2.1 v).map .int))=M6 at s6 m6 ⊢;walk_at "st";refine ⟨⟨_,s6.pi.l⟩, ?_⟩;refine ⟨⟨_,s6.r⟩,_,s6.r,rfl, .int v,by rw [bb,Eg];rfl, ?_⟩
     rw [il];have s7:=s6.room (rs':=idr V.2.2 k);have m7:ad M6 rA (.dct false ((idr V.2.2 k).map (hD .int))) L=some (.lst ((srt (rs.map (·.1))).map .int)):=by rw [ab Ep];exact m6
     generalize ad M6 rA (.dct false ((idr V.2.2 k).map (hD .int)))=M7 at s7 m7 ⊢;refine ⟨by rw [hH];lia, ?_⟩
     refine ⟨sA,_,_,rfl,rfl,s7.pi.l,by rw [gV,hH];lia, ?_⟩
     refine hF _ _ ⟨_,xs'++[(.tel k v,0)],rfl,by rw [ab Em];exact m7, ?_, ?_⟩
     ·rw [D2,ex];simp
     ·exact s7.push1 rfl rfl
 ·rintro ρ M2 ⟨j,xs',rfl,m,ex,s2⟩;exact q _ xs' M2 ex s2
end
section
variable {T:List FD}
noncomputable def ki (s:Stmt) (fq fp:Nat):FD:=⟨"_law_steps",s,["_law_products", "_law_steps_here", "_law_held", "_law_rooms", "_law_at", "_law_l", "_law_r", "_law_o", "_law_word", "_law_part_here", "_law_room", "_law_k"],1,
 (.cons (.par3 1 2 3 (.lst .nil) (.lst .nil) (.dnew false))
 (.cons (.for (.tup (.cons (.name 4) (.cons (.tup (.cons (.name 5) (.cons (.name 6) (.cons (.name 7) .nil)))) .nil))) (.enum (.var 0)) (.cons (.for (.tup (.cons (.name 8) (.cons (.name 9) .nil))) (.seq (.tup (.cons (.tup (.cons (.str (q7 "left")) (.cons (.var 5) .nil))) (.cons (.tup (.cons (.str (q7 "right")) (.cons (.var 6) .nil))) .nil)))) (.cons (.drop (.meth .append (.var 1) (.tup (.cons (.var 8) (.cons (.call fq (.cons (.var 2) .nil)) (.cons (.comp [none,(some 9)] ["_law_place", "_law_part_here"] (.last (.seq (.call fp (.cons (.var 9) .nil))) (.name 0) .nil (.tup (.cons (.ix (.var 1) (.var 0)) (.cons (.var 0) .nil))))) .nil))))))
 (.cons (.drop (.meth .append (.var 2) (.ix (.ix (.var 1) (.neg (.int 1))) (.int 1))))
 .nil)))
 (.cons (.asg (.name 10) (.call fq (.cons (.var 2) .nil)))
 (.cons (.drop (.meth .extend (.var 1) (.lst (.cons (.tup (.cons (.str (q7 "times")) (.cons (.var 10) (.cons (.ix (.var 2) (.neg (.int 2))) (.cons (.ix (.var 2) (.neg (.int 1))) .nil))))) (.cons (.tup (.cons (.str (q7 "empty")) (.cons (.ix (.var 2) (.neg (.int 2))) .nil))) (.cons (.tup (.cons (.str (q7 "empty")) (.cons (.ix (.var 2) (.neg (.int 1))) .nil))) .nil))))))
 (.cons (.asg (.name 2) (.bin .add (.sl (.var 2) .none (.some (.neg (.int 2)))) (.lst (.cons (.var 10) .nil))))
 (.cons (.for (.name 11) (.seq (.call fp (.cons (.var 7) .nil))) (.cons (.ite (.cmp .inD (.var 11) (.var 3)) (.cons (.drop (.meth .append (.var 1) (.tup (.cons (.str (q7 "add")) (.cons (.ix (.var 3) (.var 11)) (.cons (.ix (.var 7) (.var 11)) (.cons (.var 10) .nil)))))))
 .nil) (.cons (.put (.var 3) (.var 11) (.call fq (.cons (.var 2) .nil)))
 (.cons (.drop (.meth .append (.var 2) (.ix (.var 3) (.var 11))))
 (.cons (.drop (.meth .append (.var 1) (.tup (.cons (.str (q7 "put")) (.cons (.ix (.var 3) (.var 11)) (.cons (.ix (.var 7) (.var 11)) (.cons (.var 10) .nil)))))))
 .nil))))
 .nil))
 (.cons (.drop (.meth .remove (.var 2) (.var 10)))
 (.cons (.drop (.meth .append (.var 1) (.tup (.cons (.str (q7 "empty")) (.cons (.var 10) .nil)))))
 (.cons (.for (.name 11) (.seq (.blt .sorts (.cons (.var 3) .nil))) (.cons (.ite (.not (.tru (.blt .any (.cons (.comp [none,(some 11)] ["_law_later", "_law_k"] (.last (.seq (.sl (.var 0) (.some (.bin .add (.var 4) (.int 1))) .none)) (.name 0) .nil (.cmp .inS (.var 1) (.call fp (.cons (.ix (.var 0) (.int 2)) .nil))))) .nil)))) (.cons (.drop (.meth .remove (.var 2) (.ix (.var 3) (.var 11))))
 (.cons (.drop (.meth .append (.var 1) (.tup (.cons (.str (q7 "tell")) (.cons (.var 11) (.cons (.popk (.var 3) (.var 11)) .nil))))))
 .nil)) .nil)
 .nil))
 .nil)))))))))
 (.cons (.ret (.var 1))
 .nil)))⟩
theorem ls {ds:List D} {d d':D}:atI (ds++[d]++[d']) (-2)=some d:=by
 unfold atI ixN;rw [if_neg (by lia),i5,i5,G6,G6,if_pos (by lia),show ((-2:Int)+((ds.length+1+1:Nat):Int)).toNat=ds.length by lia]
 simp
theorem AO {ds:List D} {d d':D}:cJ (ds++[d]++[d']) none (some (-2))=ds:=by
 have h1:HT.sIx (ds++[d]++[d']).length (ds++[d]++[d']).length (some (-2))=ds.length:=by
  unfold HT.sIx;rw [i5,i5,G6,G6];simp;lia
 have h2:HT.sIx (ds++[d]++[d']).length 0 none=0:=rfl;unfold cJ;rw [h1,h2];simp
theorem yj {f fq fp:Nat} {s sq sp:Stmt} (hf:T[f]? = some (ki s fq fp)) (U:T[fq]? = some (eE sq)) (Y:T[fp]? = some (bH sp)) {n:Nat} (hn : 2<=n) {pA:Addr} {ps:List Pr} {M:Mem} {Q:QD} (mp:M pA=some (.lst (ps.map prD))) (hd:∀ p∈ps,p.1.length<=20/\p.2.1.length<=20/\p.2.2.length<=20) (hl:ps.length<=20)
 (q:∀ g xs M',Ge M M'->PgI M' g xs->xs.map (·.1)=(b9 ps ps.length).1->Q (.ref g) M'):phi T n f [.ref pA] M Q:=by
 refine ar (by lia) hf rfl (ρ := [some _,none,none,none,none,none,none,none,none,none,none,none]) rfl ?_
 unfold ki;walk_at "st";refine ⟨by rw [hH];lia,fun sA Eg=>⟨by rw [hH];lia,fun B J rA j => ?_⟩⟩
 have hs:B≠sA:=fun z=>by rw [z,aa] at J;cases J
 have rh:rA≠B:=fun z=>by rw [z,aa] at j;cases j
 rw [ab rh] at j;have rs':rA≠sA:=fun z=>by rw [z,aa] at j;cases j
 rw [ab rs'] at j;rw [ab hs] at J;have s0:LS M (ad (ad (ad M sA (.lst [])) B (.lst [])) rA (.dct false [])) sA B rA [] [] [] :=
  ⟨eG (eG (eG Ge.refl Eg) J) j,Eg,J,j,Ne.symm hs,Ne.symm rs',Ne.symm rh,⟨by rw [ab (Ne.symm rs'),ab (Ne.symm hs),aa];rfl,fun _ h=>by cases h⟩,by rw [ab (Ne.symm rh),aa];rfl,aa,fun _ h=>by cases h⟩
 generalize ad (ad (ad M sA (.lst [])) B (.lst [])) rA (.dct false [])=M0 at s0 ⊢;walk_at "st";refine ⟨_,af (s0.g _ _ mp), ?_⟩;rw [kb];have hL:∀ b∈ps,b.2.2.length<=20:=fun b hb=>(hd b hb).2.2;refine br (f:=eD) (ys:=ps.zipIdx) (I:=fun l ρ M' => ∃ (w4 w5 w6 w7 w8 w9 L G:Option D) (B:Addr) (xs:List Sq), ρ = [some (.ref pA),some (.ref sA),some (.ref B),some (.ref rA),w4,w5,w6,w7,w8,w9,L,G]/\xs.map (·.1)=(b9 ps l.length).1/\LS M M' sA B rA xs (b9 ps l.length).2.1 (b9 ps l.length).2.2) rfl
  ⟨none,none,none,none,none,none,none,none,B,[],rfl,rfl,s0⟩ ?_ ?_ ?_
 ·rintro l ρ M' ⟨w4,w5,w6,w7,w8,w9,L,G,B,xs,rfl,ex,s1⟩;exact af (s1.g _ _ mp)
 ·rintro l ⟨p,i⟩ r ρ M' e ⟨w4,w5,w6,w7,w8,w9,L,G,B,xs,rfl,ex,s1⟩;refine ⟨_,rfl,fun F hF => ?_⟩;have Z:=lm e;have hi:i=l.length:=by
   have h1:ps.zipIdx[l.length]? = some (p,i):=by rw [e];simp
   rw [JU] at h1
   cases hz:ps[l.length]? with
   | none=>rw [hz] at h1;cases h1
   | some w=>rw [hz] at h1;cases h1;simp
  subst hi;have hlen:(l.map (·.1)).length=l.length:=gV _;have Ez:l.length < 20:=by have:=congrArg Hh Z;simp at this;lia
  have inv:=PInv.all hL l.length (l.map (·.1)) (p::r.map (·.1)) hlen Z;have hB:∀ b∈p::r.map (·.1),b.2.2.length<=20:=fun b hb=>hL b (by rw [Z];exact FE _ hb)
  have est:=kh Z;rw [hlen] at est;rw [i5,G6,est] at hF;obtain ⟨d1,d2,d3⟩:=hd p (by rw [Z];simp)
  have EA:=inv.kl;have EB:=inv.rl hB;have EC:=inv.sl;obtain ⟨m1,m2,m3,m4,m5,m6⟩:=inv.mid hB;have Ep:=inv.n;generalize hS:b9 ps l.length=S at *
  have ED:xs.length=S.1.length:=by rw [<- ex,gV]
  obtain ⟨l1,l2,l3,l4⟩:=dg (room:=r3 S.2.1) (ks:=S.2.1++[r3 S.2.1]) (rs:=S.2.2) (nz p.2.2);have hz:=bE (l:=p.2.2);refine AL U Y (by lia) ex (by lia) (by lia) s1 (by lia) (by lia) fun w8 w9 Eh M2 ex2 s2 => ?_
  have EE:Eh.length=S.1.length+2:=by have:=congrArg Hh ex2;rw [gV,i5] at this;exact this
  walk_at "st";refine jT U (by lia) s2.h (by simp;lia) fun M3 g3 => ?_
  have s3:=s2.ge g3;rw [show ((mex (S.2.1++[r1 S.2.1]++[r2 S.2.1]):Nat):Int)=r3 S.2.1 from rfl];have h3:=s3.h;rw [D2,D2,Hb,Hb] at h3;walk_at "st";refine ⟨⟨_,s3.pi.l⟩, ?_⟩;refine aN h3 ls (aN h3 iw ⟨by rw [hH];lia,aN h3 ls ⟨by rw [hH];lia,aN h3 iw ⟨by rw [hH];lia,by rw [hH];lia,fun p4 Er => ?_⟩⟩⟩)
  have s4:=s3.ge (Ge.new (o := .lst [D.tup [D.str (q7 "times"),D.int (r3 S.2.1),D.int (r1 S.2.1),D.int (r2 S.2.1)],D.tup [D.str (q7 "empty"),D.int (r1 S.2.1)],D.tup [D.str (q7 "empty"),D.int (r2 S.2.1)]]) Er);refine ⟨sA,p4,_,_,rfl,rfl,s4.pi.l,aa,by rw [gV,hH];simp;lia, ?_⟩
  have s5:=s4.push (ys := [(.tim (r3 S.2.1) (r1 S.2.1) (r2 S.2.1),0),(.emp (r1 S.2.1),0),(.emp (r2 S.2.1),0)]) (fun y hy hl=>by
   simp only [Fx,FW,or_false] at hy
   rcases hy with rfl | rfl | rfl <;> cases hl)
  have ed:([((.tim (r3 S.2.1) (r1 S.2.1) (r2 S.2.1),0):Sq),(.emp (r1 S.2.1),0),(.emp (r2 S.2.1),0)].map sqD)=[D.tup [D.str (q7 "times"),D.int (r3 S.2.1),D.int (r1 S.2.1),D.int (r2 S.2.1)],D.tup [D.str (q7 "empty"),D.int (r1 S.2.1)],D.tup [D.str (q7 "empty"),D.int (r2 S.2.1)]]:=rfl;rw [ed] at s5;generalize ad (ad M3 p4 _) sA _=M5 at s5 ⊢;have h5:=s5.h;rw [D2,D2,Hb,Hb] at h5;walk_at "st";refine (show du (.ref B) none (some (-2)) M5 _ from ⟨_,h5,fun p6 Es => ?_⟩);rw [AO];have s6:=s5.ge (Ge.new (o := .lst (S.2.1.map .int)) Es);have m6:=aa (M:=M5) (a:=p6) (o := .lst (S.2.1.map .int));generalize ad M5 p6 (.lst (S.2.1.map .int))=M6 at s6 m6 ⊢;refine ⟨by rw [hH];lia,fun p7 Ei => ?_⟩
  rw [ow];have s7:=s6.ge (Ge.new (o := .lst [.int (r3 S.2.1)]) Ei);refine ⟨_,_,Ge.new Ei _ _ m6,aa,by rw [gV,hH];simp;lia,fun p8 Et => ?_⟩
  have s8:=s7.newh (ks':=S.2.1++[r3 S.2.1]) Et;rw [D2,Hb] at s8;generalize ad (ad M6 p7 _) p8 _=M8 at s8 ⊢;have Eu:(Eh++[((.tim (r3 S.2.1) (r1 S.2.1) (r2 S.2.1),0):Sq),(.emp (r1 S.2.1),0),(.emp (r2 S.2.1),0)]).map (·.1)=S.1++tms S.2.1 p.1 p.2.1:=by
   rw [D2,ex2,Gb];rfl
  refine AM U Y (by lia) Eu (by rw [i5];simp;lia) (by rw [i5];simp;lia) (by lia) s8 d3 fun G Ef M9 Ej s9 => ?_
  have EF:Ef.length=S.1.length+5+(nz p.2.2).length:=by
   have:=congrArg Hh Ej;rw [gV,i5,i5,l1] at this;exact this
  walk_at "st";refine ⟨⟨_,s9.h⟩,p8,_,r3 S.2.1,rfl,rfl,s9.h,l4 _ (FE _ (by simp)), ?_⟩
  have Ev:(pSs (r3 S.2.1) (S.2.1++[r3 S.2.1]) S.2.2 (nz p.2.2)).2.1.Nodup:=iq (nz p.2.2) ([],S.2.1++[r3 S.2.1],S.2.2) (fo Ep vP);rw [oS Ev];have O:=s9.hold (ks':=kd (pSs (r3 S.2.1) (S.2.1++[r3 S.2.1]) S.2.2 (nz p.2.2)).2.1 (r3 S.2.1));generalize ad M9 p8 _=Ew at O ⊢;walk_at "st";refine ⟨⟨_,O.pi.l⟩,by rw [hH];lia, ?_⟩
  refine ⟨sA,_,_,rfl,rfl,O.pi.l,by rw [gV,hH];lia, ?_⟩
  have Ek:=O.push1 (y := .emp (r3 S.2.1)) (d := .tup [.str (q7 "empty"), .int (r3 S.2.1)]) rfl rfl;generalize ad Ew sA _=M11 at Ek ⊢;have El:(Ef++[((.emp (r3 S.2.1),0):Sq)]).map (·.1)=S.1++(aq S.2.1 S.2.2 p).1:=by
   rw [D2,Ej,Gb,Gb];show _=S.1++(tms S.2.1 p.1 p.2.1++_++[_]);rw [Gb];rfl
  have Ex:M pA=some (.lst ((l.map (·.1)++p::r.map (·.1)).map prD)):=by rw [<- Z];exact mp
  have tl := @AN T (n - 1) fp sp Y (by lia) M M11 sA p8 rA pA (Ef++[((.emp (r3 S.2.1),0):Sq)]) (aq S.2.1 S.2.2 p).2.1 (aq S.2.1 S.2.2 p).2.2 _ El (by rw [i5];simp;lia) Ek m1 m2 (by lia) (l.map (·.1)) (r.map (·.1)) p Ex (fun b hb=>by have:=hB b (FJ _ hb);lia) (by rw [<- Z];lia)
  rw [hlen] at tl;refine tl fun G Em EG Eo Ey => ?_;walk_at "wp";refine hF _ _ ⟨_,_,_,_,_,_,_,_,_,Em,rfl, ?_,Ey⟩;rw [Eo];rfl
 ·rintro ρ M' ⟨w4,w5,w6,w7,w8,w9,L,G,B,xs,rfl,ex,s1⟩;walk_at "st";rw [Kv] at ex;exact q sA xs M' s1.g s1.pi ex
end
section
variable {T:List FD}
noncomputable def eI (s:Stmt) (f:Nat):FD:=⟨"_law_same",s,["_law_found", "_law_due"],2,
 (.cons (.ite (.tru (.isin2 (.var 1) "list" "tuple")) (.cons (.ite (.or (.cons (.not (.tru (.isin2 (.var 0) "list" "tuple"))) (.cons (.cmp .ne (.isin (.var 0) "list") (.isin (.var 1) "list")) .nil))) (.cons (.ret (.bl false))
 .nil) .nil)
 (.cons (.ret (.and (.cons (.cmp .eq (.blt .len (.cons (.var 0) .nil)) (.blt .len (.cons (.var 1) .nil))) (.cons (.blt .all (.cons (.comp [none,none] ["_law_one", "_law_other"] (.last (.zip (.var 0) (.var 1)) (.tup (.cons (.name 0) (.cons (.name 1) .nil))) .nil (.call f (.cons (.var 0) (.cons (.var 1) .nil))))) .nil)) .nil))))
 .nil)) .nil)
 (.cons (.ite (.or (.cons (.tru (.isin (.var 1) "str")) (.cons (.cmp .is (.var 1) .non) .nil))) (.cons (.ret (.cmp .eq (.var 0) (.var 1)))
 .nil) .nil)
 (.cons (.ite (.tru (.isin (.var 1) "bool")) (.cons (.ret (.and (.cons (.isin (.var 0) "bool") (.cons (.cmp .eq (.var 0) (.var 1)) .nil))))
 .nil) .nil)
 (.cons (.ret (.and (.cons (.isin (.var 0) "int") (.cons (.not (.isin (.var 0) "bool")) (.cons (.cmp .eq (.var 0) (.var 1)) .nil)))))
 .nil))))⟩
noncomputable def Sz (M:Mem):Nat->D->D->Prop
 | _, .int i, .int j=>i=j
 | _, .str x, .str y=>x=y/\Ni x=true
 | n+1, .tup ds, .tup es=>ds.length<=100000/\ds.length=es.length /\ ∀ (k:Nat) d e,ds[k]? = some d->es[k]? = some e->Sz M n d e
 | n+1, .ref a, .ref b => ∃ ds es,M a=some (.lst ds)/\M b=some (.lst es)/\ds.length<=100000/\ds.length=es.length /\ ∀ (k:Nat) d e,ds[k]? = some d->es[k]? = some e->Sz M n d e
 | _,_,_=>False
theorem Sz.ge {M M':Mem} (g:Ge M M'):∀ {n:Nat} {x y:D},Sz M n x y->Sz M' n x y:=by
 intro n
 induction n with
 | zero=>intro x y h;cases x <;> cases y <;> first | exact h.elim | exact h
 | succ n ih =>
   intro x y h
   cases x <;> cases y <;> first
    | exact h.elim
    | (obtain ⟨ds,es,j,B,z,l,q⟩:=h;exact ⟨ds,es,g _ _ j,g _ _ B,z,l,fun k d e h1 h2=>ih (q k d e h1 h2)⟩)
    | (obtain ⟨z,l,q⟩:=h;exact ⟨z,l,fun k d e h1 h2=>ih (q k d e h1 h2)⟩)
    | exact h
theorem Sz.int {M:Mem} {n:Nat} {i:Int}:Sz M n (.int i) (.int i):=by unfold Sz;cases n <;> rfl
section
variable {f:Nat} {s:Stmt}
theorem lu (hf:T[f]? = some (eI s f)) {n m:Nat} (ih:∀ {x y:D} {M:Mem} {Q:QD},Sz M m x y->(∀ M',Ge M M'->Q (.bl true) M')->phi T n f [x,y] M Q) {u v:D} {ds es:List D} {M:Mem} {Q:QD} {t:String} (O:t = "list" ∨ t = "tuple") (tu:tyN M u=some t) (tv:tyN M v=some t)
 (F:au M u=some ds) (G:au M v=some es) (z:ds.length<=100000) (l:ds.length=es.length) (hs:∀ (k:Nat) d e,ds[k]? = some d->es[k]? = some e->Sz M m d e) (q:∀ M',Ge M M'->Q (.bl true) M'):phi T (n+1) f [u,v] M Q:=by
 refine ar (by lia) hf rfl (ρ := [some _,some _]) rfl ?_
 unfold eI;have L:(bP "list" t || bP "tuple" t)=true:=by rcases O with rfl | rfl <;> decide
 walk_at "st";refine ⟨t,tv, ?_⟩;rw [L];refine ⟨true,rfl, ?_⟩;rw [if_pos rfl];walk_at "st";refine ⟨t,tu, ?_⟩;rw [L];refine ⟨true,rfl, ?_⟩;rw [if_neg (by decide)]
 refine ⟨t,tu,t,tv, ?_⟩;refine ⟨_,_,rfl,rfl, ?_⟩;refine ⟨_,rfl, ?_⟩;have U:(!PyData.eqv (.bool (bP "list" t)) (.bool (bP "list" t)))=false:=by cases bP "list" t <;> rfl
 rw [U,if_neg (by decide)]
 walk_at "st";refine qC F ?_;refine qC G ?_;walk_at "wp";rw [if_pos (by rw [l];simp)]
 refine ⟨_,F,_,G, ?_⟩;refine lj (I:=fun l ρ M' acc => ∃ o B:Option D, ρ = [o,B]/\Ge M M'/\acc=FA l.length (.bl true)) ⟨none,none,rfl,Ge.refl,rfl⟩ ?_ ?_ ?_
 ·rintro l ρ M' acc ⟨o,B,rfl,g,rfl⟩;exact ⟨qB F g,qB G g⟩
 ·rintro l' x r ρ M' acc e ⟨o,B,rfl,g,rfl⟩;have J:=av e;have j:=vy e;rw [Mn] at J;rw [LB] at j
  cases h1:ds[l'.length]? with
  | none=>rw [h1] at j;cases j
  | some d =>
    cases h2:es[l'.length]? with
    | none=>rw [h1,h2] at j;cases j
    | some d2 =>
      rw [h1,h2] at j
      cases j
      refine ⟨_,rfl,fun N' Y => ?_⟩;walk_at "wp";refine ih (Sz.ge g (hs _ d d2 h1 h2)) fun M2 g2 => ?_;exact ⟨by rw [Ly,hH];lia,Y _ _ _ ⟨_,_,rfl,g.trans g2,by rw [ya,i5];rfl⟩⟩
 ·rintro ρ M' acc ⟨o,B,rfl,g,rfl⟩ p hp;exact AA aa (q _ (g.trans (Ge.new hp)))
theorem yk (hf:T[f]? = some (eI s f)):∀ (m:Nat) {n:Nat},m+1<=n -> ∀ {x y:D} {M:Mem} {Q:QD},Sz M m x y->(∀ M',Ge M M'->Q (.bl true) M')->phi T n f [x,y] M Q:=by
 intro m;have flat:∀ {n:Nat},1<=n -> ∀ {x y:D} {M:Mem} {Q:QD},Sz M 0 x y->(∀ M',Ge M M'->Q (.bl true) M')->phi T n f [x,y] M Q:=by
  intro n B x y M Q h q;refine ar (by lia) hf rfl (ρ := [some _,some _]) rfl ?_
  unfold eI
  cases x <;> cases y <;> first
   | exact h.elim
   | skip
  case int.int i j =>
   cases (show i=j from h)
   walk_at "st";refine ⟨"int",rfl,false,rfl, ?_⟩;rw [if_neg (by decide)]
   walk_at "st";refine ⟨"int",rfl,false,rfl, ?_⟩;rw [if_neg (by decide)]
   refine ⟨false,rfl,false,rfl, ?_⟩;rw [if_neg (by decide)]
   walk_at "st";refine ⟨"int",rfl,false,rfl, ?_⟩;rw [if_neg (by decide)]
   walk_at "st";refine ⟨"int",rfl, ?_⟩;rw [if_pos (by decide)]
   refine ⟨"int",rfl, ?_⟩;rw [if_pos (by decide),beq_self_eq_true]
   exact q M Ge.refl
  case str.str i j =>
   obtain ⟨rfl,hok⟩:=(show i=j/\_ from h);walk_at "st";refine ⟨"str",rfl,false,rfl, ?_⟩;rw [if_neg (by decide)]
   walk_at "st";refine ⟨"str",rfl,true,rfl, ?_⟩;rw [if_pos rfl];walk_at "st";have e:rb 16 M (.str i)=some (.str i):=by simp only [rb,hok,if_true]
   refine ⟨_,_,e,e, ?_⟩;have F:Gh (.str i) (.str i)=true:=by simp [Gh]
   rw [F];exact q M Ge.refl
 induction m with
 | zero=>exact fun B=>flat B
 | succ m ih =>
   intro n B x y M Q h q;obtain ⟨n,rfl⟩:∃ k,n=k+1:=⟨n - 1,by lia⟩
   cases x <;> cases y <;> first
    | exact h.elim
    | skip
   case int.int=>exact flat (by lia) h q
   case str.str=>exact flat (by lia) h q
   case tup.tup ds es =>
    obtain ⟨z,l,hs⟩:=h;exact lu hf (fun h q=>ih (by lia) h q) (.inr rfl) rfl rfl rfl rfl z l hs q
   case ref.ref a b =>
    obtain ⟨ds,es,h1,h2,z,l,hs⟩:=h;exact lu hf (fun h q=>ih (by lia) h q) (.inl rfl) (by simp only [tyN,h1]) (by simp only [tyN,h2]) (af h1) (af h2) z l hs q
end
end
section
namespace K29
noncomputable def ah (i:Nat):Stmt:=PySem.Challenge.pw_fewtimes_k29_programs_of_schemes.main.body.getD i (.Pass ⟨0,0,0,0⟩)
noncomputable def d0:FD:=bF (ah 1)
noncomputable def d1:FD:=cG (ah 2)
noncomputable def d2:FD:=eC (ah 4)
noncomputable def d3:FD:=cF (ah 5) 0
noncomputable def d4:FD:=gD (ah 6) 2 3
noncomputable def d5:FD:=jt (ah 7) 0 2
noncomputable def d6:FD:=ju (ah 8)
noncomputable def d7:FD:=g0 (ah 9) 1 0 4 5 6
noncomputable def d8:FD:=jl (ah 11)
noncomputable def d9:FD:=jS (ah 12)
noncomputable def d10:FD:=sJ (ah 13) 8 9
noncomputable def d11:FD:=oz (ah 14) 9
noncomputable def d12:FD:=ik (ah 15) 11
noncomputable def d13:FD:=oC (ah 16) 12
noncomputable def d14:FD:=fY "_law_lengths_here" (ah 17) 11 13
noncomputable def d15:FD:=oQ (ah 18) 11
noncomputable def d16:FD:=bH (ah 19)
noncomputable def d17:FD:=oO (ah 20) 16
noncomputable def d18:FD:=eE (ah 21)
noncomputable def d19:FD:=ki (ah 22) 18 16
noncomputable def d20:FD:=kf (ah 23) 11
noncomputable def b21:MSs :=
 (.cons (.ite (.cmp .eq (.call 11 (.cons (.var 0) (.cons (.int 8) .nil))) (.int 0)) (.cons (.ret (.tup (.cons (.comp [none,(some 0)] ["_law_side", "_law_box_here"] (.last (.rng1 (.int 3)) (.name 0) .nil (.bin .add (.int 7) (.call 11 (.cons (.var 1) (.cons (.int 6) .nil)))))) (.cons (.bin .add (.int 7) (.call 11 (.cons (.var 0) (.cons (.int 6) .nil)))) .nil))))
 .nil) .nil)
 (.cons (.ret (.tup (.cons (.call 15 (.cons (.var 0) (.cons (.int 5) .nil))) (.cons (.call 11 (.cons (.var 0) (.cons (.var 1) .nil))) .nil))))
 .nil))
noncomputable def d21:FD:=⟨"_law_sizes",ah 24,["_law_box_here", "_law_most"],2,b21⟩
noncomputable def d22:FD:=eI (ah 25) 22
noncomputable def b23:MSs :=
 (.cons (.for (.name 1) (.rng1 (.blt .max2 (.cons (.int 1) (.cons (.blt .min2 (.cons (.blt .len (.cons (.var 0) .nil)) (.cons (.int 6) .nil))) .nil)))) (.cons (.asg (.name 2) (.call 10 (.cons (.var 0) (.cons (.var 1) .nil))))
 (.cons (.asg (.tup (.cons (.name 3) (.cons (.name 4) .nil))) (.call 21 (.cons (.var 2) (.cons (.int 8) .nil))))
 (.cons (.asg (.name 5) (.call 14 (.cons (.var 2) (.cons (.var 3) (.cons (.var 4) .nil)))))
 (.cons (.asg (.name 6) (.bin .add (.sl (.var 5) .none (.some (.int 3))) (.tup (.cons (.blt .list (.cons (.ix (.var 5) (.int 3)) .nil)) .nil))))
 (.cons (.for (.name 7) (.rng1 (.int 2)) (.cons (.asg (.name 8) (.call 20 (.cons (.var 2) (.cons (.var 4) .nil))))
 (.cons (.asg (.name 9) (.blt .list (.cons (.var 8) .nil)))
 (.cons (.asg (.name 10) (.call 19 (.cons (.call 17 (.cons (.var 5) (.cons (.var 8) .nil))) .nil)))
 (.cons (.asg (.name 11) (.call 7 (.cons (.var 5) (.cons (.var 9) .nil))))
 (.cons (.ite (.or (.cons (.not (.tru (.call 22 (.cons (.var 11) (.cons (.var 10) .nil))))) (.cons (.cmp .ne (.var 9) (.var 8)) (.cons (.cmp .ne (.var 5) (.var 6)) .nil)))) (.cons (.ret (.bl false))
 .nil) .nil)
 (.cons (.drop (.meth .append (.var 11) .non))
 (.cons (.ite (.not (.tru (.call 22 (.cons (.call 7 (.cons (.var 5) (.cons (.var 9) .nil))) (.cons (.var 10) .nil))))) (.cons (.ret (.bl false))
 .nil) .nil)
 .nil))))))))
 .nil))))))
 (.cons (.ret (.bl true))
 .nil))
noncomputable def d23:FD:=⟨"law",ah 26,["_law_script", "_law_k", "_law_box_here", "_law_lengths_here", "_law_count", "_law_scheme_here", "_law_kept", "_law_turn", "_law_order_here", "_law_handed", "_law_due", "_law_found"],1,b23⟩
noncomputable def tab:List FD := [d0,d1,d2,d3,d4,d5,d6,d7,d8,d9,d10,d11,d12,d13,d14,d15,d16,d17,d18,d19,d20,d21,d22,d23]
noncomputable def oV:List (Str×D) := []
end K29
end
section
namespace K29
theorem Cz:∀ d∈tab,sD (tab.map (·.name)) oV d=true:=by decide +kernel
noncomputable abbrev PA (K:Frag) (x:Str) (f:Addr):Prop:=Jr K GB x=some (some (.ref f))
noncomputable abbrev PL (K:Frag) (f:Addr) (x:Str) (s:Stmt) (oc:e7) (od:Option Addr) (kV dc pm:e7) (an:Option Addr) (cd ct:e7) (sl:Array (Option e7)):Prop:=K.lookup f=some ⟨oc,od, .func (Ij x x (cV s) (bJ s) (ay s) .none kV dc pm an cd ct),sl⟩
noncomputable abbrev PC (K:Frag) (c:e7) (x:Str):Prop:=Ki K c x=true
noncomputable abbrev PK (K:Frag) (f:Addr):Prop:=IE K (.ref f)=true
theorem all_mk {l:Lv} {w:G7} {K:Frag} {h:Heap} {mg:Str->Option e7} {fa:Addr} (X:K.In h) (G:h.Ns GB mg) (hfa:mg "law" = some (.ref fa)) (z:∀ x∈bltNames,Jr K GB x=some none)
 (a0:PA K "filled" f0) (l0:PL K f0 "filled" (ah 1) oc0 od0 kV0 dc0 pm0 an0 cd0 ct0 sl0) (c0:PC K cd0 "filled") (k0:PK K f0)
 (a1:PA K "has_noughts" f1) (l1:PL K f1 "has_noughts" (ah 2) oc1 od1 kV1 dc1 pm1 an1 cd1 ct1 sl1) (c1:PC K cd1 "has_noughts") (k1:PK K f1)
 (a2:PA K "taken" f2) (l2:PL K f2 "taken" (ah 4) oc2 od2 kV2 dc2 pm2 an2 cd2 ct2 sl2) (c2:PC K cd2 "taken") (k2:PK K f2)
 (a3:PA K "parts_of" f3) (l3:PL K f3 "parts_of" (ah 5) oc3 od3 kV3 dc3 pm3 an3 cd3 ct3 sl3) (c3:PC K cd3 "parts_of") (k3:PK K f3)
 (a4:PA K "times_steps" f4) (l4:PL K f4 "times_steps" (ah 6) oc4 od4 kV4 dc4 pm4 an4 cd4 ct4 sl4) (c4:PC K cd4 "times_steps") (k4:PK K f4)
 (a5:PA K "sum_steps" f5) (l5:PL K f5 "sum_steps" (ah 7) oc5 od5 kV5 dc5 pm5 an5 cd5 ct5 sl5) (c5:PC K cd5 "sum_steps") (k5:PK K f5)
 (a6:PA K "tell_steps" f6) (l6:PL K f6 "tell_steps" (ah 8) oc6 od6 kV6 dc6 pm6 an6 cd6 ct6 sl6) (c6:PC K cd6 "tell_steps") (k6:PK K f6)
 (a7:PA K "program_of" f7) (l7:PL K f7 "program_of" (ah 9) oc7 od7 kV7 dc7 pm7 an7 cd7 ct7 sl7) (c7:PC K cd7 "program_of") (k7:PK K f7)
 (a8:PA K "_law_cell_at" f8) (l8:PL K f8 "_law_cell_at" (ah 11) oc8 od8 kV8 dc8 pm8 an8 cd8 ct8 sl8) (c8:PC K cd8 "_law_cell_at") (k8:PK K f8)
 (a9:PA K "_law_mixed" f9) (l9:PL K f9 "_law_mixed" (ah 12) oc9 od9 kV9 dc9 pm9 an9 cd9 ct9 sl9) (c9:PC K cd9 "_law_mixed") (k9:PK K f9)
 (a10:PA K "_law_box" f10) (l10:PL K f10 "_law_box" (ah 13) oc10 od10 kV10 dc10 pm10 an10 cd10 ct10 sl10) (c10:PC K cd10 "_law_box") (k10:PK K f10)
 (a11:PA K "_law_take" f11) (l11:PL K f11 "_law_take" (ah 14) oc11 od11 kV11 dc11 pm11 an11 cd11 ct11 sl11) (c11:PC K cd11 "_law_take") (k11:PK K f11)
 (a12:PA K "_law_number" f12) (l12:PL K f12 "_law_number" (ah 15) oc12 od12 kV12 dc12 pm12 an12 cd12 ct12 sl12) (c12:PC K cd12 "_law_number") (k12:PK K f12)
 (a13:PA K "_law_part" f13) (l13:PL K f13 "_law_part" (ah 16) oc13 od13 kV13 dc13 pm13 an13 cd13 ct13 sl13) (c13:PC K cd13 "_law_part") (k13:PK K f13)
 (a14:PA K "_law_scheme" f14) (l14:PL K f14 "_law_scheme" (ah 17) oc14 od14 kV14 dc14 pm14 an14 cd14 ct14 sl14) (c14:PC K cd14 "_law_scheme") (k14:PK K f14)
 (a15:PA K "_law_lengths" f15) (l15:PL K f15 "_law_lengths" (ah 18) oc15 od15 kV15 dc15 pm15 an15 cd15 ct15 sl15) (c15:PC K cd15 "_law_lengths") (k15:PK K f15)
 (a16:PA K "_law_places" f16) (l16:PL K f16 "_law_places" (ah 19) oc16 od16 kV16 dc16 pm16 an16 cd16 ct16 sl16) (c16:PC K cd16 "_law_places") (k16:PK K f16)
 (a17:PA K "_law_with_room" f17) (l17:PL K f17 "_law_with_room" (ah 20) oc17 od17 kV17 dc17 pm17 an17 cd17 ct17 sl17) (c17:PC K cd17 "_law_with_room") (k17:PK K f17)
 (a18:PA K "_law_free" f18) (l18:PL K f18 "_law_free" (ah 21) oc18 od18 kV18 dc18 pm18 an18 cd18 ct18 sl18) (c18:PC K cd18 "_law_free") (k18:PK K f18)
 (a19:PA K "_law_steps" f19) (l19:PL K f19 "_law_steps" (ah 22) oc19 od19 kV19 dc19 pm19 an19 cd19 ct19 sl19) (c19:PC K cd19 "_law_steps") (k19:PK K f19)
 (a20:PA K "_law_order" f20) (l20:PL K f20 "_law_order" (ah 23) oc20 od20 kV20 dc20 pm20 an20 cd20 ct20 sl20) (c20:PC K cd20 "_law_order") (k20:PK K f20)
 (a21:PA K "_law_sizes" f21) (l21:PL K f21 "_law_sizes" (ah 24) oc21 od21 kV21 dc21 pm21 an21 cd21 ct21 sl21) (c21:PC K cd21 "_law_sizes") (k21:PK K f21)
 (a22:PA K "_law_same" f22) (l22:PL K f22 "_law_same" (ah 25) oc22 od22 kV22 dc22 pm22 an22 cd22 ct22 sl22) (c22:PC K cd22 "_law_same") (k22:PK K f22)
 (a23:PA K "law" f23) (l23:PL K f23 "law" (ah 26) oc23 od23 kV23 dc23 pm23 an23 cd23 ct23 sl23) (c23:PC K cd23 "law") (k23:PK K f23)
 : ∃ fd:ID,(∀ (s:h8) (v:e7),N4 s fd ⟨[v],[]⟩ [("_law_script",v)]) /\ ∀ base:Heap,K.In base->base.Ns GB mg->dj l.prog w K mg base CX0 40 fa fd ["_law_script"] (lSp K (phi tab 40 23)):=by
 have e:=hfa.symm.trans (FX X G a23)
 cases e
 have O:yS K mg tab oV:=by
  refine ⟨fun x hx=>PySem.W.mg_none_of X G (z x hx), ?_,Cz, ?_⟩
  ·intro i d hd
   match i,hd with
   | 0,hd=>cases hd;exact ⟨_,_,ag l0 c0 k0,FX X G a0,a0,(ag l0 c0 k0).binds fun _ _ _ _ _ _ us hl=>by obtain ⟨u0,rfl⟩:=cz us hl;rfl⟩
   | 1,hd=>cases hd;exact ⟨_,_,ag l1 c1 k1,FX X G a1,a1,(ag l1 c1 k1).binds fun _ _ _ _ _ _ us hl=>by obtain ⟨u0,rfl⟩:=cz us hl;rfl⟩
   | 2,hd=>cases hd;exact ⟨_,_,ag l2 c2 k2,FX X G a2,a2,(ag l2 c2 k2).binds fun _ _ _ _ _ _ us hl=>by obtain ⟨u0,rfl⟩:=cz us hl;rfl⟩
   | 3,hd=>cases hd;exact ⟨_,_,ag l3 c3 k3,FX X G a3,a3,(ag l3 c3 k3).binds fun _ _ _ _ _ _ us hl=>by obtain ⟨u0,rfl⟩:=cz us hl;rfl⟩
   | 4,hd=>cases hd;exact ⟨_,_,ag l4 c4 k4,FX X G a4,a4,(ag l4 c4 k4).binds fun _ _ _ _ _ _ us hl=>by obtain ⟨u0,u1,u2,rfl⟩:=mf us hl;rfl⟩
   | 5,hd=>cases hd;exact ⟨_,_,ag l5 c5 k5,FX X G a5,a5,(ag l5 c5 k5).binds fun _ _ _ _ _ _ us hl=>by obtain ⟨u0,u1,u2,u3,rfl⟩:=Dv us hl;rfl⟩
   | 6,hd=>cases hd;exact ⟨_,_,ag l6 c6 k6,FX X G a6,a6,(ag l6 c6 k6).binds fun _ _ _ _ _ _ us hl=>by obtain ⟨u0,u1,u2,rfl⟩:=mf us hl;rfl⟩
   | 7,hd=>cases hd;exact ⟨_,_,ag l7 c7 k7,FX X G a7,a7,(ag l7 c7 k7).binds fun _ _ _ _ _ _ us hl=>by obtain ⟨u0,u1,rfl⟩:=bV us hl;rfl⟩
   | 8,hd=>cases hd;exact ⟨_,_,ag l8 c8 k8,FX X G a8,a8,(ag l8 c8 k8).binds fun _ _ _ _ _ _ us hl=>by obtain ⟨u0,u1,rfl⟩:=bV us hl;rfl⟩
   | 9,hd=>cases hd;exact ⟨_,_,ag l9 c9 k9,FX X G a9,a9,(ag l9 c9 k9).binds fun _ _ _ _ _ _ us hl=>by obtain ⟨u0,u1,rfl⟩:=bV us hl;rfl⟩
   | 10,hd=>cases hd;exact ⟨_,_,ag l10 c10 k10,FX X G a10,a10,(ag l10 c10 k10).binds fun _ _ _ _ _ _ us hl=>by obtain ⟨u0,u1,rfl⟩:=bV us hl;rfl⟩
   | 11,hd=>cases hd;exact ⟨_,_,ag l11 c11 k11,FX X G a11,a11,(ag l11 c11 k11).binds fun _ _ _ _ _ _ us hl=>by obtain ⟨u0,u1,rfl⟩:=bV us hl;rfl⟩
   | 12,hd=>cases hd;exact ⟨_,_,ag l12 c12 k12,FX X G a12,a12,(ag l12 c12 k12).binds fun _ _ _ _ _ _ us hl=>by obtain ⟨u0,rfl⟩:=cz us hl;rfl⟩
   | 13,hd=>cases hd;exact ⟨_,_,ag l13 c13 k13,FX X G a13,a13,(ag l13 c13 k13).binds fun _ _ _ _ _ _ us hl=>by obtain ⟨u0,u1,rfl⟩:=bV us hl;rfl⟩
   | 14,hd=>cases hd;exact ⟨_,_,ag l14 c14 k14,FX X G a14,a14,(ag l14 c14 k14).binds fun _ _ _ _ _ _ us hl=>by obtain ⟨u0,u1,u2,rfl⟩:=mf us hl;rfl⟩
   | 15,hd=>cases hd;exact ⟨_,_,ag l15 c15 k15,FX X G a15,a15,(ag l15 c15 k15).binds fun _ _ _ _ _ _ us hl=>by obtain ⟨u0,u1,rfl⟩:=bV us hl;rfl⟩
   | 16,hd=>cases hd;exact ⟨_,_,ag l16 c16 k16,FX X G a16,a16,(ag l16 c16 k16).binds fun _ _ _ _ _ _ us hl=>by obtain ⟨u0,rfl⟩:=cz us hl;rfl⟩
   | 17,hd=>cases hd;exact ⟨_,_,ag l17 c17 k17,FX X G a17,a17,(ag l17 c17 k17).binds fun _ _ _ _ _ _ us hl=>by obtain ⟨u0,u1,rfl⟩:=bV us hl;rfl⟩
   | 18,hd=>cases hd;exact ⟨_,_,ag l18 c18 k18,FX X G a18,a18,(ag l18 c18 k18).binds fun _ _ _ _ _ _ us hl=>by obtain ⟨u0,rfl⟩:=cz us hl;rfl⟩
   | 19,hd=>cases hd;exact ⟨_,_,ag l19 c19 k19,FX X G a19,a19,(ag l19 c19 k19).binds fun _ _ _ _ _ _ us hl=>by obtain ⟨u0,rfl⟩:=cz us hl;rfl⟩
   | 20,hd=>cases hd;exact ⟨_,_,ag l20 c20 k20,FX X G a20,a20,(ag l20 c20 k20).binds fun _ _ _ _ _ _ us hl=>by obtain ⟨u0,u1,rfl⟩:=bV us hl;rfl⟩
   | 21,hd=>cases hd;exact ⟨_,_,ag l21 c21 k21,FX X G a21,a21,(ag l21 c21 k21).binds fun _ _ _ _ _ _ us hl=>by obtain ⟨u0,u1,rfl⟩:=bV us hl;rfl⟩
   | 22,hd=>cases hd;exact ⟨_,_,ag l22 c22 k22,FX X G a22,a22,(ag l22 c22 k22).binds fun _ _ _ _ _ _ us hl=>by obtain ⟨u0,u1,rfl⟩:=bV us hl;rfl⟩
   | 23,hd=>cases hd;exact ⟨_,_,ag l23 c23 k23,FX X G a23,a23,(ag l23 c23 k23).binds fun _ _ _ _ _ _ us hl=>by obtain ⟨u0,rfl⟩:=cz us hl;rfl⟩
   | i+24,hd=>simp [tab] at hd
  ·intro x i hx;simp only [oV,Fx,FW,or_false,Prod.mk.injEq] at hx
 refine ⟨Ij "law" "law" (cV (ah 26)) (bJ (ah 26)) (ay (ah 26)) .none kV23 dc23 pm23 an23 cd23 ct23,fun s v => .of_eq rfl,fun base _ _ => ?_⟩;exact vc O 40 23 d23 _ _ rfl (ag l23 c23 k23)
theorem walk {l:Lv} {q:FR} {loose:List Str} {XP:(Str->Option e7)->Heap->Prop} {YP:G7->Heap->Prop} {d:DefRec} {K:Params->Frag} (hn:l.most=some 63) (hdf:d.params.defaults=[])
 (hlaw:∀ ns:List Int,ns.length<=63->phi tab 40 23 [.con (ns.map D.int)] (fun _=>none) fun d _=>d = .bl true)
 (hY:∀ (w:G7) (h:Heap),YP w h->(K w.params).In h)
 (F:∀ (w:G7) (mg:Str->Option e7) (fa:Addr) (h:Heap),(K w.params).In h->h.Ns GB mg->mg d.name=some (.ref fa) ->
   ∃ fd:ID,(∀ (s:h8) (u:e7),N4 s fd ⟨[u],[]⟩ [("_law_script",u)]) /\ ∀ base:Heap,(K w.params).In base->base.Ns GB mg->dj l.prog w (K w.params) mg base CX0 40 fa fd ["_law_script"] (lSp (K w.params) (phi tab 40 23))) :
 PySem.W.WalkO q loose XP YP l.row.toRowW d [] (fun f vs=>Ou f vs) :=
 L2.walk_of (n := 63) (k := 40) (x := "_law_script") (CX:=fun _=>CX0) (sp:=fun w=>lSp (K w.params) (phi tab 40 23)) hn (by decide) hdf ⟨rfl,by decide,by decide⟩ hY F (fun w H a ns hl hO hS=>Cc hO hS (hlaw ns hl)) fun _ _ _ _ _ z=>z
end K29
end
section
namespace K29
theorem qM {k:Nat} (j : 1<=k):yY tab k 9:=fun q=>xY (s:=ah 12) rfl j q
theorem bh {k:Nat} (j : 2<=k):fV tab k 11:=fun z h1 h2 q=>Av (s:=ah 14) (fm := 9) rfl (qM (by lia)) j z h1 h2 q
theorem sU {n:Nat} (z : 3<=n):oB tab n 12:=fun j q=>vw (s:=ah 15) (ft := 11) rfl (bh (by lia)) (by lia) j q
theorem ym {n:Nat} (B : 4<=n):vz tab n 13:=fun j z q=>Aw (s:=ah 16) (fn := 12) rfl (sU (by lia)) (by lia) j z q
theorem yn {n:Nat} (j : 3<=n):vM tab n 15:=AI (s:=ah 18) (ft := 11) rfl (bh (by lia)) (by lia)
theorem vU {n:Nat} (hn : 4<=n) {b:Addr} {M:Mem} {Q:QD} (Z:Box b M)
 (q:∀ (J L L2 c:Nat) p M',J<=12->L<=12->L2<=12->c<=12->Bx b M M'->M p=none->M' p=some (.lst [.int J, .int L, .int L2])->Q (.tup [.ref p, .int c]) M'):phi tab n 21 [.ref b, .int 8] M Q:=by
 refine ar (by lia) (d:=d21) rfl rfl (ρ := [some _,some _]) rfl ?_
 unfold d21 b21;walk_at "st";refine bh (by lia) Z (by decide) (by decide) fun w M0 w0 w1 x0 => ?_
 walk_at "wp"
 split
 ·walk_at "st";refine ⟨by decide,by decide, ?_⟩
  have er:bu 0 (3:Int).toNat=[.int 0, .int 1, .int 2]:=rfl;rw [er];simp only [aY];refine ⟨trivial,_,rfl, ?_⟩;walk_at "wp";refine bh (by lia) x0.box (by decide) (by decide) fun i M1 i0 i1 F => ?_
  walk_at "wp";refine ⟨by simp [hH], ?_⟩
  refine bh (by lia) F.box (by decide) (by decide) fun j M2 j0 j1 G => ?_
  walk_at "wp";refine ⟨by simp [hH], ?_⟩
  refine bh (by lia) G.box (by decide) (by decide) fun k M3 k0 k1 x3 => ?_
  walk_at "wp";refine ⟨by simp [hH],fun p B => ?_⟩
  have O:=((x0.trans F).trans G).trans x3;have z:=dh O.box B;have U:=O.ge (Ge.new (o := .lst ([]++[.int (7+i)]++[.int (7+j)]++[.int (7+k)])) B);have e5:ad M3 p (.lst ([]++[.int (7+i)]++[.int (7+j)]++[.int (7+k)])) p=some (.lst [.int ((7+i).toNat:Nat), .int ((7+j).toNat:Nat), .int ((7+k).toNat:Nat)]):=by
   rw [aa,GD (by lia),GD (by lia),GD (by lia)];rfl
  have np:=O.none B z;refine bh (by lia) U.box (by decide) (by decide) fun c M6 c0 c1 Y => ?_
  walk_at "wp";refine ⟨by rw [hH];lia, ?_⟩
  have:=q (7+i).toNat (7+j).toNat (7+k).toNat (7+c).toNat p M6 (by lia) (by lia) (by lia) (by lia) (U.trans Y) np (Y.keep _ _ z e5)
  rw [GD (by lia)] at this
  exact this
 ·walk_at "st";refine yn (by lia) (by decide) (by decide) x0.box fun J L L2 p M1 h0 h1 h2 F B mp => ?_
  have h5:(5:Int).toNat=5:=rfl;rw [h5] at h0 h1 h2;have z:=dh x0.box B;refine bh (by lia) F.box (by decide) (by decide) fun c M2 c0 c1 G => ?_
  refine ⟨by rw [hH];lia, ?_⟩
  have:=q J L L2 c.toNat p M2 (by lia) (by lia) (by lia) (by lia) ((x0.trans F).trans G) (x0.none B z) (G.keep _ _ z mp)
  rw [GD (by lia)] at this
  exact this
noncomputable def okL:Sp->Prop
 | .lin _ _ ps=>ps.length<=1000
 | _=>True
theorem qN {s:Sp} (h:aT s=false):okL s:=by cases s <;> first | trivial | cases h
theorem yo {ps:List Pr} (hd:∀ p∈ps,p.1.length<=20/\p.2.1.length<=20/\p.2.2.length<=20):∀ i, ∀ x∈(b9 ps i).1,okL x:=by
 intro i
 induction i with
 | zero=>intro x hx;cases hx
 | succ i ih =>
   intro x hx;rw [b9] at hx
   cases hp:ps[i]? with
   | none=>rw [hp] at hx;exact ih x hx
   | some p =>
     rw [hp] at hx;obtain ⟨d1,d2,d3⟩:=hd p (FU hp);generalize b9 ps i=S at *
     dsimp only at hx;unfold stp at hx;dsimp only at hx
     rcases FC.mp hx with h | h
     ·rcases FC.mp h with h | h
      ·exact ih x h
      ·have h':x∈tms S.2.1 p.1 p.2.1++(pSs (r3 S.2.1) (S.2.1++[r3 S.2.1]) S.2.2 (nz p.2.2)).1++[Sp.emp (r3 S.2.1)]:=h
       rcases FC.mp h' with h | h
       ·rcases FC.mp h with h | h
        ·unfold tms at h;have l1:=bE (l:=p.1);have l2:=bE (l:=p.2.1);simp only [Fx,FW,or_false] at h
         rcases h with rfl | rfl | rfl | rfl | rfl
         ·show (pts p.1).length<=1000;unfold pts;rw [gV];lia
         ·show (pts p.2.1).length<=1000;unfold pts;rw [gV];lia
         ·trivial
         ·trivial
         ·trivial
        ·exact qN (oT (nz p.2.2) _ (fun _ h=>by cases h) x h)
       ·rw [Gf.mp h];trivial
     ·have j:∀ (l:List Int) (s:Pst),(∀ x∈s.1,aT x=false) -> ∀ x∈(l.foldl tS s).1,aT x=false:=by
       intro l
       induction l with
       | nil=>intro s h;exact h
       | cons k l ih =>
         intro s h;rw [Gr];refine ih _ ?_;unfold tS
         cases ig s.2.2 k with
         | none=>exact h
         | some v =>
           intro x hx
           rcases FC.mp hx with z | z
           ·exact h x z
           ·rw [Gf.mp z];rfl
      exact qN (j _ _ (fun _ h=>by cases h) x h)
theorem dB {M:Mem} {n:Nat} {ds es:List D} (j:ds.length<=100000) (h:ds.length=es.length) (q:∀ (k:Nat) d e,ds[k]? = some d->es[k]? = some e->Sz M n d e):Sz M (n+1) (.tup ds) (.tup es):=⟨j,h,q⟩
theorem eJ {M:Mem} {n:Nat} {w:W}:Sz M n (.str (ws w)) (.str (ws w)):=by unfold Sz;cases n <;> exact ⟨rfl,Dz w⟩
theorem aC {M:Mem} {n:Nat} {d e:D} {ds es:List D} (h:Sz M n d e) (q:∀ (k:Nat) d e,ds[k]? = some d->es[k]? = some e->Sz M n d e):∀ (k:Nat) d' e',(d::ds)[k]? = some d'->(e::es)[k]? = some e'->Sz M n d' e':=fun k d' e' h1 h2=>by
 cases k with
 | zero=>cases h1;cases h2;exact h
 | succ k=>exact q k d' e' h1 h2
theorem dC {M:Mem} {n:Nat}:∀ (k:Nat) d' e',([]:List D)[k]? = some d'->([]:List D)[k]? = some e'->Sz M n d' e':=fun k d' e' h1 _=>by cases h1
theorem DE {M:Mem} {n:Nat} {p:Int×Int}:Sz M (n+1) (ptD p) (ptD p):=dB (by simp) rfl (aC Sz.int (aC Sz.int dC))
theorem DG {M:Mem} {x y:Sq} (e:x.1=y.1) (hx:spM M x.2 x.1) (j:spM M y.2 y.1) (o:okL x.1):Sz M 4 (sqD x) (sqD y):=by
 obtain ⟨s,a⟩:=x;obtain ⟨s',b⟩:=y
 cases (show s=s' from e)
 cases s with
 | lin l r ps =>
   refine dB (by simp) rfl (aC eJ (aC Sz.int (aC ?_ dC)))
   refine ⟨_,_,hx,j,by rw [gV];exact G8 o (by decide),rfl,fun k d e h1 h2 => ?_⟩
   rw [h1] at h2;cases h2;rw [FK] at h1;obtain ⟨p,q,rfl⟩:=HA.mp h1;exact DE
 | tim r u v=>exact dB (by simp) rfl (aC eJ (aC Sz.int (aC Sz.int (aC Sz.int dC))))
 | put r u v=>exact dB (by simp) rfl (aC eJ (aC Sz.int (aC Sz.int (aC Sz.int dC))))
 | add r u v=>exact dB (by simp) rfl (aC eJ (aC Sz.int (aC Sz.int (aC Sz.int dC))))
 | emp u=>exact dB (by simp) rfl (aC eJ (aC Sz.int dC))
 | tel u v=>exact dB (by simp) rfl (aC eJ (aC Sz.int (aC Sz.int dC)))
theorem z9 {M:Mem} {a b:Addr} {xs ys:List Sq} (j:PgI M a xs) (q:PgI M b ys) (e:xs.map (·.1)=ys.map (·.1)) (B:xs.length<=100000) (o:∀ x∈xs,okL x.1):Sz M 5 (.ref a) (.ref b):=by
 have el:xs.length=ys.length:=by have:=congrArg Hh e;simpa using this
 refine ⟨_,_,j.l,q.l,by rw [gV];exact B,by rw [gV,gV,el],fun k d e' h1 h2 => ?_⟩
 rw [FK] at h1 h2;obtain ⟨x,hx,rfl⟩:=HA.mp h1;obtain ⟨y,z,rfl⟩:=HA.mp h2;have ex:(xs.map (·.1))[k]? = some x.1:=by rw [FK,hx];rfl
 have ey:(ys.map (·.1))[k]? = some y.1:=by rw [FK,z];rfl
 rw [e,ey] at ex;have exy:x.1=y.1:=(HB.inj ex).symm;exact DG exy (j.s x (FU hx)) (q.s y (FU z)) (o x (FU hx))
theorem sV:∀ ns:List Int,Hq (ns.map .int) (ns.map .int)=true
 | [] => rfl
 | n::ns=>by simp [Hq,Gh,sV ns]
theorem za:∀ ps:List Pr,Hq (ps.map dP) (ps.map dP)=true
 | [] => rfl
 | p::ps=>by simp [Hq,Gh,za ps,dP,sV]
theorem CA {M:Mem} {x y z:Int} {a b:Addr} {ps:List Pr} {Q:QD} (j:M a=some (.lst (ps.map prD))) (B:M b=some (.lst (ps.map prD))) (q:Q (.bl false) M):wNe (.tup [.int x, .int y, .int z, .ref a]) (.tup [.int x, .int y, .int z, .ref b]) M Q:=by
 have r:∀ {a:Addr},M a=some (.lst (ps.map prD))->rb 16 M (.tup [.int x, .int y, .int z, .ref a])=some (.tuple [.int x, .int y, .int z, .list (ps.map dP)]):=fun {a} h=>by
  have e:rb 15 M (.ref a)=some (.list (ps.map dP)):=by rw [eA h,oE];rfl
  show (aA (rb 15 M) [.int x, .int y, .int z, .ref a]).map PyData.tuple=_;simp only [aA,e];simp [rb]
 refine ⟨_,_,r j,r B, ?_⟩;rw [show Gh (.tuple [.int x, .int y, .int z, .list (ps.map dP)]) (.tuple [.int x, .int y, .int z, .list (ps.map dP)])=true by simp [Gh,Hq,za]]
 exact q
theorem AQ {M:Mem} {a b:Addr} {ns:List Int} {Q:QD} (j:M a=some (.lst (ns.map .int))) (z:M b=some (.lst (ns.map .int))) (q:Q (.bl false) M):wNe (.ref a) (.ref b) M Q:=by
 have r:∀ {a:Addr},M a=some (.lst (ns.map .int))->rb 16 M (.ref a)=some (.list (ns.map .int)):=fun {a} h=>by rw [eA h,gy];rfl
 refine ⟨_,_,r j,r z, ?_⟩;rw [show Gh (.list (ns.map .int)) (.list (ns.map .int))=true by simp [Gh,sV]]
 exact q
theorem oW {n:Nat} (j : 6<=n) {x y:D} {M:Mem} {Q:QD} (h:Sz M 5 x y) (q:∀ M',Ge M M'->Q (.bl true) M'):phi tab n 22 [x,y] M Q:=yk (s:=ah 25) (f := 22) rfl 5 j h q
theorem vW {n:Nat} (z : 3<=n) {b:Addr} {m:Nat} (hm:m<=12) {M:Mem} {Q:QD} (j:Box b M)
 (q:∀ p (os:List Nat) M',Bx b M M'->Box b M'->M p=none->M' p=some (.lst (os.map fun i => .int (i:Nat)))->(∀ i∈os,i < m)->os.length<=m->Q (.ref p) M'):phi tab n 20 [.ref b, .int m] M Q:=yh (s:=ah 23) (ft := 11) rfl (by lia) (bh (by lia)) (by lia) j q
theorem oX {n:Nat} (j : 4<=n) {x y z:D} {pp oA:Addr} {ds:List Pr} {os:List Nat} {M:Mem} {Q:QD} (hd:∀ p∈ds,p.1.length<=20/\p.2.1.length<=20/\p.2.2.length<=20) (mp:M pp=some (.lst (ds.map prD))) (mo:M oA=some (.lst (os.map fun i => .int (i:Nat)))) (ho:∀ i∈os,i < ds.length) (B:os.length<=20)
 (q:∀ g xs M',Ge M M'->M g=none->PgI M' g xs->xs.map (·.1)=(b9 ((os.filterMap fun i=>ds[i]?).filter b0) ((os.filterMap fun i=>ds[i]?).filter b0).length).1->(∀ x∈xs,M x.2=none)->(∀ x∈xs,x.2≠g)->Q (.ref g) M'):phi tab n 7 [.tup [x,y,z, .ref pp], .ref oA] M Q :=
 sQ (s:=ah 9) (fh := 1) (ff := 0) (ft := 4) (fs := 5) (fl := 6) (fk := 2) (fp := 3) (sh:=ah 2) (sf:=ah 1) (sl:=ah 8) (sm:=ah 6) (ss:=ah 7) (sp:=ah 5) (sk:=ah 4) rfl rfl rfl rfl rfl rfl rfl rfl j hd mp mo ho B q
theorem CB {a b c d:D} {M:Mem} {Q:QD} (q:Q (.tup [a,b,c]) M):du (.tup [a,b,c,d]) none (some 3) M Q:=q
theorem law_holds (ns:List Int) (hl:ns.length<=63):phi tab 40 23 [.con (ns.map D.int)] (fun _=>none) fun d _=>d = .bl true:=by
 refine ar (by lia) (d:=d23) rfl rfl (ρ := [some _,none,none,none,none,none,none,none,none,none,none,none]) rfl ?_
 unfold d23 b23;walk_at "st";rw [gV];refine ⟨by split <;> split <;> lia,by split <;> split <;> lia, ?_⟩
 refine br (I:=fun l ρ M' => ∃ o1 o2 o3 o4 o5 o6 o7 o8 o9 q B, ρ = [some (.con (ns.map D.int)),o1,o2,o3,o4,o5,o6,o7,o8,o9,q,B]) cU ⟨_,_,_,_,_,_,_,_,_,_,_,rfl⟩ (fun _ _ _ hI=>trivial) ?_ ?_
 ·rintro l k r ρ M8 e ⟨o1,o2,o3,o4,o5,o6,o7,o8,o9,q,B,rfl⟩;refine ⟨_,rfl,fun F hF => ?_⟩;walk_at "st";refine Ck (s:=ah 13) (fc := 8) (fm := 9) (sc:=ah 11) rfl rfl (qM (by lia)) (by lia) (by lia) fun b x y EW => ?_
  refine sN ?_;walk_at "wp";refine vU (by lia) ⟨_,_,_,aa⟩ fun L0 L1 L2 c lA M1 h0 h1 h2 hc x1 flA mlA=>⟨_,rfl, ?_⟩
  have nlA:lA≠b:=fun z=>by rw [z,aa] at flA;cases flA
  have Em:=x1.box;clear x1 flA;walk_at "st";refine sK (x := "_law_lengths_here") (s:=ah 17) (ft := 11) (fp := 13) rfl (bh (by lia)) (ym (by lia)) (by lia) (by lia) (by lia) (by lia) (by lia) Em nlA mlA fun ds pr M2 EX EK x2 Eh Eo => ?_
  have nprb:=dh Em Eh;have Ep:=x2.box;clear x2 Eh mlA nlA Em;walk_at "st";refine CB ?_;refine ⟨_,rfl,_,_,rfl,af Eo,fun U n1=>⟨by rw [hH];lia, ?_⟩⟩
  have g1:=Ge.new (o := .lst (ds.map prD)) n1;have f1:ad M2 U (.lst (ds.map prD)) U=some (.lst (ds.map prD)):=aa;have nhb:=dh Ep n1;have Ey:=(Bx.of Ep g1).box;have Ei:=g1 _ _ Eo;generalize ad M2 U (.lst (ds.map prD))=M3 at g1 f1 Ei Ey;clear g1 n1 Eo Ep;refine ⟨by simp,by rw [hH];simp, ?_⟩
  simp only [IM,J3];have hd:∀ p∈ds,p.1.length<=20/\p.2.1.length<=20/\p.2.2.length<=20:=fun p hp=>by
   have:=EK p hp;exact ⟨by rw [this.l0];lia,by rw [this.l1];lia,by rw [this.l2];lia⟩
  walk_at "st";refine ⟨by decide,by decide, ?_⟩
  refine br (I:=fun l2 ρ M4 => ∃ o7 o8 o9 q B, ρ = [some (.con (ns.map D.int)),some (.int (k:Nat)),some (.ref b),some (.ref lA),some (.int c),some (.tup [.int L0, .int L1, .int L2, .ref pr]),some (.tup [.int L0, .int L1, .int L2, .ref U]),o7,o8,o9,q,B]/\Box b M4/\M4 pr=some (.lst (ds.map prD))/\M4 U=some (.lst (ds.map prD))) cU ⟨_,_,_,_,_,rfl,Ey,Ei,f1⟩ (fun _ _ _ hI=>trivial) ?_ ?_
  ·rintro l2 t r2 ρ M4 e2 ⟨o7,o8,o9,q,B,rfl,Er,Ej,Ez⟩;refine ⟨_,rfl,fun F2 EL => ?_⟩;walk_at "st";refine vW (by lia) hc Er fun oA os M5 x5 EA EB Es EM EY => ?_
   have noA:=dh Er EB;have Ek:=x5.keep _ _ nprb Ej;have EC:=x5.keep _ _ nhb Ez;clear x5 EB;walk_at "st";refine ⟨_,_,rfl,af Es,fun Et ED => ?_⟩;have g6:=Ge.new (o := .lst (os.map fun i => .int (i:Nat))) ED;have m6:ad M5 Et (.lst (os.map fun i => .int (i:Nat))) Et=some (.lst (os.map fun i => .int (i:Nat))):=aa;have Eu:=(Bx.of EA g6).box;have G:=g6 _ _ Ek;have Ev:=g6 _ _ EC;have Eg:=g6 _ _ Es;generalize ad M5 Et (.lst (os.map fun i => .int (i:Nat)))=M6 at Eu G Ev Eg m6 ⊢;clear g6 EA Ek EC Es ED;have Y:∀ i∈os,i < ds.length:=fun i hi=>by have:=EM i hi;lia
   walk_at "st";refine AE (s:=ah 20) (fp := 16) (sp:=ah 19) rfl rfl (by lia) (fun p hp=>by have:=hd p hp;lia) G Eg Y (by lia) fun EZ M7 g7 _ EE => ?_
   have Ew:∀ p∈(os.filterMap fun i=>ds[i]?).filter b0,p∈ds:=fun p hp=>by
    obtain ⟨i,_,e⟩:=J9.mp (G3.mp hp).1;exact FU e
   have EN:((os.filterMap fun i=>ds[i]?).filter b0).length<=20:=G8 (FV _ _) (G8 (HY _ _) (by lia))
   refine yj (s:=ah 22) (fq := 18) (fp := 16) (sq:=ah 21) (sp:=ah 19) rfl rfl rfl (by lia) EE (fun p hp=>hd p (Ew p hp)) EN fun due ys EO g8 pd ed => ?_
   have O:=g7.trans g8;have EQ:=(Bx.of Eu O).box;have J:=O _ _ G;have EF:=O _ _ Ev;have ER:=O _ _ Eg;have m8:=O _ _ m6;clear g7 g8 O EE G Ev Eg m6 Eu;walk_at "st";refine oX (by lia) hd J m8 Y (by lia) fun found xs M9 g9 ES pf ef _ _ => ?_
   have hok:∀ {zs:List Sq},zs.map (·.1)=(b9 ((os.filterMap fun i=>ds[i]?).filter b0) ((os.filterMap fun i=>ds[i]?).filter b0).length).1->(∀ z∈zs,okL z.1)/\zs.length<=10000:=fun {zs} h=>by
    refine ⟨fun z hz=>yo (fun p hp=>hd p (Ew p hp)) _ z.1 (by rw [<- h];exact FI.mpr ⟨z,hz,rfl⟩), ?_⟩
    have h1:=(PInv.all (L := 20) (fun b hb=>(hd b (Ew b hb)).2.2) _ _ [] rfl (H0 _).symm).sl;rw [<- h,gV] at h1;lia
   walk_at "st";refine oW (by lia) (z9 pf (pd.ge g9) (by rw [ef,ed]) (by have:=(hok ef).2;lia) (hok ef).1) fun EG EH => ?_
   refine ⟨true,rfl, ?_⟩;rw [if_neg (by decide)]
   have j:=g9.trans EH;have eos:(os.map fun i=>D.int (i:Nat))=(os.map fun i:Nat=>(i:Int)).map .int:=by rw [G5];rfl
   refine AQ (ns:=os.map fun i:Nat=>(i:Int)) (by rw [<- eos];exact j _ _ m8) (by rw [<- eos];exact j _ _ ER) ?_
   refine ⟨_,rfl, ?_⟩;rw [if_neg (by decide)]
   refine CA (j _ _ J) (j _ _ EF) ?_;refine ⟨_,rfl, ?_⟩;rw [if_neg (by decide)]
   have El:=pf.ge EH;walk_at "st";refine ⟨⟨_,El.l⟩,found,_,_,rfl,rfl,El.l,by rw [gV,hH];have:=(hok ef).2;lia, ?_⟩
   have Z:Ge EO (ad EG found (.lst (xs.map sqD++[.non]))):=fun a o h=>by
    rw [ab (fun z=>by rw [z,ES] at h;cases h)];exact j _ _ h
   generalize ad EG found (.lst (xs.map sqD++[.non]))=M11 at Z ⊢;walk_at "st";refine oX (by lia) hd (Z _ _ J) (Z _ _ m8) Y (by lia) fun EJ F1 F3 EI EV ET Ex _ _ => ?_
   refine oW (by lia) (z9 ET (pd.ge (Z.trans EI)) (by rw [Ex,ed]) (by have:=(hok Ex).2;lia) (hok Ex).1) fun F4 EU => ?_
   refine ⟨true,rfl, ?_⟩;rw [if_neg (by decide)]
   have Ef:=(Z.trans EI).trans EU;exact EL _ _ ⟨_,_,_,_,_,rfl,(Bx.of EQ Ef).box,Ef _ _ J,Ef _ _ EF⟩
  ·rintro ρ M4 ⟨o7,o8,o9,q,B,rfl,Er,Ej,Ez⟩;walk_at "wp";exact hF _ _ ⟨_,_,_,_,_,_,_,_,_,_,_,rfl⟩
 ·rintro ρ M8 ⟨o1,o2,o3,o4,o5,o6,o7,o8,o9,q,B,rfl⟩;dsimp only;walk_at "st"
end K29
end
end
end Mi
end L2
namespace PySem.W.Fast
theorem tw4624203736151541116:True:=trivial
theorem tw2367078803854676975:True:=trivial
theorem tw17406573360309791633:True:=trivial
theorem tw871359254401936764:True:=trivial
theorem tw16361234032000362613:True:=trivial
theorem tw5278999740167365920:True:=trivial
theorem tw15028916586500571418:True:=trivial
theorem tw8813062539618584672:True:=trivial
theorem tw1578850167546457308:True:=trivial
theorem tw10400436872319696813:True:=trivial
theorem tw12733786510923535061:True:=trivial
theorem tw12925670202180344561:True:=trivial
theorem tw1717249041911582833:True:=trivial
theorem tw6116349667690195079:True:=trivial
theorem tw10564185468456506197:True:=trivial
theorem tw12003882927882922603:True:=trivial
theorem tw13118022118172351450:True:=trivial
theorem tw14595053520383174926:True:=trivial
theorem tw13355225259802154069:True:=trivial
theorem tw1501720225010073010:True:=trivial
theorem tw11804924697885865913:True:=trivial
theorem tw17717766665797142191:True:=trivial
theorem tw17153157923332071306:True:=trivial
theorem tw6798652249376564281:True:=trivial
theorem tw18274529032652265402:True:=trivial
theorem tw17564255934161293326:True:=trivial
theorem tw9180666352767747348:True:=trivial
theorem tw7683639762531670667:True:=trivial
theorem tw5208476585620069448:True:=trivial
theorem tw7816977569164557019:True:=trivial
theorem tw2847037828986432167:True:=trivial
theorem tw17121349732528598585:True:=trivial
theorem tw4804011319328873311:True:=trivial
theorem tw6824889684259705892:True:=trivial
theorem tw16590809688761479817:True:=trivial
theorem tw16030536542326967000:True:=trivial
theorem tw16174828727346120989:True:=trivial
theorem tw15965079331542195791:True:=trivial
theorem tw14352650733028521481:True:=trivial
theorem tw17611350112506744856:True:=trivial
theorem tw703349301553004003:True:=trivial
theorem tw3354817777147106108:True:=trivial
theorem tw14754522672156674522:True:=trivial
theorem tw9139601433147208973:True:=trivial
theorem tw5272635897045434473:True:=trivial
theorem tw1434283612390476781:True:=trivial
theorem tw14444186017108434699:True:=trivial
theorem tw16055228613718219074:True:=trivial
theorem tw4491324758405211467:True:=trivial
theorem tw4219601797392631173:True:=trivial
theorem tw18011978988144850477:True:=trivial
theorem tw12600855314058013548:True:=trivial
theorem tw12050433856069515166:True:=trivial
theorem tw10536916822343167324:True:=trivial
theorem tw18432726682473418267:True:=trivial
theorem tw15537298144202070630:True:=trivial
theorem tw15388549764228647839:True:=trivial
theorem tw1570911868458648612:True:=trivial
theorem tw13101448736459644469:True:=trivial
end PySem.W.Fast
open PySem.W in
set_option maxRecDepth 100000 in
set_option maxHeartbeats 0 in
theorem PySem.Challenge.cw_fewtimes_k29_programs_of_schemes_holds : PySem.Challenge.rw_fewtimes_k29_programs_of_schemes.Holds := by
 w_on;o_law;k_head;(case hw=>w_witness2)
 k_fill
 refine L2.Mi.K29.walk (l:=PySem.Challenge.rw_fewtimes_k29_programs_of_schemes) rfl rfl L2.Mi.K29.law_holds (fun w h Y=>PySem.W.kIn_of Y) ?F
 case F =>
  intro w mg fa h KX G hmg;refine' L2.Mi.K29.all_mk KX G hmg ?z ?_ ?_ ?_ ?_ ?_ ?_ ?_ ?_ ?_ ?_ ?_ ?_ ?_ ?_ ?_ ?_ ?_ ?_ ?_ ?_ ?_ ?_ ?_ ?_ ?_ ?_ ?_ ?_ ?_ ?_ ?_ ?_ ?_ ?_ ?_ ?_ ?_ ?_ ?_ ?_ ?_ ?_ ?_ ?_ ?_ ?_ ?_ ?_ ?_ ?_ ?_ ?_ ?_ ?_ ?_ ?_ ?_ ?_ ?_ ?_ ?_ ?_ ?_ ?_ ?_ ?_ ?_ ?_ ?_ ?_ ?_ ?_ ?_ ?_ ?_ ?_ ?_ ?_ ?_ ?_ ?_ ?_ ?_ ?_ ?_ ?_ ?_ ?_ ?_ ?_ ?_ ?_ ?_ ?_ ?_ ?_
  case z =>
   intro x hx;simp only [L2.Mi.bltNames,List.mem_cons,List.not_mem_nil,or_false] at hx
   rcases hx with rfl | rfl | rfl | rfl | rfl | rfl | rfl | rfl | rfl | rfl | rfl | rfl | rfl | rfl | rfl | rfl | rfl | rfl | rfl | rfl <;> k_is
  all_goals try (show _=_;k_is)
