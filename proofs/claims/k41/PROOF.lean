import PyProof.Rows.All
import Wide.All
import OpenK.AllK
import Wide.FinOn
import Lean
import PyProof.EqAt
import PyProof.EqKinds
import PyProof.TupleCall
import PyProof.ZipIter
import PyProof.EnumMake
import PyProof.EnumFor
import PyProof.CollectIter
import PyProof.Rows.SeqMore
import PyProof.ConsumeWalk
import PyProof.Rows.SortShellK
import PyProof.DictItems
import PyProof.DictWalks
import PyProof.AttrMissHeap
import PyProof.DictIter
import PyProof.MaxThree
import PyProof.SeqI3
import PyProof.DictTruth
import PyProof.Rows.TupDisplay
import KE.KDictOf
import PySem.Challenge.RW_fewtimes_k41_pairs_and_spans
set_option Elab.async false
set_option linter.all false
set_option compiler.extract_closed false
set_option genSizeOf false
set_option bootstrap.genMatcherCode false
set_option maxRecDepth 100000
set_option maxHeartbeats 4000000
open PySem.W (Frag)
open PySem renaming wpAny_bind → gV, Value → h6, Shared → hH, wpAny_pure → q7, sizeLine_eq → D1, sizeLine → DY, wpAny → Ec, model → Eh, Program → Ep, starEach → Et, wpAny_callSpecial?_slot → EG, World → EM, wpAny_setField_rec → ER, Paired → ES, wpAny_field → EZ, Comprehension → F3, Around → F5, wpAny_call_entry → F6, wpAny_holding → Fh, PyData → Fi, mainGlobals → Fn, mem_of_lookup → Fu, wpAny_newObj_type → Fv, binaryOp → Fy, wpAny_pyIter_tuple → FA, sysModules → FF, compareOp → FL, wpAny_mono → FU, assignEach → FV, wpAny_rule → FW, wpAny_seqItems → G3, foldedSetIterable → G6, cellsFrom → G7, Builtin → G8, wpAny_pyIter_list → G9, DictEntry → Gq, cLine → Gv, wpAny_passesOwn → GA, wpAny_truthy_bool → GD, wpAny_typeOf → GF, swappedStores → GJ, IsPair → GO, wpAny_attempt → GP, NameKind → GR, wpAny_isInstance → GU, wpAny_of_eq → GZ, bootBuiltins → H8, tupleKind_room_in1 → Hb, wpAny_loadPart' → Hk, wpAny_standAt → Hn, FuncData → Hw, tupleKind → Hz, swapsWithSole → HF, behindInMarks → HG, backTo → HS, wpAny_Call_Name_kw → HU, swapsWith → HX, sliceBounds → I0, pyNext → I8, codeAny_mono → I9, Reads → Ic, isSubtype_type → Ii, codeAny → IB, Model → IE, wpAny_updateSeq_pair → IG, letOwnedTupleGo → IP, codeAny_builtin → IX, call_meets → Je, firstArgMember → Jg, wpAny_binaryOp_repeat_ref → Jl, standAt → Jr, IsZip → Ju, wpAny_letGo → Jv, rawInt → Jy, wpAny_newList → JA, wpAny_comprehension_free → JB, wpAny_onRaise → JC, noFill_tuple_add → JF, wpAny_pyNext_list_item → JS, IsPart → JT, getItem → JU, typeIs_int → JX, Keyword → JY, call_meetsIn → K0, IsEnum → K2, wpAny_execs_nil → K7, pushCells_keeps → K9, wpAny_ite_false → Ka, wpAny_pyNext_list_end → Kc, builtinLookup_eq_fast → Kg, newFunctionEnv → Kl, ZipApart → Km, wpAny_newTuple → Kq, isSubtype_stop → Kr, ReadsAll → Kv, wpAny_ite_true → Kz, wpAny_pyIter_keyiter → KA, callerA → KL, valueAt → KN, assignInOrder → KZ, seq_tuple_add → L3, attributeBase → L4, plainId_quiet → L6, mroOf_keyiter → L7, foldedForSure → Lb, pyIter → Le, wpAny_dictSet_heap → Ll, Operator → Lr, BindsTo → Ly, concat_meets → Lz, wpAny_sequenceKey → LA, seqIndex_neg → LB, wpAny_pyIter_enum → LG, wpAny_Dict_empty → LV, pushCells → LW, wpAny_pyIter_zip → LZ, IsEnumOut → Ma, entryFor_of_tree → Mf, seqIndex_of → Mp, keywordEach → Mq, atKey → Mr, wpAny_throw → Mt, richCompare → Mv, builtinsNs → MV, wpAny_Name → MW, bindName → MX, bindL → MY, bindC → MZ, call → N1
open PySem.Heap renaming get?_push_of_some → h7, get?_push_size → E1, lt_size → E6, SameBut → Fz, size_push → FH, get?_update_ne → FN, IsTuple → J1, get?_update_other → JW, get?_update_self → Kd, IsList → Ks, get?_push_cases → Kt, ExtBut → Ms
open Bool renaming and_eq_true → hW, false_ne_true → E2, not_eq_true' → FJ, false_eq_true → FX, not_eq_true → Iv, false_or → Jz, or_eq_true → Kb, and_eq_true_iff → Ku
open List renaming length_map → r4, length_append → z4, getElem?_eq_getElem → D0, getElem?_append_right → D2, replicate → DU, pairwise_append → DV, getElem?_eq_some_iff → DZ, size_toArray → E4, getElem?_append_left → E5, mem_cons_of_mem → E7, append_assoc → E9, mem_append → Ea, mem_cons → Eb, mem_cons_self → Ef, range → Ei, length_range → Ej, mem_append_right → Ek, getElem?_map → Eo, length_filter_le → Es, length_take → Eu, map_cons → Ew, toList_toArray → Ex, mem_map_of_mem → Ey, mem_of_getElem? → Ez, filter_append → EB, mem_map → ED, filter_cons_of_pos → EH, filter_cons_of_neg → EI, not_mem_nil → EL, length_eq_zero_iff → EO, getD_eq_getElem?_getD → EU, length_singleton → EV, getElem?_replicate → EY, length_pos_iff → F4, map_append → F7, flatten_cons → F8, replicate_succ → Fd, append_nil → Fe, length_cons → Fg, mem_singleton → Fj, flatMap_append → Fk, mem_append_left → Fo, drop_eq_getElem_cons → Fs, flatMap_cons → Fw, nodup_iff_pairwise_ne → FK, nodup_cons → FP, find?_cons → FQ, take_append_drop → FT, mem_iff_getElem → G4, pairwise_map → Ga, foldl_cons → Gc, length_nil → Gd, dropLast_concat_getLast → Gg, flatten_append → Gj, map_congr_left → Gk, getElem?_set_self → Gm, drop_eq_nil_of_le → Gp, lookup_cons → Gr, Perm → Gs, getElem?_eq_none → Gx, mem_filter → Gz, forIn_cons → GB, ext_getElem? → GG, map_map → GH, getElem?_of_mem → GI, mem_range → GQ, getElem_mem → GW, getElem?_cons_succ → GX, any_eq_true → GY, zipWith → Hc, pairwise_cons → Hd, take_of_length_le → He, find?_cons_of_neg → Hg, mem_zipIdx_iff_getElem? → Hm, any_cons → Ho, length_replicate → Hq, perm_append_comm → Hs, nodup_append → Hu, getElem?_set_ne → Hv, map → Hy, map_nil → HB, mem_reverse → HC, all_eq_true → HD, getElem?_take_of_lt → HH, of_mem_zip → HM, getElem?_drop → HW, length → HY, extract → Ie, reverse_perm → Ig, foldl_append → Ik, find?_cons_of_pos → Im, length_drop → Iq, foldl → Ir, all_cons → IC, getElem?_mapIdx → IH, mem_of_mem_drop → II, mem_of_mem_take → IJ, length_set → IQ, nil_append → IS, filterMap_cons → IY, length_zipWith → IZ, drop_drop → Ji, pairwise_iff_getElem → Jm, mem_or_eq_of_mem_set → Jo, take_add_one → Jw, eq_of_mem_replicate → JE, zipIdx_cons → JH, cons_append → JL, getElem?_cons_zero → JN, getElem?_zipWith → Ke, pairwise_reverse → Kf, eq_replicate_iff → Kh, forIn_nil → Ko, reverse_reverse → Kw, getElem?_range → KU, length_reverse → KW, zip_eq_zipWith → KY, mem_filterMap → Lf, set_cons_zero → Ln, set_cons_succ → Lo, any_eq_false → Lu, drop_length → Mb, map_snd_zip → Me, mem_flatMap → Ml, flatMap_nil → Mm, map_zipWith → Mo, zipIdx_nil → MK, length_zip → MR
open PyProof.Rows renaming wpS_bind → DW, Keyed → DX, pendingOf → Eg, arrOf → EK, wpS_forRange → EX, SortSt → F1, kindOf → Ft, callWith_type1 → FE, slot_tuple_getitem → FR, wpS_modify → FY, failedOf → Gi, SortKind → HJ, wpS_get → HP, get?_update_seq → HR, setPending → HV, listUpdate_at → ID, mem_zip_self → J4, assignInOrder_cons → J9, AllBare → Jq, seqSlot_of → JJ, subscriptTail_builtinR → JV, envOfC → Kj, entry_tuple_getitem → KP, args_tuple_getitem → Lg, assignInOrder_nil → Lq, listItems_at → LJ, seqObj → Md, keyKind'_eq → Mw, seqEpoch_at → Mx, IntsAre → MU, mergeAt' → N5
open Nat renaming le_refl → E3, lt_of_lt_of_le → EA, ne_of_lt → EJ, mul_le_mul → EN, le_trans → ET, lt_irrefl → Fx, succ_mul → FG, zero_le → G2, ne_of_gt → Gn, le_of_lt → HA, min_eq_left → HQ, zero_add → Ih, mul_le_mul_right → IM, sub_self → J3, succ_le_succ → JK, pow_le_pow_right → KJ, add_assoc → L5, pow_succ → LO, not_lt → N3
open Array renaming toList_append → E8, toList_push → Ee, length_toList → El, getElem?_toList → Er, getElem?_eq_getElem → EC, toList_reverse → EF, toList_extract → G5, size_append → Ht, getElem?_eq_none → Il, toList_inj → Iz, map → IA, size_push → IW, toList_setIfInBounds → Jj, toList → JR, all_eq_true → LK, filterMap → MP
open Int renaming toNat_natCast → Ed, emod_lt_of_pos → FC, dvd_mul_of_dvd_right → G1, eq_ofNat_of_zero_le → Gb, emod_nonneg → Gh, dvd_zero → Hh, natCast_mul → HN, dvd_mul_of_dvd_left → I7, mul_le_mul_of_nonneg_left → IK, dvd_sub → Jx, dvd_neg → KH, toNat_of_nonneg → KR, lt_or_gt_of_ne → Lp, sub_zero → LN, add_mul → MB, dvd_add → MD
open PySem.W renaming mg_of → Em, kia_one → Fp, fnOf → H9, keepIn → Hx, cellsFrom_some → Ia, nsIn → J2, codeIn → Jb, methodObj → Jp, instObj → K6, OpenLaw → K8, lookIn → Ki, kitx_list → Lv, kitx_dict → Lw, plainGet → LR
open PySem.NameKind renaming free → EE, cell → G0
open List.Perm renaming append_left → EW, append_right → F9, of_eq → Hl, refl → Kx
open PySem.PyData renaming eqv → Fb, canLayAll0 → Fl, eqvAll → Fq, depthAll → Gf, depth → Hf, canLay0 → Ij, list → Mu
open PySem.Str renaming ofString → Fc
open PySem.Value renaming ref → Ff, type → Fm, none → H4, bool → Ld, int → LP, str → LQ
open PySem.SeqAt renaming readOf → FI, readOf_eq → GC, eqAt_reads → Mc
open Option renaming some → FO, isSome_iff_exists → GK, map_some → Hj, bind_some → Iw, isSome_map → Jt, isSome_some → Lh, getD_none → LS, join_some → Mh, bind_none → Mj, join_none → Mk, getD_some → Mn, map → N4
open PySem.Paired renaming length → FZ
open True renaming intro → Gu
open PySem.F renaming slot_tuple_iterator_next → Gw, slot_enumerate_next → Hr, args_tuple_add_2 → HI, entry_tuple_add → HZ, slot_tuple_add → Ib, slot_dict_get → Ip, slot_int_rmul → IT, args_tuple_iterator_next_1 → IU, slot_zip_next → IV, entry_tuple_iterator_next → J0, args_dict_get_3 → JG, args_enumerate_next_1 → JI, plainAttrs_list → JM, entry_dict_get → K1, entry_enumerate_next → K5, args_int_rmul_2 → LC, args_zip_next_1 → LD, entry_int_rmul → LU, entry_zip_next → LX, slot_dict_iter → Mg, fills_int_mul → MJ, slot_tuple_lt → MN, slot_dict_len → MQ
open PySem.Builtin.Slice renaming slicePlaces → Gy, sliceAdjust → HE, sliceApplied → Jc
open PySem.Builtin.Tuple renaming tupleExact → GL, tupleCompareSizes → Io, tupleItemsOf → Jd, tupleIsExact → Jf, tupleTooMany → Jh
open PySem.Builtin.List renaming listTooLong → GN, listLengthHint → J6
open LawfulBEq renaming eq_of_beq → GS
open PySem.Shared renaming heap → H0
open PySem.Obj renaming mapSeq → Ha, data_mapFields → Li
open ForInStep renaming yield → Hi
open List.Pairwise renaming imp_of_mem → HK, nil → Js
open And renaming intro → Iu
open PyProof.Rows.SortSt renaming mk' → Iy
open PySem.Data renaming seq → IF
open PyProof.Rows.IsTup renaming new → J7
open PySem.Calls renaming Name_function_global → J8, spliced_cons → Ja, callWith_builtin → JZ, evalArgs_plain → Kk, spliced_nil → Lx
open PySem.Builtin.Dict_items renaming isOneOf → Jk
open Classical renaming byContradiction → Jn, propDecidable → JO
open PySem.Env renaming blockKind → JD, kindOf → Lm
open Sum renaming inl → JP, inr → JQ
open PySem.Expr renaming Subscript → KD, Attribute → KG, Constant → L8, ListComp → L9, UnaryOp → LL, Compare → LM, BoolOp → My, BinOp → N6, IfExp → N7, Tuple → N8, Slice → N9, Name → Nc, List → Nf, Call → Ng, Dict → Nh
open Iff renaming rfl → KO
open PySem.Heap.SameBut renaming update → KQ
open PySem.Builtin.Int renaming intBits → KS
open PySem.Stmt renaming Continue → La, Assign → Mz, Return → MA, While → Na, Break → Nb, Expr → Ni, Pass → Nj
open Function renaming comp → Lc
open PySem.Around renaming in1_handled → Lj, under_plain → Lk
open PySem.Heap.IsTuple renaming push → LF
open Option.some renaming injEq → LH
open Exists renaming intro → LI
open PySem.Heap.IsList renaming push → LY
open List.cons renaming injEq → MM
namespace L2
open PySem PySem.Spec PyProof.Rows
section
noncomputable abbrev Key:=Sum Int Str
noncomputable def fE:Key->h6->Bool
 | .inl k,v=>Value.isInt k v
 | .inr x,v=>Value.isStrOf x v
noncomputable def Bc (w:EM):Key->Int
 | .inl k=>hashInt k
 | .inr x=>hashStr w x
theorem aO:∀ {k:Key} {v:h6},fE k v=true->(∃ i t,k=JP i/\v=LP i t)∨(∃ x t,k=JQ x/\v=LQ x t)
 | .inl i,v,h=>by
  obtain ⟨t,e⟩:=Value.isInt_shape (k:=i) (v:=v) h;exact .inl ⟨i,t,rfl,e⟩
 | .inr x,v,h=>by
  obtain ⟨t,e⟩:=Value.isStrOf_shape (x:=x) (v:=v) h;exact .inr ⟨x,t,rfl,e⟩
theorem qt (i:Int) (t:Tok):fE (.inl i) (.int i t)=true:=by simp [fE,Value.isInt]
theorem qu (x:Str) (t:Tok):fE (.inr x) (.str x t)=true:=by simp [fE,Value.isStrOf]
theorem yw (a b:Int):decide ((JP a:Key)=JP b)=(a==b):=by
 by_cases e:a=b
 ·subst e;simp
 ·have h : ¬ (JP a:Key)=JP b:=fun q=>e (JP.inj q);rw [decide_eq_false h];exact (beq_eq_false_iff_ne.mpr e).symm
theorem yz (a b:Str):decide ((JQ a:Key)=JQ b)=decide (a=b):=by
 by_cases e:a=b
 ·subst e;simp
 ·have h : ¬ (JQ a:Key)=JQ b:=fun q=>e (JQ.inj q);rw [decide_eq_false h,decide_eq_false e]
theorem yA (a:Int) (b:Str):decide ((JP a:Key)=JQ b)=false:=decide_eq_false (fun q=>nomatch q)
theorem yB (a:Str) (b:Int):decide ((JQ a:Key)=JP b)=false:=decide_eq_false (fun q=>nomatch q)
noncomputable def aD (prog:Ep) (w:EM):PySem.KeyKind prog w Key where
 is:=fE
 hash:=Bc w
 inj:=fun v a b ha hb=>by
  rcases aO ha with ⟨i,t,rfl,rfl⟩ | ⟨x,t,rfl,rfl⟩
  ·rcases aO hb with ⟨j,u,rfl,e⟩ | ⟨y,u,rfl,e⟩
   ·injection e with e1 _;rw [e1]
   ·exact nomatch e
  ·rcases aO hb with ⟨j,u,rfl,e⟩ | ⟨y,u,rfl,e⟩
   ·exact nomatch e
   ·injection e with e1 _;rw [e1]
 byValue:=fun k v h=>by
  rcases aO h with ⟨i,t,rfl,rfl⟩ | ⟨x,t,rfl,rfl⟩ <;> rfl
 pyHash:=fun hv h=>by
  rcases aO hv with ⟨i,t,rfl,rfl⟩ | ⟨x,t,rfl,rfl⟩
  ·exact wpAny_pyHash_int h
  ·exact wpAny_pyHash_str h
 eqBool:=fun hu hv h=>by
  rcases aO hu with ⟨i,t,rfl,rfl⟩ | ⟨x,t,rfl,rfl⟩
  ·rcases aO hv with ⟨j,u,rfl,rfl⟩ | ⟨y,u,rfl,rfl⟩
   ·rw [yw] at h;exact wpAny_eqBool_int h
   ·rw [yA] at h;exact SeqAt.EqAt.int_str i t y u _ _ _ _ h
  ·rcases aO hv with ⟨j,u,rfl,rfl⟩ | ⟨y,u,rfl,rfl⟩
   ·rw [yB] at h;exact SeqAt.EqAt.str_int x t j u _ _ _ _ h
   ·rw [yz] at h;exact wpAny_eqBool_str h
 «strs» := fun k x t v h=>by
  rcases aO h with ⟨i,u,rfl,e⟩ | ⟨y,u,rfl,e⟩
  ·exact nomatch e
  ·injection e with e1 _
   subst e1
   cases v <;> rfl
theorem no (prog:Ep) (w:EM) (i:Int) (t:Tok):(aD prog w).is (.inl i) (.int i t)=true:=qt i t
theorem nr (prog:Ep) (w:EM) (x:Str) (t:Tok):(aD prog w).is (.inr x) (.str x t)=true:=qu x t
end
section
inductive V where
 | non | bl (b:Bool) | int (i:Int) | str (x:Str) | byt (b:Array UInt8) | flt (b:UInt64) | ref (a:Addr) | ty (n:String)
 deriving DecidableEq
noncomputable def RelV:V->h6->Prop
 | .non,u=>u=H4
 | .bl b,u=>u=Ld b
 | .int i,u => ∃ t,u=LP i t
 | .str x,u => ∃ t,u=LQ x t
 | .byt b,u => ∃ t,u=Value.bytes b t
 | .flt b,u => ∃ t,u=Value.float b t
 | .ref a,u=>u=Ff a
 | .ty n,u=>u=Fm n
noncomputable abbrev Vals:List V->List h6->Prop:=ES RelV
theorem Vals.length {xs:List V} {us:List h6} (r:Vals xs us):xs.length=us.length:=FZ r
theorem Vals.get:∀ {xs:List V} {us:List h6} {i:Nat} {x:V},Vals xs us->xs[i]? = some x -> ∃ u,us[i]? = some u/\RelV x u
 | _,_,_,_, .nil,e=>by simp at e
 | _,_,0,_, .cons r _,e=>by simp at e;subst e;exact ⟨_,rfl,r⟩
 | _,_,i+1,x, .cons _ t,e=>by
   obtain ⟨u,h1,h2⟩:=Vals.get (i:=i) (x:=x) t (by simpa using e)
   exact ⟨u,by simpa using h1,h2⟩
theorem Vals.set {x:V} {u:h6} (r:RelV x u):∀ {xs:List V} {us:List h6} (i:Nat),Vals xs us->Vals (xs.set i x) (us.set i u)
 | _,_,_, .nil => .nil
 | _,_,0, .cons _ t => .cons r t
 | _,_,i+1, .cons q t => .cons q (Vals.set r i t)
theorem Vals.append:∀ {xs ys:List V} {us ws:List h6},Vals xs us->Vals ys ws->Vals (xs++ys) (us++ws)
 | _,_,_,_, .nil,s=>s
 | _,_,_,_, .cons r t,s => .cons r (Vals.append t s)
theorem Vals.take:∀ {xs:List V} {us:List h6} (n:Nat),Vals xs us->Vals (xs.take n) (us.take n)
 | _,_,0,_ => .nil
 | _,_,_+1, .nil => .nil
 | _,_,n+1, .cons r t => .cons r (Vals.take n t)
theorem Vals.drop:∀ {xs:List V} {us:List h6} (n:Nat),Vals xs us->Vals (xs.drop n) (us.drop n)
 | _,_,0,r=>r
 | _,_,_+1, .nil => .nil
 | _,_,n+1, .cons _ t=>Vals.drop n t
noncomputable def RelO:Option V->Option h6->Prop
 | some v,some u=>RelV v u
 | none,none=>True
 | _,_=>False
noncomputable def KV {κ:Type}:List (κ × V)->List (κ × h6)->Prop:=ES fun (p : κ × V) (q : κ × h6)=>p.1=q.1/\RelV p.2 q.2
noncomputable def kV:Key->V
 | .inl i => .int i
 | .inr x => .str x
inductive HO where
 | lst (xs:List V)
 | tup (xs:List V)
 | dK (kvs:List (Key×V)) | dT (kvs:List (List Key×V))
 | set (S:Int->Bool) (n:Nat)
 | ins (C dx:Addr) (fs:List (Str×V))
 | own (x:Addr)
 | xd (fs:List (Str×V))
 | met (f x:Addr)
 | rng (lo hi:Int)
 | frz (o:Obj) (u:HO)
 | tbl (ps:Array h6)
 | ext (φ:Heap->Prop)
noncomputable abbrev Hp:=Addr->Option HO
noncomputable def upd (H:Hp) (a:Addr) (o:HO):Hp:=fun b=>if b=a then some o else H b
theorem av {H:Hp} {a:Addr} {o:HO}:upd H a o a=some o:=by unfold upd;rw [if_pos rfl]
theorem aj {H:Hp} {a b:Addr} {o:HO} (h:b≠a):upd H a o b=H b:=by unfold upd;rw [if_neg h]
theorem wu {H:Hp} {a:Addr} {o u:HO}:upd (upd H a o) a u=upd H a u:=by
 funext b;unfold upd;split <;> rfl
theorem oR {H:Hp} {a b:Addr} {o u:HO} (h:H a=some o) (h':H b=some u) (d:o≠u):a≠b:=by
 intro e;subst e;rw [h] at h';exact d (FO.inj h')
theorem aU {H:Hp} {a b:Addr} {o:HO} (h:H a=some o) (h':H b=none):a≠b:=by
 intro e;subst e;rw [h] at h';cases h'
section
variable (P:Ep) (w:EM)
noncomputable def ObjOk (H:Hp) (h:Heap) (a:Addr):HO->Prop
 | .lst xs=>xs.length<=DY /\ ∃ (its:List h6) (n:Nat),Vals xs its/\h.get? a=some { cls := .type "list",data := .seq its.toArray n }
 | .tup xs=>xs.length<=DY /\ ∃ its:List h6,Vals xs its/\IsTup h a its.toArray
 | .dK kvs=>kvs.length<=DY/\(a==FF)=false /\ ∃ vs,KV kvs vs/\h.DictOf (aD P w) a vs
 | .dT kvs=>kvs.length<=DY/\(a==FF)=false /\ ∃ xs:List (List Key×Addr×h6),
  ES (fun (p:List Key×V) (q:List Key×Addr×h6)=>p.1=q.1/\H q.2.1=some (.tup (p.1.map kV))/\RelV p.2 q.2.2) kvs xs /\
  ∃ o es ep,h.get? a=some o/\o.ExactDict/\o.data = .dict es ep/\es.toList=xs.map (entryOfKey (Hz (aD P w)))/\(xs.map (·.1)).Nodup
 | .set S n=>h.SetOf (intKind P w) a S n
 | .ins C dx fs=>H dx=some (.own a)/\fs.length<=1000/\dx≠a/\h.get? a=some (K6 C dx) /\
  ∃ mA,h.Ns1 dx mA/\(∀ f,RelO (fs.lookup f) (mA f))/\PySem.Within mA (fs.map (·.1))
 | .own _ => ∃ o,h.get? a=some o
 | .xd fs => ∃ mA,h.Ns1 a mA /\ ∀ f,RelO (fs.lookup f) (mA f)
 | .rng lo hi => ∃ t u v,h.get? a=some { cls := .type "range",data := .fields #[.int lo t, .int hi u, .int 1 v] }
 | .frz o u=>h.get? a=some o/\ObjOk H h a u
 | .tbl ps=>h.get? a=some { cls := .none,data := .fields ps }
 | .met f x=>h.get? a=some (Jp (.ref f) (.ref x))
 | .ext φ => φ h/\(∃ o,h.get? a=some o) /\ ∀ h1 h2:Heap, φ h1->(∀ o,h1.get? a=some o->h2.get? a=some o) -> φ h2
def HOk (H:Hp) (h:Heap):Prop := ∀ a o,H a=some o->ObjOk P w H h a o
end
section
variable {P:Ep} {w:EM} {H H':Hp} {h h':Heap} {a:Addr} {o:HO}
theorem ObjOk.lt (x:ObjOk P w H h a o):a < h.objs.size:=by
 cases o with
 | lst xs=>obtain ⟨_,_,_,_,e⟩:=x;exact E6 e
 | tup xs=>obtain ⟨_,_,_,p⟩:=x;exact p.lt
 | dK kvs=>obtain ⟨_,_,_,_,o,_,_,e,_⟩:=x;exact E6 e
 | dT kvs=>obtain ⟨_,_,_,_,o,_,_,e,_⟩:=x;exact E6 e
 | set S n=>obtain ⟨o,_,_,_,e,_⟩:=x;exact E6 e
 | ins C dx fs=>obtain ⟨_,_,_,e,_⟩:=x;exact E6 e
 | own y=>obtain ⟨_,e⟩:=x;exact E6 e
 | xd fs=>obtain ⟨_,⟨_,_,_,e,_⟩,_⟩:=x;exact E6 e
 | rng lo hi=>obtain ⟨_,_,_,e⟩:=x;exact E6 e
 | frz ob u=>obtain ⟨e,_⟩:=x;exact E6 e
 | tbl ps=>exact E6 (show h.get? a=some _ from x)
 | met f y=>exact E6 (show h.get? a=some _ from x)
 | ext φ => obtain ⟨_,⟨_,e⟩,_⟩:=x;exact E6 e
theorem Nq {α β:Type} {F G : α -> β -> Prop}:∀ {l₁:List α} {l₂:List β},ES F l₁ l₂ -> (∀ a b,F a b->G a b)->ES G l₁ l₂
 | _,_, .nil,_ => .nil
 | _,_, .cons r t,f => .cons (f _ _ r) (Nq t f)
theorem ObjOk.stay (x:ObjOk P w H h a o) (k:∀ b u,(b=a∨H b=some (.own a))->h.get? b=some u->h'.get? b=some u)
 (ho:∀ b,H b=some (.own a)->H' b=some (.own a)) (j:∀ b xs,H b=some (.tup xs)->H' b=some (.tup xs)):ObjOk P w H' h' a o:=by
 induction o with
 | lst xs=>obtain ⟨z,its,n,r,e⟩:=x;exact ⟨z,its,n,r,k _ _ (.inl rfl) e⟩
 | tup xs=>obtain ⟨z,its,r,ob,e,c⟩:=x;exact ⟨z,its,r,ob,k _ _ (.inl rfl) e,c⟩
 | dK kvs=>obtain ⟨z,y,vs,r,ob,es,ep,e,c⟩:=x;exact ⟨z,y,vs,r,ob,es,ep,k _ _ (.inl rfl) e,c⟩
 | dT kvs =>
   obtain ⟨z,y,xs,r,ob,es,ep,e,c⟩:=x;exact ⟨z,y,xs,Nq r fun p q z=>⟨z.1,j _ _ z.2.1,z.2.2⟩,ob,es,ep,k _ _ (.inl rfl) e,c⟩
 | set S n=>obtain ⟨ob,es,ep,t,e,c⟩:=x;exact ⟨ob,es,ep,t,k _ _ (.inl rfl) e,c⟩
 | ins C dx fs =>
   obtain ⟨d,z,ne,e,mA,⟨od,es,ep,B,c⟩,r⟩:=x;exact ⟨ho _ d,z,ne,k _ _ (.inl rfl) e,mA,⟨od,es,ep,k _ _ (.inr d) B,c⟩,r⟩
 | own y=>obtain ⟨ob,e⟩:=x;exact ⟨ob,k _ _ (.inl rfl) e⟩
 | xd fs=>obtain ⟨mA,⟨od,es,ep,e,c⟩,r⟩:=x;exact ⟨mA,⟨od,es,ep,k _ _ (.inl rfl) e,c⟩,r⟩
 | rng lo hi=>obtain ⟨t,u,v,e⟩:=x;exact ⟨t,u,v,k _ _ (.inl rfl) e⟩
 | frz ob u ih=>obtain ⟨e,q⟩:=x;exact ⟨k _ _ (.inl rfl) e,ih q⟩
 | tbl ps =>
   have e:h.get? a=some { cls := .none,data := .fields ps }:=x;show h'.get? a=some { cls := .none,data := .fields ps };exact k a _ (.inl rfl) e
 | met f y =>
   have e:h.get? a=some (Jp (.ref f) (.ref y)):=x;show h'.get? a=some (Jp (.ref f) (.ref y));exact k a _ (.inl rfl) e
 | ext φ => obtain ⟨p,⟨o,e⟩,st⟩:=x;exact ⟨st _ _ p fun o q=>k _ _ (.inl rfl) q,⟨o,k _ _ (.inl rfl) e⟩,st⟩
theorem HOk.lt (x:HOk P w H h) (e:H a=some o):a < h.objs.size:=(x a o e).lt
theorem HOk.fresh (x:HOk P w H h) (e:h.objs.size<=a):H a=none:=by
 cases q:H a with
 | none=>rfl
 | some u=>exact absurd (EA (x.lt q) e) (Fx _)
theorem HOk.kept (x:HOk P w H h) (k:∀ b u,h.get? b=some u->h'.get? b=some u):HOk P w H h':=fun a o e =>
 (x a o e).stay (fun b u _ q=>k b u q) (fun _ q=>q) fun _ _ q=>q
theorem HOk.laid (x:HOk P w H h) (k:∀ b u,h.get? b=some u->h'.get? b=some u) (z:h.objs.size<=a) (new:ObjOk P w (upd H a o) h' a o):HOk P w (upd H a o) h':=fun b u e=>by
 have j:=x.fresh z
 by_cases hb:b=a
 ·subst hb;rw [av] at e;cases e;exact new
 ·rw [aj hb] at e;exact (x b u e).stay (fun c v _ q=>k c v q) (fun c q=>by rw [aj (aU q j)];exact q) fun c xs q=>by rw [aj (aU q j)];exact q
end
def Rd (H:Hp) (a:Addr) (u:HO):Prop:=H a=some u ∨ ∃ o,H a=some (.frz o u)
theorem Rd.of {H:Hp} {a:Addr} {u:HO} (h:H a=some u):Rd H a u := .inl h
theorem Rd.ok {P:Ep} {w:EM} {H:Hp} {h:Heap} {a:Addr} {u:HO} (r:Rd H a u) (x:HOk P w H h):ObjOk P w H h a u:=by
 rcases r with r | ⟨o,r⟩
 ·exact x a u r
 ·obtain ⟨_,q⟩:=x a _ r;exact q
noncomputable def Mut:Option HO->Prop
 | some (.lst _)=>True
 | some (.dK _)=>True
 | some (.dT _)=>True
 | some (.set _ _)=>True
 | some (.ins _ _ _)=>True
 | some (.ext _)=>True
 | _=>False
section
variable {P:Ep} {w:EM} {H:Hp} {h h':Heap} {x e:Addr} {o':HO}
theorem HOk.write (ok:HOk P w H h) (mu:Mut (H x)) (he:e=x∨H e=some (.own x)) (k:∀ b u,b≠e->h.get? b=some u->h'.get? b=some u) (F:∃ u,h'.get? e=some u)
 (new:ObjOk P w (upd H x o') h' x o'):HOk P w (upd H x o') h':=fun b u q=>by
 have nown:∀ c y,H c=some (.own y)->c≠x:=fun c y r z=>by subst z;rw [r] at mu;exact mu
 have ntup:∀ c xs,H c=some (.tup xs)->c≠x:=fun c xs r z=>by subst z;rw [r] at mu;exact mu
 by_cases hb:b=x
 ·subst hb;rw [av] at q;cases q;exact new
 ·rw [aj hb] at q
  by_cases j:b=e
  ·have q':H b=some (.own x):=by
    rcases he with z | z
    ·exact absurd (j.trans z) hb
    ·rw [j];exact z
   rw [q] at q';cases q';obtain ⟨v,G⟩:=F;exact ⟨v,by rw [j];exact G⟩
  ·refine (ok b u q).stay (fun c v B r=>k c v ?_ r) (fun c r=>by rw [aj (nown c b r)];exact r) fun c xs r=>by rw [aj (ntup c xs r)];exact r
   rcases B with rfl | B
   ·exact j
   ·rintro rfl
    rcases he with z | z
    ·exact nown c b B z
    ·rw [B] at z;cases z;exact hb rfl
end
structure Un (fs ex:List Addr) (H H':Hp) (h h':Heap):Prop where
 keep:∀ b o,h.get? b=some o->H b=none->b∉fs->b∉ex->h'.get? b=some o
 slot:∀ b o,h.get? b=some o->H b=none->b∈fs->b∉ex -> ∃ sl,h'.get? b=some { o with slots:=sl }
 free:∀ b o,h.get? b=some o->H b=none->b∉ex->H' b=none
 there:∀ b o,h.get? b=some o->b∉ex -> ∃ o',h'.get? b=some o'
 tups:∀ b xs,H b=some (.tup xs)->H' b=some (.tup xs)
 frzs:∀ b o u,H b=some (.frz o u)->H' b=some (.frz o u)
 tbls:∀ b ps,H b=some (.tbl ps) -> ∃ more,H' b=some (.tbl (ps++more))
section
variable {fs fs' ex ex':List Addr} {H H1 H2:Hp} {h h1 h2 h':Heap} {a x e:Addr} {o:HO}
theorem Un.any (u:Un fs ex H H1 h h1) {b:Addr} {ob:Obj} (q:h.get? b=some ob) (n:H b=none) (hx:b∉ex):∃ sl,h1.get? b=some { ob with slots:=sl }:=by
 by_cases j:b∈fs
 ·exact u.slot b ob q n j hx
 ·exact ⟨ob.slots,u.keep b ob q n j hx⟩
theorem Un.kept (k:∀ b u,h.get? b=some u->h'.get? b=some u):Un fs ex H H h h' :=
 ⟨fun b ob q _ _ _=>k b ob q,fun b ob q _ _ _=>⟨ob.slots,k b ob q⟩,fun _ _ _ n _=>n,fun b ob q _=>⟨ob,k b ob q⟩,fun _ _ q=>q,fun _ _ _ q=>q,fun _ ps q=>⟨#[],by rw [q];simp⟩⟩
theorem Un.refl:Un fs ex H H h h:=Un.kept fun _ _ q=>q
theorem Un.laid (k:∀ b u,h.get? b=some u->h'.get? b=some u) (z:h.objs.size<=a) (j:H a=none):Un fs ex H (upd H a o) h h' where
 keep:=fun b u q _ _ _=>k b u q
 slot:=fun b u q _ _ _=>⟨u.slots,k b u q⟩
 free:=fun b u q n _=>by rw [aj (EJ (EA (E6 q) z))];exact n
 there:=fun b u q _=>⟨u,k b u q⟩
 tups:=fun b xs q=>by rw [aj (aU q j)];exact q
 frzs:=fun b u xs q=>by rw [aj (aU q j)];exact q
 tbls:=fun b ps q=>⟨#[],by rw [aj (aU q j),q];simp⟩
theorem Un.write (mu:Mut (H x)) (he:e=x∨H e=some (.own x)) (k:∀ b u,b≠e->h.get? b=some u->h'.get? b=some u) (B:∃ u,h'.get? e=some u):Un fs ex H (upd H x o) h h':=by
 have hx:∀ b,H b=none->b≠x:=fun b n z=>by subst z;rw [n] at mu;exact mu
 have F:∀ b,H b=none->b≠e:=fun b n z=>by
  subst z
  rcases he with r | r
  ·exact hx b n r
  ·rw [n] at r;cases r
 have hm:∀ b u,H b=some u -> ¬ Mut (some u)->b≠x:=fun b u q nm z=>by subst z;rw [q] at mu;exact nm mu
 refine ⟨fun b u q n _ _=>k b u (F b n) q,fun b u q n _ _=>⟨u.slots,k b u (F b n) q⟩,fun b u q n _=>by rw [aj (hx b n)];exact n,fun b u q _ => ?_,
  fun b xs q=>by rw [aj (hm b _ q fun z=>z)];exact q,fun b u xs q=>by rw [aj (hm b _ q fun z=>z)];exact q,fun b ps q=>⟨#[],by rw [aj (hm b _ q fun z=>z),q];simp⟩⟩
 by_cases j:b=e
 ·subst j;exact B
 ·exact ⟨u,k b u j q⟩
end
noncomputable def trk (h:Heap) (H:Hp):List Addr:=(Ei h.objs.size).filter fun a=>(H a).isSome
noncomputable def ef (h:Heap) (H:Hp):Heap:=PySem.W.hideAll h (trk h H)
theorem qv (h:Heap) (H:Hp):(ef h H).objs.size=h.objs.size:=PySem.W.hideAll_size _ _
theorem tL {h:Heap} {H:Hp} {b:Addr} {o:Obj} (e:h.get? b=some o) (n:H b=none):(ef h H).get? b=some o :=
 PySem.W.hideAll_get _ e fun hm=>by
  have q:(H b).isSome=true:=(Gz.mp hm).2;rw [n] at q;simp at q
theorem wv {h:Heap} {H:Hp} {b:Addr} {o:Obj} (e:(ef h H).get? b=some o):h.get? b=some o/\H b=none:=by
 have e':h.get? b=some o:=PySem.W.of_hideAll (trk h H) e;refine ⟨e', ?_⟩
 cases q:H b with
 | none=>rfl
 | some x =>
   have hm:b∈trk h H:=Gz.mpr ⟨GQ.mpr (E6 e'),by simp [q]⟩
   have z:(ef h H).get? b=none:=PySem.W.hideAll_none (trk h H) hm;rw [z] at e;cases e
noncomputable def ww (g h:Heap) (L:Addr):List (Addr×Obj):=(Ei h.objs.size).filterMap fun a=>if a=L∨(g.get? a).isSome=true then none else (h.get? a).map fun o=>(a,o)
noncomputable def rest (g h:Heap) (L d:Addr):List (Addr×Obj):=(ww g h L).filter fun p=>decide (p.1≠d)
end
section
structure Mod (K:Frag) (mg:Str->Option h6) (base:Heap):Prop where
 kin:K.In base
 glob:base.Ns Fn mg
 blt:∃ mb,base.Ns MV mb /\ ∀ x:Str,x ≠ "__name__" -> mb x=H8 x
 nolimit:base.NoLimit
structure Cx where
 prog:Ep
 w:EM
 K:Frag
 mg:Str->Option h6
 base:Heap
 A:F5
 N:List Str
 s₀:hH
 H₀:Hp
 env:Env
 outer:List Env
 stack:List Env
 ex:List Addr
 fn:Str->Bool
 calm:Bool
 pn:List (Addr×Obj)
 xe:h6->hH->Prop
noncomputable def frs (l:List Env):List Addr:=l.filterMap (·.frame)
noncomputable abbrev Cx.fs (X:Cx):List Addr:=frs X.outer
def Vis (sc:Scope) (x:Str):Prop:=sc.names.lookup x=some .local∨sc.names.lookup x=some .cell∨sc.names.lookup x=some .free
def Loc (sc:Scope) (x:Str):Prop:=sc.names.lookup x=some .local∨sc.names.lookup x=some .cell
def Bd (env:Env) (h:Heap) (m:Str->Option h6) (x:Str) (u:h6):Prop :=
 (env.kindOf x=some .local/\m x=some u)∨((env.kindOf x=some .cell∨env.kindOf x=some .free) /\ ∃ c,env.cells.lookup x=some c/\h.IsCell c (some u))
structure Cx.Ok (X:Cx):Prop where
 mod:Mod X.K X.mg X.base
 kind:X.env.scope.kind = .function
 glob:X.env.globals=Fn
 blt:X.env.builtins=MV
 above:X.s₀.heap.objs.size<=X.env.locals
 inj:∀ x y c,X.env.cells.lookup x=some c->X.env.cells.lookup y=some c->x=y
 has:∀ x,(X.env.kindOf x=some .cell∨X.env.kindOf x=some .free) -> ∃ c,X.env.cells.lookup x=some c
 cab:∀ x c,X.fn x=true->X.env.cells.lookup x=some c->X.s₀.heap.objs.size<=c
 hd:X.calm=true->X.A.handled=none
 frames:X.A.frames=some X.stack
 stk:X.stack=X.outer∨(X.stack=X.env::X.outer/\X.env.frame=some X.env.locals)
 exf:∀ b∈X.ex,b≠X.env.locals /\ ∀ x c,X.env.cells.lookup x=some c->c≠b
 bs:∀ b o,X.base.get? b=some o->X.s₀.heap.get? b=some o/\X.H₀ b=none
 bsz:X.base.objs.size<=X.s₀.heap.objs.size
 noex:∀ b o,X.base.get? b=some o->b∉X.ex
 exfs:∀ b∈X.ex,b∉X.fs
 funs:X.s₀.heap.FunFrames X.base X.outer
 frf:∀ b∈X.fs,X.H₀ b=none
structure Inv (X:Cx) (pins:List (Addr×Obj)) (σ:List (Option V)) (H:Hp) (s:hH):Prop where
 ok:X.Ok
 os:s.os=X.s₀.os
 bare:Jq s.gens
 base:Un X.fs X.ex X.H₀ H X.s₀.heap s.heap
 loc:∃ m,s.heap.Ns X.env.locals m /\ ∀ (i:Nat) (x:Str) (v:V),X.N[i]? = some x -> σ[i]? = some (some v)->Vis X.env.scope x -> ∃ u,RelV v u/\Bd X.env s.heap m x u
 cell:∀ x c,X.env.cells.lookup x=some c -> ∃ v,s.heap.IsCell c v
 free:H X.env.locals=none
 freeC:∀ x c,X.env.cells.lookup x=some c->H c=none
 pin:∀ p∈X.pn++pins,s.heap.get? p.1=some p.2/\H p.1=none/\p.1≠X.env.locals/\p.1∉X.fs /\ ∀ v,p.2.data ≠ .cell v
 hok:HOk X.prog X.w H s.heap
 len : σ.length=X.N.length
section
variable {X:Cx} {pins:List (Addr×Obj)} {σ:List (Option V)} {H H':Hp} {s:hH} {h':Heap}
theorem Cx.Ok.nofr (ok:X.Ok) {b:Addr} {o:Obj} (e:X.base.get? b=some o):b∉X.fs:=fun j=>by
 have:=(ok.funs.mem j).1;rw [e] at this;cases this
theorem Inv.bs (I:Inv X pins σ H s):∀ b o,X.base.get? b=some o->s.heap.get? b=some o/\H b=none:=fun b o e =>
 ⟨I.base.keep b o (I.ok.bs b o e).1 (I.ok.bs b o e).2 (I.ok.nofr e) (I.ok.noex b o e),I.base.free b o (I.ok.bs b o e).1 (I.ok.bs b o e).2 (I.ok.noex b o e)⟩
theorem Inv.bk (I:Inv X pins σ H s):∀ b o,X.base.get? b=some o->s.heap.get? b=some o:=fun b o e=>(I.bs b o e).1
theorem Inv.mod (I:Inv X pins σ H s):Mod X.K X.mg X.base:=I.ok.mod
theorem Inv.kIn (I:Inv X pins σ H s):X.K.In s.heap:=I.ok.mod.kin.keeps I.bk
theorem Inv.lt (I:Inv X pins σ H s):X.env.locals < s.heap.objs.size:=let ⟨_,j,_⟩:=I.loc;j.lt
theorem Inv.sz (I:Inv X pins σ H s):X.s₀.heap.objs.size<=s.heap.objs.size:=ET I.ok.above (HA I.lt)
theorem Inv.nofs (I:Inv X pins σ H s) {a:Addr} (h:s.heap.objs.size<=a):a∉X.fs:=fun j=>by
 obtain ⟨_,o,ho,_⟩:=I.ok.funs.mem j;exact absurd (EA (E6 ho) (ET I.sz h)) (Fx _)
theorem Inv.cne (I:Inv X pins σ H s):∀ x c,X.env.cells.lookup x=some c->c≠X.env.locals:=fun x c e z=>by
 obtain ⟨v,o,ho,hd⟩:=I.cell x c e;obtain ⟨m,⟨o',es,ep,j,q,_⟩,_⟩:=I.loc;rw [z,j] at ho;cases ho;rw [q] at hd;cases hd
theorem Inv.funs (I:Inv X pins σ H s):s.heap.FunFrames X.base X.outer:=by
 have all:∀ (l:List Env),(∀ b∈frs l,b∈X.fs)->X.s₀.heap.FunFrames X.base l->s.heap.FunFrames X.base l:=by
  intro l
  induction l with
  | nil=>intro _ _;trivial
  | cons env r ih =>
    intro hs B;obtain ⟨F,⟨L,o,hf,G,ho,hd⟩,J⟩:=B;have j:L∈X.fs:=hs L (by unfold frs;rw [IY,hf];exact Ef)
    obtain ⟨sl,e⟩:=I.base.slot L o ho (I.ok.frf L j) j fun z=>I.ok.exfs L z j;exact ⟨F,⟨L,_,hf,G,e,hd⟩,ih (fun b q=>hs b (by unfold frs;rw [IY,hf];exact E7 _ q)) J⟩
 exact all X.outer (fun _ q=>q) I.ok.funs
theorem Inv.stack (I:Inv X pins σ H s):s.heap.FunFrames X.base X.stack:=by
 rcases I.ok.stk with e | ⟨e,hf⟩
 ·rw [e];exact I.funs
 ·rw [e];obtain ⟨m,j,_⟩:=I.loc;refine .cons (by rw [I.ok.kind];decide) hf j ?_ I.funs
  exact Heap.get?_none_of_le (ET I.ok.bsz I.ok.above)
theorem Inv.stkSub (I:Inv X pins σ H s):∀ b∈frs X.stack,b∈X.env.locals::X.fs:=fun b j=>by
 rcases I.ok.stk with e | ⟨e,hf⟩
 ·rw [e] at j;exact E7 _ j
 ·rw [e] at j;unfold frs at j;rw [IY,hf] at j;exact j
theorem Inv.stkFree (I:Inv X pins σ H s):∀ b∈frs X.stack,H b=none:=fun b j=>by
 rcases Eb.mp (I.stkSub b j) with e | j
 ·rw [e];exact I.free
 ·obtain ⟨_,o,ho,_⟩:=I.ok.funs.mem j;exact I.base.free b o ho (I.ok.frf b j) fun z=>I.ok.exfs b z j
theorem Inv.step {g':Array GenState} {t':Nat} {d':Drawn} {ch:List Addr} (I:Inv X pins σ H s)
 (j:∀ b∈ch,(b∈X.ex∨X.s₀.heap.objs.size<=b)/\b≠X.env.locals/\(∀ x c,X.env.cells.lookup x=some c->c≠b) /\ ∀ p∈X.pn++pins,p.1≠b)
 (keep:∀ b o,b≠X.env.locals->b∉X.fs->b∉ch->s.heap.get? b=some o->H b=none->h'.get? b=some o)
 (slot:∀ b o,b≠X.env.locals->b∈X.fs->b∉ch->s.heap.get? b=some o->H b=none -> ∃ sl,h'.get? b=some { o with slots:=sl }) (free:∀ b o,b∉ch->s.heap.get? b=some o->H b=none->H' b=none)
 (there:∀ b o,b∉ch->s.heap.get? b=some o -> ∃ o',h'.get? b=some o')
 (tups:∀ b xs,H b=some (.tup xs)->H' b=some (.tup xs)) (frzs:∀ b o u,H b=some (.frz o u)->H' b=some (.frz o u)) (tbls:∀ b ps,H b=some (.tbl ps) -> ∃ more,H' b=some (.tbl (ps++more)))
 (ns:∀ m,s.heap.Ns X.env.locals m->h'.Ns X.env.locals m) (hok:HOk X.prog X.w H' h') (O:Jq g') :
 Inv X pins σ H' { s with heap:=h',gens:=g',drawn:=d',toks:=t' }:=by
 have neL:∀ b o,X.s₀.heap.get? b=some o->b≠X.env.locals:=fun b o e=>EJ (EA (E6 e) I.ok.above);have neC:∀ b o,X.s₀.heap.get? b=some o->b∉X.ex->b∉ch:=fun b o e hx F=>by
  rcases (j b F).1 with z | z
  ·exact hx z
  ·exact absurd (EA (E6 e) z) (Fx _)
 have cellK:∀ x c,X.env.cells.lookup x=some c -> ∀ v,s.heap.IsCell c v->h'.IsCell c v:=fun x c e v ⟨o,ho,hd⟩=>by
  have nch:c∉ch:=fun z=>(j c z).2.2.1 x c e rfl
  by_cases J:c∈X.fs
  ·obtain ⟨sl,q⟩:=slot c o (I.cne x c e) J nch ho (I.freeC x c e);exact ⟨_,q,hd⟩
  ·exact ⟨o,keep c o (I.cne x c e) J nch ho (I.freeC x c e),hd⟩
 refine ⟨I.ok,I.os,O,⟨fun b o e n F hx => ?_,fun b o e n F hx => ?_,fun b o e n hx => ?_,fun b o e hx => ?_,fun b xs e=>tups b xs (I.base.tups b xs e),fun b o xs e=>frzs b o xs (I.base.frzs b o xs e),fun b ps e => ?_⟩, ?_,fun x c e => ?_, ?_,fun x c e => ?_,fun p L => ?_,hok,I.len⟩
 ·exact keep b o (neL b o e) F (neC b o e hx) (I.base.keep b o e n F hx) (I.base.free b o e n hx)
 ·obtain ⟨sl,B⟩:=I.base.slot b o e n F hx;obtain ⟨sl',G⟩:=slot b _ (neL b o e) F (neC b o e hx) B (I.base.free b o e n hx);exact ⟨sl',G⟩
 ·obtain ⟨o',B⟩:=I.base.there b o e hx;exact free b o' (neC b o e hx) B (I.base.free b o e n hx)
 ·obtain ⟨o',B⟩:=I.base.there b o e hx;exact there b o' (neC b o e hx) B
 ·obtain ⟨U,B⟩:=I.base.tbls b ps e;obtain ⟨Y,G⟩:=tbls b _ B;exact ⟨U++Y,by rw [G,Array.append_assoc]⟩
 ·obtain ⟨m,Z,hl⟩:=I.loc;refine ⟨m,ns m Z,fun i x v B G e3 => ?_⟩;obtain ⟨u,r,l⟩:=hl i x v B G e3;refine ⟨u,r, ?_⟩
  rcases l with l | ⟨k,c,e,z⟩
  ·exact .inl l
  ·exact .inr ⟨k,c,e,cellK x c e _ z⟩
 ·obtain ⟨v,z⟩:=I.cell x c e;exact ⟨v,cellK x c e v z⟩
 ·obtain ⟨m,⟨o,_,_,ho,_⟩,_⟩:=I.loc;exact free _ o (fun z=>(j _ z).2.1 rfl) ho I.free
 ·obtain ⟨v,o,ho,hd⟩:=I.cell x c e;exact free c o (fun z=>(j c z).2.2.1 x c e rfl) ho (I.freeC x c e)
 ·obtain ⟨e,n,ne,nf,d⟩:=I.pin p L;have nch:p.1∉ch:=fun z=>(j p.1 z).2.2.2 p L rfl;exact ⟨keep p.1 p.2 ne nf nch e n,free p.1 p.2 nch e n,ne,nf,d⟩
theorem Inv.un {t':Nat} (I:Inv X pins σ H s) (u:Un X.fs [] H H' s.heap h') (hok:HOk X.prog X.w H' h'):Inv X pins σ H' { s with heap:=h',toks:=t' }:=by
 obtain ⟨m,⟨o,es,ep,ho,r⟩,_⟩:=id I.loc;obtain ⟨sl,B⟩:=u.any ho I.free (by simp)
 exact I.step (g':=s.gens) (d':=s.drawn) (ch := []) (fun _ z=>nomatch z) (fun b o _ q _ e n=>u.keep b o e n q (by simp)) (fun b o _ q _ e n=>u.slot b o e n q (by simp)) (fun b o _ e n=>u.free b o e n (by simp)) (fun b o _ e=>u.there b o e (by simp)) u.tups u.frzs u.tbls (fun m' hm=>by
  obtain ⟨o',es',ep',j,r'⟩:=hm;rw [ho] at j;cases j;exact ⟨_,es',ep',B,r'⟩) hok I.bare
theorem Inv.call {g':Array GenState} {t':Nat} {d':Drawn} {ch:List Addr} (I:Inv X pins σ H s) (u:Un (frs X.stack) ch H H' s.heap h') (hok:HOk X.prog X.w H' h') (G:Jq g')
 (q:∀ b∈ch,(b∈X.ex∨X.s₀.heap.objs.size<=b)/\b≠X.env.locals/\(∀ x c,X.env.cells.lookup x=some c->c≠b) /\ ∀ p∈X.pn++pins,p.1≠b) :
 Inv X pins σ H' { s with heap:=h',gens:=g',drawn:=d',toks:=t' }:=by
 obtain ⟨m,⟨o,es,ep,ho,r⟩,_⟩:=id I.loc;obtain ⟨sl,F⟩:=u.any ho I.free fun z=>(q _ z).2.1 rfl;exact I.step (ch:=ch) q (fun b o F J j e n=>u.keep b o e n (fun z=>(Eb.mp (I.stkSub b z)).elim F J) j) (fun b o _ _ j e n=>u.any e n j) (fun b o j e n=>u.free b o e n j) (fun b o j e=>u.there b o e j) u.tups u.frzs u.tbls (fun m' hm=>by
  obtain ⟨o',es',ep',B,r'⟩:=hm;rw [ho] at B;cases B;exact ⟨_,es',ep',F,r'⟩) hok G
theorem Inv.turned {t':Nat} {it:Addr} (I:Inv X pins σ H s) (k:∀ b o,b≠it->s.heap.get? b=some o->h'.get? b=some o) (F:H it=none) (B:it≠X.env.locals)
 (h1:it∈X.ex∨X.s₀.heap.objs.size<=it) (h2:∀ x c,X.env.cells.lookup x=some c->c≠it) (G:∀ p∈X.pn++pins,p.1≠it):Inv X pins σ H { s with heap:=h',toks:=t' }:=by
 have nit:∀ b u,H b=some u->b≠it:=fun b u e z=>by rw [z,F] at e;cases e
 refine I.step (g':=s.gens) (d':=s.drawn) (ch := [it]) (fun b J => ?_) (fun b o _ _ j e _=>k b o (fun z=>j (by simp [z])) e) (fun b o _ _ j e _=>⟨o.slots,k b o (fun z=>j (by simp [z])) e⟩) (fun _ _ _ _ n=>n)
  (fun b o j e=>⟨o,k b o (fun z=>j (by simp [z])) e⟩) (fun _ _ e=>e) (fun _ _ _ e=>e) (fun b ps e=>⟨#[],by rw [e];simp⟩) (fun m hm => ?_) (fun b u e => ?_) I.bare
 ·have e:b=it:=by simpa using J
  subst e;exact ⟨h1,B,h2,G⟩
 ·obtain ⟨o,es,ep,ho,r⟩:=hm;exact ⟨o,es,ep,k _ o (Ne.symm B) ho,r⟩
 ·refine (I.hok b u e).stay (fun c v j q=>k c v ?_ q) (fun _ q=>q) fun _ _ q=>q
  rcases j with z | z
  ·rw [z];exact nit b u e
  ·exact nit c _ z
theorem Inv.tok (I:Inv X pins σ H s) (t:Nat):Inv X pins σ H { s with toks:=t }:=I.un (h':=s.heap) (t':=t) Un.refl I.hok
theorem Inv.kept {t':Nat} (I:Inv X pins σ H s) (k:∀ b u,s.heap.get? b=some u->h'.get? b=some u):Inv X pins σ H { s with heap:=h',toks:=t' }:=I.un (Un.kept k) (I.hok.kept k)
theorem Inv.laid {a:Addr} {o:HO} {t':Nat} (I:Inv X pins σ H s) (k:∀ b u,s.heap.get? b=some u->h'.get? b=some u) (j:s.heap.objs.size<=a) (new:ObjOk X.prog X.w (upd H a o) h' a o) :
 Inv X pins σ (upd H a o) { s with heap:=h',toks:=t' }:=I.un (Un.laid k j (I.hok.fresh j)) (I.hok.laid k j new)
theorem Inv.write {x e:Addr} {o:HO} {t':Nat} (I:Inv X pins σ H s) (mu:Mut (H x)) (he:e=x∨H e=some (.own x)) (k:∀ b u,b≠e->s.heap.get? b=some u->h'.get? b=some u) (j:∃ u,h'.get? e=some u)
 (new:ObjOk X.prog X.w (upd H x o) h' x o):Inv X pins σ (upd H x o) { s with heap:=h',toks:=t' }:=I.un (Un.write mu he k j) (I.hok.write mu he k j new)
theorem Inv.pins_of {pins':List (Addr×Obj)} (I:Inv X pins σ H s) (h:∀ p∈pins',s.heap.get? p.1=some p.2/\H p.1=none/\p.1≠X.env.locals/\p.1∉X.fs /\ ∀ v,p.2.data ≠ .cell v):Inv X pins' σ H s :=
 ⟨I.ok,I.os,I.bare,I.base,I.loc,I.cell,I.free,I.freeC,fun p j=>(Ea.mp j).elim (fun z=>I.pin p (Fo _ z)) (h p),I.hok,I.len⟩
theorem kA {N:List Str} (q:N.Nodup) {i j:Nat} {x:Str} (a:N[i]? = some x) (b:N[j]? = some x):i=j:=by
 obtain ⟨h1,z⟩:=DZ.mp a;obtain ⟨h2,B⟩:=DZ.mp b;exact (List.getElem_inj q).mp (z.trans B.symm)
theorem qw {M:IE} {A:F5} {E:h6->hH->Prop} {i:Nat} {x:Str} {v:V} {u:h6} {Q:Unit->hH->Prop} (I:Inv X pins σ H s) (hN:X.N.Nodup) (hi:X.N[i]? = some x) (hx:Loc X.env.scope x) (r:RelV v u)
 (h:∀ s',Inv X pins (σ.set i (some v)) H s'->(∃ a,Fz a s.heap s'.heap/\(a=X.env.locals∨X.env.cells.lookup x=some a))->Q () s') (hf:X.fn x=true∨X.env.scope.names.lookup x=some .local:=by first | exact .inl rfl | exact .inr rfl | assumption):Ec M A (storeName X.env x u) Q E s:=by
 obtain ⟨m,hn,hl⟩:=id I.loc;have Z:(X.env.scope.kind == .class || (X.env.scope.kind == .module&&X.env.locals != X.env.globals))=false:=by rw [I.ok.kind];rfl
 have BJ:i < σ.length:=by rw [I.len];exact (DZ.mp hi).1
 have cne:=I.cne;have tracked:∀ {a:Addr} {h':Heap},(∃ o,s.heap.get? a=some o/\H a=none)->Fz a s.heap h'->HOk X.prog X.w H h':=fun {a h'} ha hs b ob e=>by
  obtain ⟨_,_,G⟩:=ha;refine (I.hok b ob e).stay (fun c w' F q=>(hs.2 c ?_).trans q) (fun _ q=>q) fun _ _ q=>q;rintro rfl
  rcases F with rfl | F
  ·rw [G] at e;cases e
  ·rw [G] at F;cases F
 rcases hx with L | L
 ·refine wpAny_storeName_local L hn (fun h' BO hs => ?_) Z;obtain ⟨oL,_,_,BP,_⟩:=id hn;refine h _ ⟨I.ok,I.os,I.bare,⟨fun b o e n O hx => ?_,fun b o e n O hx => ?_,I.base.free,fun b o e hx => ?_,I.base.tups,I.base.frzs,I.base.tbls⟩,⟨_,BO,fun j y v' B J e3 => ?_⟩,fun y c e => ?_,I.free,I.freeC,fun p hp => ?_,tracked ⟨oL,BP,I.free⟩ hs,by simpa using I.len⟩ ⟨_,hs, .inl rfl⟩
  ·exact (hs.2 b (EJ (EA (E6 e) I.ok.above))).trans (I.base.keep b o e n O hx)
  ·obtain ⟨sl,B⟩:=I.base.slot b o e n O hx;exact ⟨sl,(hs.2 b (EJ (EA (E6 e) I.ok.above))).trans B⟩
  ·obtain ⟨o',B⟩:=I.base.there b o e hx;exact ⟨o',(hs.2 b (EJ (EA (E6 e) I.ok.above))).trans B⟩
  ·by_cases U:j=i
   ·subst U;rw [hi] at B;cases B;rw [Gm BJ] at J
    cases J
    exact ⟨u,r, .inl ⟨L,by simp⟩⟩
   ·rw [Hv (Ne.symm U)] at J;obtain ⟨u',r',q⟩:=hl j y v' B J e3;refine ⟨u',r', ?_⟩
    rcases q with ⟨k,e⟩ | ⟨k,c,e,z⟩
    ·refine .inl ⟨k, ?_⟩;have:y≠x:=fun e=>U (kA hN B (e ▸ hi));simp [this,e]
    ·exact .inr ⟨k,c,e,z.sameBut hs (cne y c e)⟩
  ·obtain ⟨w',z⟩:=I.cell y c e;exact ⟨w',z.sameBut hs (cne y c e)⟩
  ·obtain ⟨e,n,ne,nf,d⟩:=I.pin p hp;exact ⟨(hs.2 p.1 ne).trans e,n,ne,nf,d⟩
 ·have Y:X.fn x=true:=by
   rcases hf with z | z
   ·exact z
   ·rw [z] at L;cases L
  obtain ⟨c,F⟩:=I.ok.has x (.inl L);obtain ⟨w',z⟩:=I.cell x c F;refine wpAny_storeName_cell I.ok.kind L F z (fun h' BK hs => ?_);obtain ⟨oc,BL,BM⟩:=id z;refine h { s with heap:=h' } ⟨I.ok,I.os,I.bare,⟨fun b o e n O hx => ?_,fun b o e n O hx => ?_,I.base.free,fun b o e hx => ?_,I.base.tups,I.base.frzs,I.base.tbls⟩,⟨m,hn.sameBut hs (Ne.symm (cne x c F)),fun j y v' B J e3 => ?_⟩,fun y c' e => ?_,I.free,I.freeC,fun p hp => ?_,tracked ⟨oc,BL,I.freeC x c F⟩ hs,by simpa using I.len⟩ ⟨c,hs, .inr F⟩
  ·exact (hs.2 b (EJ (EA (E6 e) (I.ok.cab x c Y F)))).trans (I.base.keep b o e n O hx)
  ·obtain ⟨sl,B⟩:=I.base.slot b o e n O hx;exact ⟨sl,(hs.2 b (EJ (EA (E6 e) (I.ok.cab x c Y F)))).trans B⟩
  ·obtain ⟨o',B⟩:=I.base.there b o e hx;exact ⟨o',(hs.2 b (EJ (EA (E6 e) (I.ok.cab x c Y F)))).trans B⟩
  ·by_cases U:j=i
   ·subst U;rw [hi] at B;cases B;rw [Gm BJ] at J
    cases J
    exact ⟨u,r, .inr ⟨.inl L,c,F,BK⟩⟩
   ·rw [Hv (Ne.symm U)] at J;obtain ⟨u',r',q⟩:=hl j y v' B J e3;refine ⟨u',r', ?_⟩
    rcases q with q | ⟨k,c',e,z'⟩
    ·exact .inl q
    ·refine .inr ⟨k,c',e,z'.sameBut hs ?_⟩;rintro rfl;exact U (kA hN B (I.ok.inj _ _ _ e F ▸ hi))
  ·by_cases BN:c'=c
   ·subst BN;exact ⟨_,BK⟩
   ·obtain ⟨w2,z2⟩:=I.cell y c' e;exact ⟨w2,z2.sameBut hs BN⟩
  ·obtain ⟨e,n,ne,nf,d⟩:=I.pin p hp;refine ⟨(hs.2 p.1 ?_).trans e,n,ne,nf,d⟩;intro q;rw [q,BL] at e;have q':oc=p.2:=FO.inj e;exact d w' (by rw [<- q'];exact BM)
theorem gC {M:IE} {A:F5} {E:h6->hH->Prop} {i:Nat} {x:Str} {v:V} {u:h6} {Q:Unit->hH->Prop} (I:Inv X pins σ H s) (j:X.N.Nodup) (hi:X.N[i]? = some x) (hx:Loc X.env.scope x) (r:RelV v u)
 (h:∀ s',Inv X pins (σ.set i (some v)) H s'->Q () s') (hf:X.fn x=true∨X.env.scope.names.lookup x=some .local:=by first | exact .inl rfl | exact .inr rfl | assumption):Ec M A (storeName X.env x u) Q E s :=
 qw I j hi hx r (fun s' I' _=>h s' I') hf
theorem Inv.call' {s':hH} {ch:List Addr} (I:Inv X pins σ H s) (ho:s'.os=s.os) (u:Un (frs X.stack) ch H H' s.heap s'.heap) (hok:HOk X.prog X.w H' s'.heap) (q:Jq s'.gens)
 (j:∀ b∈ch,(b∈X.ex∨X.s₀.heap.objs.size<=b)/\b≠X.env.locals/\(∀ x c,X.env.cells.lookup x=some c->c≠b) /\ ∀ p∈X.pn++pins,p.1≠b):Inv X pins σ H' s':=by
 obtain ⟨h',g',d',t',o'⟩:=s';have e:o'=s.os:=ho;subst e;exact I.call (g':=g') (t':=t') (d':=d') u hok q j
end
noncomputable abbrev XK:=h6->Option Addr->Hp->Prop
noncomputable abbrev St:=List (Option V)
noncomputable abbrev VK:=V->Hp->Prop
noncomputable abbrev TE:=St->Hp->VK->Prop
noncomputable abbrev TT:=St->Hp->(Bool->Hp->Prop)->Prop
noncomputable abbrev TA:=St->Hp->(List V->Hp->Prop)->Prop
structure bx where
 nx:St->Hp->Prop
 rt:VK
 bk:St->Hp->Prop:=fun _ _=>False
 ct:St->Hp->Prop:=fun _ _=>False
noncomputable abbrev TS:=bx->St->Hp->Prop
def EP (X:Cx) (pins:List (Addr×Obj)) (σ:St) (Q:VK) (u:h6) (s':hH):Prop := ∃ v H',Inv X pins σ H' s'/\RelV v u/\Q v H'
def TP (X:Cx) (pins:List (Addr×Obj)) (σ:St) (Q:Bool->Hp->Prop) (b:Bool) (s':hH):Prop := ∃ H',Inv X pins σ H' s'/\Q b H'
def AP (X:Cx) (pins:List (Addr×Obj)) (σ:St) (Q:List V->Hp->Prop) (us:List h6) (s':hH):Prop := ∃ vs H',Inv X pins σ H' s'/\Vals vs us/\Q vs H'
def SP (X:Cx) (pins:List (Addr×Obj)) (D:bx) (f:Flow) (s':hH):Prop :=
 match f with
 | .next => ∃ σ' H',Inv X pins σ' H' s'/\D.nx σ' H'
 | .brk => ∃ σ' H',Inv X pins σ' H' s'/\D.bk σ' H'
 | .cont => ∃ σ' H',Inv X pins σ' H' s'/\D.ct σ' H'
 | .ret u => ∃ v σ' H',Inv X pins σ' H' s'/\RelV v u/\D.rt v H'
def PE (X:Cx) (e:Expr) (t:TE):Prop :=
 ∀ (pins:List (Addr×Obj)) (s:hH) (σ:St) (H:Hp) (Q:VK),Inv X pins σ H s->t σ H Q->Ec (model X.prog X.w) X.A (eval e X.env) (EP X pins σ Q) X.xe s
def PT (X:Cx) (e:Expr) (t:TT):Prop :=
 ∀ (pins:List (Addr×Obj)) (s:hH) (σ:St) (H:Hp) (Q:Bool->Hp->Prop),Inv X pins σ H s->t σ H Q->Ec (model X.prog X.w) X.A (isTrue e X.env (eval e X.env)) (TP X pins σ Q) X.xe s
def PW (X:Cx) (e:Expr) (t:TT):Prop :=
 ∀ (whole:Sem h6) (pins:List (Addr×Obj)) (s:hH) (σ:St) (H:Hp) (Q:Bool->Hp->Prop),Inv X pins σ H s->t σ H Q->Ec (model X.prog X.w) X.A (isTrue e X.env whole) (TP X pins σ Q) X.xe s
theorem PW.pt {X:Cx} {e:Expr} {t:TT} (h:PW X e t):PT X e t:=h _
def PA (X:Cx) (es:List Expr) (t:TA):Prop :=
 ∀ (pos:Pos) (pins:List (Addr×Obj)) (s:hH) (σ:St) (H:Hp) (Q:List V->Hp->Prop),Inv X pins σ H s->t σ H Q->Ec (model X.prog X.w) X.A (spliced (HS pos (Et es X.env))) (AP X pins σ Q) X.xe s
def PS (X:Cx) (st:Stmt) (t:TS):Prop :=
 ∀ (pins:List (Addr×Obj)) (s:hH) (σ:St) (H:Hp) (D:bx),Inv X pins σ H s->t D σ H->Ec (model X.prog X.w) X.A (exec st X.env) (SP X pins D) X.xe s
def PSs (X:Cx) (st:List Stmt) (t:TS):Prop :=
 ∀ (pins:List (Addr×Obj)) (s:hH) (σ:St) (H:Hp) (D:bx),Inv X pins σ H s->t D σ H->Ec (model X.prog X.w) X.A (execs st X.env) (SP X pins D) X.xe s
theorem thn {α:Type} {t:Sem α} {Q Q' : α -> hH->Prop} {M:IE} {A:F5} {E:h6->hH->Prop} {s:hH} (h:Ec M A t Q E s) (j:∀ a s,Q a s->Q' a s):Ec M A t Q' E s:=FU h j fun _ _ x=>x
end
section
section
variable {X:Cx}
noncomputable def Be (i:Nat):TE:=fun σ H Q => ∃ v, σ[i]? = some (some v)/\Q v H
noncomputable def tC (v:V):TE:=fun _ H Q=>Q v H
theorem yC {i:Nat} {x:Str} {pos:Pos} (F:X.N[i]? = some x) (G:Vis X.env.scope x) (hd:(x==("__debug__":Str))=false:=by decide) (z:(x==("__classdict__":Str))=false:=by decide):PE X (.Name x pos) (Be i):=by
 intro pins s σ H Q I h;obtain ⟨v,e,h⟩:=h;obtain ⟨m,J,L⟩:=I.loc;obtain ⟨u,r,l⟩:=L i x v F e G;have fin:EP X pins σ Q u s:=⟨v,H,I,r,h⟩
 rcases l with ⟨q,hm⟩ | ⟨q,c,B,j⟩
 ·exact MW (wpAny_loadName_local I.ok.kind q J hm fin) hd
 ·rcases q with q | q
  ·exact MW (wpAny_loadName_cell I.ok.kind q B j fin) hd
  ·exact MW (wpAny_loadName_free I.ok.kind q B j fin z) hd
theorem yD {i j pos}:PE X (.Constant (.int i) j pos) (tC (.int i)):=fun _ _ _ H _ I h=>wpAny_Constant_int ⟨.int i,H,I.tok _,⟨_,rfl⟩,h⟩
theorem Aq {b j pos}:PE X (.Constant (.bool b) j pos) (tC (.bl b)):=fun _ _ _ H _ I h=>Constant_bool ⟨.bl b,H,I,rfl,h⟩
theorem yE {j pos}:PE X (.Constant .none j pos) (tC .non):=fun _ _ _ H _ I h=>Constant_none ⟨.non,H,I,rfl,h⟩
def Gl (X:Cx) (x:Str):Prop:=X.env.kindOf x=some .globalImplicit
theorem nL {E:h6->hH->Prop} {pins:List (Addr×Obj)} {s:hH} {σ:St} {H:Hp} {x:Str} {u:h6} {pos:Pos} {Q:h6->hH->Prop} (I:Inv X pins σ H s) (j:Gl X x) (hm:X.mg x=some u) (h:Q u s)
 (hd:(x==("__debug__":Str))=false:=by decide):Ec (model X.prog X.w) X.A (eval (.Name x pos) X.env) Q E s :=
 J8 I.ok.kind j (Calls.loadGlobal_global (by rw [I.ok.glob];exact I.mod.glob.keeps I.bk) hm h) hd
theorem di {E:h6->hH->Prop} {pins:List (Addr×Obj)} {s:hH} {σ:St} {H:Hp} {x:Str} {u:h6} {pos:Pos} {Q:h6->hH->Prop} (I:Inv X pins σ H s) (j:Gl X x) (hm:X.mg x=none) (q:H8 x=some u) (h:Q u s)
 (z:x ≠ "__name__" := by decide) (hd:(x==("__debug__":Str))=false:=by decide):Ec (model X.prog X.w) X.A (eval (.Name x pos) X.env) Q E s:=by
 obtain ⟨mb,h1,h2⟩:=I.mod.blt;exact J8 I.ok.kind j (Calls.loadGlobal_builtin (by rw [I.ok.glob];exact I.mod.glob.keeps I.bk) hm (by rw [I.ok.blt];exact h1.keeps I.bk) ((h2 x z).trans q) h) hd
theorem wx {x:Str} {v:V} {u:h6} {pos:Pos} (j:Gl X x) (hm:X.mg x=none) (q:H8 x=some u) (r:RelV v u) (z:x ≠ "__name__" := by decide) (hd:(x==("__debug__":Str))=false:=by decide):PE X (.Name x pos) (tC v) :=
 fun _ _ _ H _ I h=>di I j hm q ⟨v,H,I,r,h⟩ z hd
variable {a b:Expr} {ta tb:TE} {pos:Pos}
variable {tA tB':TT} {rest:List Expr}
noncomputable def Bf (t u:TT):TT:=fun σ H Q=>t σ H fun c H1=>if c=true then u σ H1 Q else Q false H1
noncomputable def tOr (t u:TT):TT:=fun σ H Q=>t σ H fun c H1=>if c=true then Q true H1 else u σ H1 Q
noncomputable def Bg (t:TT):TT:=fun σ H Q=>t σ H fun c H1=>Q (!c) H1
theorem wy (j:PT X a tA):PW X (.BoolOp .And [a] pos) tA:=by
 intro wh pins s σ H Q I h;refine isTrue_and (thn (j pins s σ H Q I h) fun c s1 e => ?_)
 cases c with
 | true=>exact isTrue_and_nil e
 | false=>exact e
theorem yF (j:PT X a tA):PW X (.BoolOp .Or [a] pos) tA:=by
 intro wh pins s σ H Q I h;refine isTrue_or (thn (j pins s σ H Q I h) fun c s1 e => ?_)
 cases c with
 | false=>exact isTrue_or_nil e
 | true=>exact e
theorem yG (z:PT X a tA) (B:PW X (.BoolOp .And (b::rest) pos) tB'):PW X (.BoolOp .And (a::b::rest) pos) (Bf tA tB'):=by
 intro wh pins s σ H Q I h;refine isTrue_and (thn (z pins s σ H _ I h) fun c s1 ⟨H1,j,q⟩ => ?_)
 cases c with
 | true=>exact B wh pins s1 σ H1 Q j q
 | false=>exact ⟨H1,j,q⟩
theorem Ar (z:PT X a tA) (B:PW X (.BoolOp .Or (b::rest) pos) tB'):PW X (.BoolOp .Or (a::b::rest) pos) (tOr tA tB'):=by
 intro wh pins s σ H Q I h;refine isTrue_or (thn (z pins s σ H _ I h) fun c s1 ⟨H1,j,q⟩ => ?_)
 cases c with
 | true=>exact ⟨H1,j,q⟩
 | false=>exact B wh pins s1 σ H1 Q j q
theorem yH (j:PT X a tA):PT X (.UnaryOp .Not a pos) (Bg tA):=by
 intro pins s σ H Q I h;exact isTrue_not (j pins s σ H (fun c H1=>Q (!c) H1) I h)
noncomputable def As (ta tb:TE):TE:=fun σ H Q=>ta σ H fun x H1 => ∃ c,x = .bl c/\if c=true then tb σ H1 Q else Q (.bl false) H1
noncomputable def Bh (ta tb:TE):TE:=fun σ H Q=>ta σ H fun x H1 => ∃ c,x = .bl c/\if c=true then Q (.bl true) H1 else tb σ H1 Q
noncomputable def Au (ta:TE):TE:=fun σ H Q=>ta σ H fun x H1 => ∃ c,x = .bl c/\Q (.bl (!c)) H1
theorem yI {op} {t:TE} (h:PE X a t):PE X (.BoolOp op [a] pos) t:=fun pins s σ H Q I hw=>BoolOp_one (h pins s σ H Q I hw)
theorem yJ (z:PE X a ta) (B:PE X (.BoolOp .And (b::rest) pos) tb):PE X (.BoolOp .And (a::b::rest) pos) (As ta tb):=by
 intro pins s σ H Q I h;refine BoolOp_and (thn (z pins s σ H _ I h) fun v s1 ⟨x,H1,q,F,j⟩ => ?_);obtain ⟨c,rfl,j⟩:=j
 cases F
 refine GD ?_
 cases c with
 | true=>exact B pins s1 σ H1 Q q j
 | false=>exact ⟨.bl false,H1,q,rfl,j⟩
theorem Av (z:PE X a ta) (B:PE X (.BoolOp .Or (b::rest) pos) tb):PE X (.BoolOp .Or (a::b::rest) pos) (Bh ta tb):=by
 intro pins s σ H Q I h;refine BoolOp_or (thn (z pins s σ H _ I h) fun v s1 ⟨x,H1,q,F,j⟩ => ?_);obtain ⟨c,rfl,j⟩:=j
 cases F
 refine GD ?_
 cases c with
 | false=>exact B pins s1 σ H1 Q q j
 | true=>exact ⟨.bl true,H1,q,rfl,j⟩
theorem yK (q:PE X a ta):PE X (.UnaryOp .Not a pos) (Au ta):=by
 intro pins s σ H Q I h;refine UnaryOp_ (thn (q pins s σ H _ I h) fun v s1 ⟨x,H1,z,B,j⟩ => ?_);obtain ⟨c,rfl,j⟩:=j
 cases B
 exact not_of (GD ⟨.bl (!c),H1,z,rfl,j⟩)
noncomputable def tIf (t:TT) (ta tb:TE):TE:=fun σ H Q=>t σ H fun c H1=>if c=true then ta σ H1 Q else tb σ H1 Q
theorem tM {c:Expr} (z:PT X c tA) (B:PE X a ta) (F:PE X b tb):PE X (.IfExp c a b pos) (tIf tA ta tb):=by
 intro pins s σ H Q I h;refine wpAny_IfExp (thn (z pins s σ H _ I h) fun d s1 ⟨H1,j,q⟩ => ?_)
 cases d with
 | true=>exact B pins s1 σ H1 Q j q
 | false=>exact F pins s1 σ H1 Q j q
end
end
section
def SqL (K:Frag) (H:Hp) (a:Addr) (xs:List V):Prop :=
 Rd H a (.lst xs) ∨
  ∃ (o:Obj) (its:Array h6) (n:Nat),K.lookup a=some o/\o.cls = .type "list" /\ o.dict=none/\o.data = .seq its n/\its.size<=DY/\Vals xs its.toList
def SqT (K:Frag) (H:Hp) (a:Addr) (xs:List V):Prop :=
 Rd H a (.tup xs) ∨
  ∃ (o:Obj) (its:Array h6) (n:Nat),K.lookup a=some o/\o.cls = .type "tuple" /\ o.data = .seq its n/\its.size<=DY/\Vals xs its.toList
noncomputable def Bi:h6->Option V
 | .none=>some .non
 | .bool b=>some (.bl b)
 | .int i _=>some (.int i)
 | .str x _=>some (.str x)
 | .bytes b _=>some (.byt b)
 | .float b _=>some (.flt b)
 | .ref a=>some (.ref a)
 | .type n=>some (.ty n)
 | _=>none
theorem RelV.abs {x:V} {u:h6} (r:RelV x u):Bi u=some x:=by
 cases x with
 | non=>cases r;rfl
 | bl _=>cases r;rfl
 | int _=>obtain ⟨t,rfl⟩:=r;rfl
 | str _=>obtain ⟨t,rfl⟩:=r;rfl
 | byt _=>obtain ⟨t,rfl⟩:=r;rfl
 | flt _=>obtain ⟨t,rfl⟩:=r;rfl
 | ref _=>cases r;rfl
 | ty _=>cases r;rfl
theorem RelV.inj {x y:V} {u:h6} (r:RelV x u) (q:RelV y u):x=y:=FO.inj (r.abs.symm.trans q.abs)
theorem Vals.inj:∀ {xs ys:List V} {us:List h6},Vals xs us->Vals ys us->xs=ys
 | _,_,_, .nil, .nil=>rfl
 | _,_,_, .cons r t, .cons r' t'=>by rw [r.inj r',Vals.inj t t']
section
variable {X:Cx} {pins:List (Addr×Obj)} {σ:St} {H:Hp} {s:hH} {a:Addr} {xs ys:List V}
theorem SqL.of {K:Frag} (h:H a=some (.lst xs)):SqL K H a xs := .inl (.inl h)
theorem SqT.of {K:Frag} (h:H a=some (.tup xs)):SqT K H a xs := .inl (.inl h)
theorem Inv.list (I:Inv X pins σ H s) (h:SqL X.K H a xs):∃ its:List h6,Vals xs its/\PlainL s.heap a its.toArray/\xs.length<=DY:=by
 rcases h with h | ⟨o,its,n,j,q,hd,hs,B,r⟩
 ·obtain ⟨z,its,n,r,e⟩:=h.ok I.hok;exact ⟨its,r,⟨_,n,e,rfl,rfl,rfl⟩,z⟩
 ·refine ⟨its.toList,r,⟨o,n,I.kIn a o j,q,hd,by simpa using hs⟩, ?_⟩
  have e:=r.length;simp only [El] at e;omega
theorem Inv.tuple (I:Inv X pins σ H s) (h:SqT X.K H a xs):∃ its:List h6,Vals xs its/\IsTup s.heap a its.toArray/\xs.length<=DY:=by
 rcases h with h | ⟨o,its,n,j,q,hs,B,r⟩
 ·obtain ⟨z,its,r,p⟩:=h.ok I.hok;exact ⟨its,r,p,z⟩
 ·refine ⟨its.toList,r,⟨o,I.kIn a o j,q,n,by simpa using hs⟩, ?_⟩
  have e:=r.length;simp only [El] at e;omega
theorem Inv.list_inj (I:Inv X pins σ H s) (h:SqL X.K H a xs) (h':SqL X.K H a ys):xs=ys:=by
 obtain ⟨its,r,⟨o,n,e,_,_,d⟩,_⟩:=I.list h;obtain ⟨its',r',⟨o',n',e',_,_,d'⟩,_⟩:=I.list h';rw [e] at e';cases e';rw [d] at d'
 injection d' with d1 _
 have:its=its':=by simpa using congrArg JR d1
 subst this;exact r.inj r'
theorem Inv.tuple_inj (I:Inv X pins σ H s) (h:SqT X.K H a xs) (h':SqT X.K H a ys):xs=ys:=by
 obtain ⟨its,r,⟨o,e,_,n,d⟩,_⟩:=I.tuple h;obtain ⟨its',r',⟨o',e',_,n',d'⟩,_⟩:=I.tuple h';rw [e] at e';cases e';rw [d] at d'
 injection d' with d1 _
 have:its=its':=by simpa using congrArg JR d1
 subst this;exact r.inj r'
end
noncomputable abbrev Cx.wish (X:Cx) (E:h6->hH->Prop):Cx := { X with xe:=E }
noncomputable abbrev Cx.nox (X:Cx):Cx:=X.wish fun _ _=>False
theorem Cx.Ok.wish {X:Cx} (ok:X.Ok) (E:h6->hH->Prop):(X.wish E).Ok :=
 ⟨ok.mod,ok.kind,ok.glob,ok.blt,ok.above,ok.inj,ok.has,ok.cab,ok.hd,ok.frames,ok.stk,ok.exf,ok.bs,ok.bsz,ok.noex,ok.exfs,ok.funs,ok.frf⟩
theorem Cx.Ok.unwish {X:Cx} {E:h6->hH->Prop} (ok:(X.wish E).Ok):X.Ok :=
 ⟨ok.mod,ok.kind,ok.glob,ok.blt,ok.above,ok.inj,ok.has,ok.cab,ok.hd,ok.frames,ok.stk,ok.exf,ok.bs,ok.bsz,ok.noex,ok.exfs,ok.funs,ok.frf⟩
section
variable {X:Cx} {pins:List (Addr×Obj)} {σ:St} {H:Hp} {s:hH} {E:h6->hH->Prop}
theorem Inv.wish (I:Inv X pins σ H s) (E:h6->hH->Prop):Inv (X.wish E) pins σ H s:=⟨I.ok.wish E,I.os,I.bare,I.base,I.loc,I.cell,I.free,I.freeC,I.pin,I.hok,I.len⟩
theorem Inv.unwish (I:Inv (X.wish E) pins σ H s):Inv X pins σ H s:=⟨I.ok.unwish,I.os,I.bare,I.base,I.loc,I.cell,I.free,I.freeC,I.pin,I.hok,I.len⟩
theorem SP.unwish {D:bx} {f:Flow} {s':hH} (h:SP (X.wish E) pins D f s'):SP X pins D f s':=by
 cases f with
 | next=>obtain ⟨σ',H',I,q⟩:=h;exact ⟨σ',H',I.unwish,q⟩
 | brk=>obtain ⟨σ',H',I,q⟩:=h;exact ⟨σ',H',I.unwish,q⟩
 | cont=>obtain ⟨σ',H',I,q⟩:=h;exact ⟨σ',H',I.unwish,q⟩
 | ret u=>obtain ⟨v, σ',H',I,r,q⟩:=h;exact ⟨v, σ',H',I.unwish,r,q⟩
theorem PSs.nox {st:List Stmt} {t:TS} (h:PSs X.nox st t):PSs X st t:=fun pins s σ H D I hw =>
 FU (h pins s σ H D (I.wish _) hw) (fun _ _ q=>q.unwish) fun _ _ z=>False.elim z
end
section
variable {X:Cx} {st:Stmt} {rest:List Stmt} {t u:TS} {e:Expr} {te:TE} {pos:Pos}
noncomputable def oS:TS:=fun D σ H=>D.nx σ H
noncomputable def yL (t u:TS):TS:=fun D σ H=>t { D with nx:=u D } σ H
theorem wz:PSs X [] oS:=fun _ _ σ H _ I h=>K7 ⟨σ,H,I,h⟩
theorem tN (h1:PS X st t) (h2:PSs X rest u):PSs X (st::rest) (yL t u):=by
 intro pins s σ H D I h;refine wpAny_execs_cons (thn (h1 pins s σ H { D with nx:=u D } I h) fun f s1 q => ?_)
 cases f with
 | next =>
   obtain ⟨σ',H',I',q⟩:=q;exact h2 pins s1 σ' H' D I' q
 | ret v=>exact q
 | brk=>exact q
 | cont=>exact q
noncomputable def qz:TS:=fun D σ H=>D.bk σ H
noncomputable def vN:TS:=fun D σ H=>D.ct σ H
theorem wB:PS X (.Pass pos) oS:=fun _ _ σ H _ I h=>wpAny_Pass ⟨σ,H,I,h⟩
theorem tO:PS X (.Break pos) qz:=fun _ _ σ H _ I h=>wpAny_Break ⟨σ,H,I,h⟩
theorem nv:PS X (.Continue pos) vN:=fun _ _ σ H _ I h=>wpAny_Continue ⟨σ,H,I,h⟩
theorem Inv.quiet {pins:List (Addr×Obj)} {σ:St} {H:Hp} {s:hH} (I:Inv X pins σ H s):interactive X.env=false:=by simp [interactive,I.ok.kind]
noncomputable def vO (te:TE):TS:=fun D σ H=>te σ H fun _ H1=>D.nx σ H1
theorem wD (he:PE X e te) (hs:HX e none pos.line X.env=pure false:=by rfl):PS X (.Expr e pos) (vO te):=by
 intro pins s σ H D I h;exact wpAny_Expr_any (thn (he pins s σ H _ I h) fun v s1 ⟨x,H1,j,z,q⟩=>⟨σ,H1,j,q⟩) I.quiet hs
noncomputable def yM (te:TE):TS:=fun D σ H=>te σ H D.rt
theorem yN (he:PE X e te):PS X (.Return (some e) pos) (yM te):=by
 intro pins s σ H D I h;exact wpAny_Return_some (thn (he pins s σ H _ I h) fun v s1 ⟨x,H1,j,q,z⟩=>⟨x, σ,H1,j,q,z⟩)
noncomputable def yO (c:TT) (t u:TS):TS:=fun D σ H=>c σ H fun b H1=>if b=true then t D σ H1 else u D σ H1
theorem Aw {c:Expr} {a b:List Stmt} {tc:TT} (z:PT X c tc) (B:PSs X a t) (F:PSs X b u):PS X (.If c a b pos) (yO tc t u):=by
 intro pins s σ H D I h;refine wpAny_If (thn (z pins s σ H _ I h) fun d s1 ⟨H1,j,q⟩ => ?_)
 cases d with
 | true=>exact B pins s1 σ H1 D j q
 | false=>exact F pins s1 σ H1 D j q
end
noncomputable abbrev TG:=V->St->Hp->(St->Hp->Prop)->Prop
noncomputable abbrev TGs:=List V->St->Hp->(St->Hp->Prop)->Prop
def PG (X:Cx) (target:Expr) (t:TG):Prop :=
 ∀ (pins:List (Addr×Obj)) (s:hH) (σ:St) (H:Hp) (v:V) (u:h6) (Q:St->Hp->Prop),Inv X pins σ H s->RelV v u->t v σ H Q ->
  Ec (model X.prog X.w) X.A (assign target X.env u) (fun _ s' => ∃ σ' H',Inv X pins σ' H' s'/\Q σ' H') X.xe s
def PGs (X:Cx) (ts:List Expr) (t:TGs):Prop :=
 ∀ (pins:List (Addr×Obj)) (s:hH) (σ:St) (H:Hp) (vs:List V) (us:List h6) (Q:St->Hp->Prop),Inv X pins σ H s->Vals vs us->t vs σ H Q ->
  Ec (model X.prog X.w) X.A (KZ ((FV ts X.env).map (·.2)) us) (fun _ s' => ∃ σ' H',Inv X pins σ' H' s'/\Q σ' H') X.xe s
noncomputable abbrev oT:=V->V->V->Hp->(Hp->Prop)->Prop
def PSet (X:Cx) (t:oT):Prop :=
 ∀ (pins:List (Addr×Obj)) (s:hH) (σ:St) (H:Hp) (o i v:V) (ov iv u:h6) (Q:Hp->Prop),Inv X pins σ H s->RelV o ov->RelV i iv->RelV v u->t o i v H Q ->
  Ec (model X.prog X.w) X.A (setItem ov iv u) (fun _ s' => ∃ H',Inv X pins σ H' s'/\Q H') X.xe s
section
variable {X:Cx} {pos:Pos}
noncomputable def i3 (i:Nat):TG:=fun v σ H Q=>Q (σ.set i (some v)) H
theorem nM {i:Nat} {x:Str} (j:X.N.Nodup) (hi:X.N[i]? = some x) (hx:Loc X.env.scope x) (hf:X.fn x=true∨X.env.scope.names.lookup x=some .local:=by first | exact .inl rfl | exact .inr rfl | assumption):PG X (.Name x pos) (i3 i):=by
 intro pins s σ H v u Q I r h;exact wpAny_assign_Name (gC I j hi hx r (fun s' I'=>⟨_,H,I',h⟩) hf)
noncomputable def Bj:TGs:=fun vs σ H Q=>vs=[]/\Q σ H
noncomputable def Ax (t:TG) (u:TGs):TGs:=fun vs σ H Q => ∃ v r,vs=v::r/\t v σ H fun σ' H'=>u r σ' H' Q
theorem wF:PGs X [] Bj:=by
 intro pins s σ H vs us Q I r h;obtain ⟨e,h⟩:=h;subst e
 cases r
 exact Lq ⟨σ,H,I,h⟩
theorem tP {e:Expr} {es:List Expr} {t:TG} {u:TGs} (h1:PG X e t) (h2:PGs X es u)
 (hs:(FV (e::es) X.env).map (·.2)=assign e X.env::(FV es X.env).map (·.2):=by rfl):PGs X (e::es) (Ax t u):=by
 intro pins s σ H vs us Q I r h;obtain ⟨v,vr,j,h⟩:=h;subst j
 cases r with
 | cons r rr =>
   rw [hs];refine J9 (thn (h1 pins s σ H _ _ _ I r h) fun _ s1 ⟨σ1,H1,q,z⟩ => ?_);exact h2 pins s1 σ1 H1 _ _ Q q rr z
noncomputable def Bk (K:Frag) (n:Nat) (t:TGs):TG:=fun v σ H Q => ∃ a xs,v = .ref a/\SqT K H a xs/\xs.length=n/\t xs σ H Q
theorem yP {es:List Expr} {k:Nat} {t:TGs} {n:Nat} (q:X.calm=true) (h:PGs X es t)
 (z:(FV es X.env).length=n:=by rfl) (j:(FV es X.env).findIdx? (·.1)=none:=by rfl):PG X (.Tuple es k pos) (Bk X.K n t):=by
 intro pins s σ H v u Q I r hw;obtain ⟨a,xs,B,F,G,hw⟩:=hw;subst B
 cases r
 obtain ⟨its,rv,J,O⟩:=I.tuple F;refine assign_Tuple_tuple (I.ok.hd q) J (by simp [z, <- G,rv.length]) j fun h' hx => ?_
 have L:Inv X pins σ H { s with heap:=h' }:=I.kept (t':=s.toks) fun b o e=>hx b o (EJ (E6 e)) e
 exact h pins _ σ H xs _ Q L (by simpa using rv) hw
noncomputable def Bl (to ti:TE) (t:oT):TG:=fun v σ H Q=>to σ H fun o H1=>ti σ H1 fun i H2=>t o i v H2 fun H3=>Q σ H3
theorem yQ {o i:Expr} {to ti:TE} {t:oT} (ho:PE X o to) (hi:PE X i ti) (hs:PSet X t)
 (j:∀ v,assign (.Subscript o i pos) X.env v=(do
   let ov <- holding [v] (eval o X.env)
   let iv <- holding [v,ov] (eval i X.env)
   Jr pos
   holding [v,ov,iv] (setItem ov iv v)
   release [v,ov,iv] []):=by intro _;rfl):PG X (.Subscript o i pos) (Bl to ti t):=by
 intro pins s σ H v u Q I r h;rw [j];refine gV (Fh (thn (ho pins s σ H _ I h) fun ov s1 ⟨x,H1,q,z,B⟩ => ?_));refine gV (Fh (thn (hi pins s1 σ H1 _ q B) fun iv s2 ⟨y,H2,F,G,J⟩ => ?_));refine gV (Hn (gV (Fh (thn (hs pins s2 σ H2 x y v ov iv u _ F z G r J) fun _ s3 ⟨L,O,U⟩ => ?_))));exact wpAny_release ⟨σ,L,O,U⟩
noncomputable def oU (te:TE) (g:TG):TS:=fun D σ H=>te σ H fun x H1=>g x σ H1 D.nx
theorem qA {tg e:Expr} {te:TE} {g:TG} (he:PE X e te) (j:PG X tg g) (hs:HF [tg] e pos.line X.env=pure false:=by rfl) (hw:GJ [tg] e X.env=pure none:=by rfl)
 (h1:(FV [tg] X.env).map (·.2)=[assign tg X.env]:=by rfl):PS X (.Assign [tg] e pos) (oU te g):=by
 intro pins s σ H D I h;refine wpAny_Assign_stores (thn (he pins s σ H _ I h) fun v s1 ⟨x,H1,z,B,F⟩ => ?_) hs hw;rw [h1];exact thn (j pins s1 σ H1 x v _ z B F) fun _ s2 q=>q
noncomputable def yR (i j:Nat) (ta:TA):TS:=fun D σ H=>ta σ H fun vs H1 => ∃ v w,vs=[v,w]/\D.nx ((σ.set i (some v)).set j (some w)) H1
theorem yS {i j:Nat} {x y:Str} {a b:Expr} {ta:TA} {px py pt:Pos} {kt G z} (hc:X.calm=true) (U:X.N.Nodup) (hi:X.N[i]? = some x) (hj:X.N[j]? = some y) (J:i≠j)
 (hx:X.env.scope.names.lookup x=some .local) (Y:X.env.scope.names.lookup y=some .local) (ha:PA X [a,b] ta)
 (hw:GJ [.Tuple [.Name x px, .Name y py] kt pt] (.Tuple [a,b] G z) X.env=pure (some [x,y]))
 (hs:HF [.Tuple [.Name x px, .Name y py] kt pt] (.Tuple [a,b] G z) pos.line X.env=pure false:=by rfl) :
 PS X (.Assign [.Tuple [.Name x px, .Name y py] kt pt] (.Tuple [a,b] G z) pos) (yR i j ta):=by
 intro pins s σ H D I h;rw [exec_Assign_arm];refine gV (Hn ?_);rw [hs];refine gV (q7 ?_);rw [if_neg (by decide)]
 refine gV (Tuple_ (thn (ha _ pins s σ H _ I h) fun us s1 ⟨vs,H1,I1,r1,L⟩ => ?_));obtain ⟨v,w,e1,L⟩:=L;subst e1;obtain ⟨B,F,rfl,rv,rw'⟩:∃ B F,us=[B,F]/\RelV v B/\RelV w F:=by
  cases r1 with
  | cons p q =>
    cases q with
    | cons p' q' =>
      cases q'
      exact ⟨_,_,rfl,p,p'⟩
 refine Fv ?_ (by show 2<=DY;decide)
 have I2:Inv X pins σ H1 { s1 with heap:=s1.heap.push { cls := .type "tuple",data := .seq [B,F].toArray } }:=I1.kept (t':=s1.toks) fun b o e=>h7 _ e
 rw [hw];refine gV (q7 ?_);show Ec (model X.prog X.w) X.A (do rule "assign.swapped-stores";let items <- unpackItems (.ref s1.heap.objs.size) 2 none;KZ [fun v=>MX X.env y v,fun v=>MX X.env x v] items.reverse;pure Flow.next) _ _ _
 refine gV (FW (gV (unpackItems_tuple (items := #[B,F]) (I.ok.hd hc) (J7 s1.heap _) fun h' O => ?_)));have I3:=I2.kept (h':=h') (t':=s1.toks) fun b o e=>O b o (EJ (E6 e)) e;show Ec _ _ (KZ [fun v=>MX X.env y v,fun v=>MX X.env x v] [F,B] >>= fun _=>pure Flow.next) _ _ _;refine gV (J9 (wpAny_bindName (gC I3 U hj (.inl Y) rw' (fun s2 I4 => ?_) (.inr Y))));refine J9 (wpAny_bindName (gC I4 U hi (.inl hx) rv (fun s3 Z=>Lq (q7 ?_)) (.inr hx)));rw [List.set_comm _ _ (Ne.symm J)] at Z;exact ⟨_,H1,Z,L⟩
end
section
variable {X:Cx} {pos:Pos}
noncomputable def qB (c:TT) (tb:TS):TS:=fun D σ H => ∃ W:Nat->St->Hp->Prop,(∃ m,W m σ H) /\ ∀ m σ H,W m σ H ->
 c σ H fun b H1=>if b=true then ∃ N:St->Hp->Prop,(∀ σ' H',N σ' H' -> ∃ m',m' < m/\W m' σ' H')/\tb { D with nx:=N,ct:=N,bk:=D.nx } σ H1 else D.nx σ H1
theorem tQ {c:Expr} {body:List Stmt} {tc:TT} {tb:TS} (J:PassesOwn (model X.prog X.w) X.A X.env X.xe) (U:PT X c tc) (Y:PSs X body tb):PS X (.While c body [] pos) (qB tc tb):=by
 intro pins s σ H D I h;obtain ⟨W,⟨m0,Z⟩,turn⟩:=h;refine wpAny_While (codeAny_whileLoop (fun n s' => ∃ σ' H',Inv X pins σ' H' s'/\W n σ' H') ?_ m0 ⟨σ,H,I,Z⟩);rintro n s1 ⟨σ1,H1,I1,w1⟩;refine GA J (thn (U pins s1 σ1 H1 _ I1 (turn n σ1 H1 w1)) fun b s2 ⟨H2,L,q⟩ => ?_)
 cases b with
 | true =>
   obtain ⟨N,O,q⟩:=q;rw [if_pos rfl];refine GA J (thn (Y pins s2 σ1 H2 _ L q) fun f s3 z => ?_)
   cases f with
   | next =>
     obtain ⟨σ3,j,B,F⟩:=z;obtain ⟨m',hm,G⟩:=O σ3 j F;exact ⟨m',hm, σ3,j,B,G⟩
   | cont =>
     obtain ⟨σ3,j,B,F⟩:=z;obtain ⟨m',hm,G⟩:=O σ3 j F;exact ⟨m',hm, σ3,j,B,G⟩
   | brk=>exact z
   | ret v=>exact z
 | false =>
   rw [if_neg E2];exact K7 ⟨σ1,H2,L,q⟩
end
structure It where
 go:Nat->Hp->Prop
 yld:Nat->Hp->V->Hp->Prop
 stop:Nat->Hp->Prop
def bT (X:Cx) (pins:List (Addr×Obj)) (H:Hp) (b:Addr):Prop :=
 H b=none/\b≠X.env.locals/\b∉X.fs/\(b∈X.ex∨X.s₀.heap.objs.size<=b)/\(∀ x c,X.env.cells.lookup x=some c->c≠b) /\ ∀ p∈X.pn++pins,p.1≠b
theorem Inv.fpOk {X:Cx} {pins:List (Addr×Obj)} {σ:St} {H H':Hp} {s:hH} {b:Addr} (I:Inv X pins σ H s) (j:s.heap.objs.size<=b) (B:H' b=none):bT X pins H' b:=by
 refine ⟨B,Gn (EA I.lt j),I.nofs j, .inr (ET I.sz j),fun x c e z => ?_,fun p F z => ?_⟩
 ·obtain ⟨v,q⟩:=I.cell x c e;exact absurd (EA q.lt (by rw [z];exact j)) (Fx _)
 ·exact absurd (EA (E6 (I.pin p F).1) (by rw [z];exact j)) (Fx _)
structure eT (P:Ep) (w:EM) (K:Frag) (tg:Expr) (J:It) (fp:List Addr) (it:Addr) (tn:Nat->Heap->Prop):Prop where
 mem:it∈fp
 obj:∀ i h,tn i h -> ∀ b∈fp, ∃ o,h.get? b=some o /\ ∀ v,o.data ≠ .cell v
 keep:∀ i h h',tn i h->(∀ b∈fp, ∀ o,h.get? b=some o->h'.get? b=some o)->tn i h'
 item:∀ (X:Cx),X.prog=P->X.w=w->X.K=K->X.calm=true -> ∀ (i:Nat) (pins:List (Addr×Obj)) (s:hH) (σ:St) (H:Hp) (E:h6->hH->Prop),Inv X pins σ H s->(∀ b∈fp,bT X pins H b)->tn i s.heap->J.go i H ->
  Ec (model P w) X.A (I8 (.ref it)) (fun r s1 => ∃ u,r=some u /\
   Ec (model P w) X.A (IP tg (.ref it) u) (fun _ s2 => ∃ x H',Inv X pins σ H' s2/\RelV x u/\J.yld i H x H'/\tn (i+1) s2.heap /\ ∀ b∈fp,H' b=none) E s1) E s
 done:∀ (X:Cx),X.prog=P->X.w=w->X.K=K->X.calm=true -> ∀ (i:Nat) (pins:List (Addr×Obj)) (s:hH) (σ:St) (H:Hp) (E:h6->hH->Prop),Inv X pins σ H s->(∀ b∈fp,bT X pins H b)->tn i s.heap->J.stop i H ->
  Ec (model P w) X.A (I8 (.ref it)) (fun r s1=>r=none/\Inv X pins σ H s1) E s
 self:∀ (A:F5) (i:Nat) (s:hH) (Q:h6->hH->Prop) (E:h6->hH->Prop),tn i s.heap->Q (.ref it) s->Ec (model P w) A (Le (.ref it)) Q E s
noncomputable abbrev TI:=St->Hp->(It->Hp->Prop)->Prop
def PIE (X:Cx) (pins:List (Addr×Obj)) (σ:St) (tg:Expr) (R:It->Hp->Prop) (itv:h6) (s2:hH):Prop :=
 ∃ (it:Addr) (fp:List Addr) (tn:Nat->Heap->Prop) (J:It) (H':Hp),itv = .ref it/\Inv X pins σ H' s2/\eT X.prog X.w X.K tg J fp it tn/\tn 0 s2.heap/\(∀ b∈fp,bT X pins H' b)/\R J H'
def PI (X:Cx) (tg iter:Expr) (wi:TI):Prop :=
 ∀ (pins:List (Addr×Obj)) (s:hH) (σ:St) (H:Hp) (R:It->Hp->Prop),Inv X pins σ H s->wi σ H R ->
  Ec (model X.prog X.w) X.A (eval iter X.env) (fun v s1=>Ec (model X.prog X.w) X.A (Le v) (PIE X pins σ tg R) X.xe s1) X.xe s
theorem ku {M:IE} {A:F5} {E:h6->hH->Prop} {s:hH} {tg:Expr} {it:Addr} {u:h6} {o:Obj} {n:String} {vs:Array h6} {Q:Unit->hH->Prop} (ho:s.heap.get? it=some o) (q:o.cls = .type n) (hd:o.data = .fields vs)
 (z : ["enumerate", "zip", "dict_itemiterator", "dict_reverseitemiterator", "odict_iterator", "itertools.zip_longest", "itertools.pairwise"].contains n=false) (j:Q () s):Ec M A (IP tg (.ref it) u) Q E s:=by
 unfold IP
 cases tg <;> first
  | exact q7 j
  | (cases u <;> first
      | exact q7 j
      | (refine gV (wpAny_load ho ?_)
         rw [q,hd];show Ec M A (if (["enumerate", "zip", "dict_itemiterator", "dict_reverseitemiterator", "odict_iterator", "itertools.zip_longest", "itertools.pairwise"].contains n&&vs[0]? == some (Jy _))=true then _ else _) Q E s
         rw [if_neg (by intro h;rw [z,Bool.false_and] at h;cases h)]
         exact q7 j))
noncomputable def Itl (K:Frag) (a:Addr):It :=
 ⟨fun i H => ∃ xs x,SqL K H a xs/\xs[i]? = some x,fun i H x H'=>H'=H /\ ∀ xs,SqL K H a xs->xs[i]? = some x,fun i H => ∃ xs,SqL K H a xs/\xs.length<=i⟩
noncomputable def Itt (K:Frag) (a:Addr):It :=
 ⟨fun i H => ∃ xs x,SqT K H a xs/\xs[i]? = some x,fun i H x H'=>H'=H /\ ∀ xs,SqT K H a xs->xs[i]? = some x,fun i H => ∃ xs,SqT K H a xs/\xs.length<=i⟩
noncomputable def Itr (lo:Int) (n:Nat):It:=⟨fun i _=>i < n,fun i H x H'=>H'=H/\x = .int (lo+i),fun i _=>n<=i⟩
theorem qC {P:Ep} {w:EM} {K:Frag} {tg:Expr} (a it:Addr):eT P w K tg (Itl K a) [it] it (fun i h=>h.IsListIter it a i) where
 mem:=by simp
 obj:=fun i h st b j=>by
  have e:b=it:=by simpa using j
  subst e;obtain ⟨o,e,c,d⟩:=st;exact ⟨o,e,fun v z=>by rw [d] at z;cases z⟩
 keep:=fun i h h' st k=>st.at fun o e=>k it (by simp) o e
 item:=by
  intro X B hw F L i pins s σ H E I hf st hg;subst B hw F;obtain ⟨xs,x,q,hx⟩:=hg;obtain ⟨its,rv,p,O⟩:=I.list q;obtain ⟨u,U,ru⟩:=rv.get hx;obtain ⟨f0,f1,f2,G,f4,J⟩:=hf it (by simp)
  refine JS st p.isList (x:=u) (by simpa using U) fun h' st' sb => ?_
  have Y:Inv X pins σ H { s with heap:=h' }:=I.turned (t':=s.toks) (fun b o j e=>(sb.2 b j).trans e) f0 f1 G f4 J
  obtain ⟨o,e,c,d⟩:=id st';exact ⟨u,rfl,ku (s := { s with heap:=h' }) e c d (by decide) ⟨x,H,Y,ru,⟨rfl,fun ys Z=>by rw [I.list_inj Z q];exact hx⟩,st',fun b j=>(hf b j).1⟩⟩
 done:=by
  intro X B hw F L i pins s σ H E I hf st hg;subst B hw F;obtain ⟨xs,q,hx⟩:=hg;obtain ⟨its,rv,p,O⟩:=I.list q;obtain ⟨f0,f1,f2,G,f4,J⟩:=hf it (by simp)
  have hl:=rv.length;exact Kc (I.ok.hd L) st p.isList (by simp;omega) fun h' eb=>⟨rfl,I.turned (t':=s.toks) (fun b o j e=>eb b o j e) f0 f1 G f4 J⟩
 self:=fun _ _ _ _ _ st h=>wpAny_pyIter_listiter st h
theorem oV {P:Ep} {w:EM} {K:Frag} {tg:Expr} (a it:Addr):eT P w K tg (Itt K a) [it] it (fun i h=>h.IsTupleIter it a i) where
 mem:=by simp
 obj:=fun i h st b j=>by
  have e:b=it:=by simpa using j
  subst e;obtain ⟨o,e,c,d⟩:=st;exact ⟨o,e,fun v z=>by rw [d] at z;cases z⟩
 keep:=fun i h h' st k=>st.at fun o e=>k it (by simp) o e
 item:=by
  intro X B hw F L i pins s σ H E I hf st hg;subst B hw F;obtain ⟨xs,x,q,hx⟩:=hg;obtain ⟨its,rv,p,O⟩:=I.tuple q;obtain ⟨u,U,ru⟩:=rv.get hx;obtain ⟨f0,f1,f2,G,f4,J⟩:=hf it (by simp)
  refine wpAny_pyNext_tuple_item st (show s.heap.IsTuple a its.toArray from p) (x:=u) (by simpa using U) fun h' st' sb => ?_
  have Y:Inv X pins σ H { s with heap:=h' }:=I.turned (t':=s.toks) (fun b o j e=>(sb.2 b j).trans e) f0 f1 G f4 J
  obtain ⟨o,e,c,d⟩:=id st';exact ⟨u,rfl,ku (s := { s with heap:=h' }) e c d (by decide) ⟨x,H,Y,ru,⟨rfl,fun ys Z=>by rw [I.tuple_inj Z q];exact hx⟩,st',fun b j=>(hf b j).1⟩⟩
 done:=by
  intro X B hw F L i pins s σ H E I hf st hg;subst B hw F;obtain ⟨xs,q,hx⟩:=hg;obtain ⟨its,rv,p,O⟩:=I.tuple q;obtain ⟨f0,f1,f2,G,f4,J⟩:=hf it (by simp)
  have hl:=rv.length;exact wpAny_pyNext_tuple_end (I.ok.hd L) st (show s.heap.IsTuple a its.toArray from p) (by simp;omega) fun h' eb=>⟨rfl,I.turned (t':=s.toks) (fun b o j e=>eb b o j e) f0 f1 G f4 J⟩
 self:=fun _ _ _ _ _ st h=>wpAny_pyIter_tupleiter st h
theorem oW {P:Ep} {w:EM} {K:Frag} {tg:Expr} (it:Addr) (lo:Int) (n:Nat):eT P w K tg (Itr lo n) [it] it (fun i h=>IsRangeIter h it (lo+(i:Nat)*1) ((n:Int) - (i:Nat)) 1) where
 mem:=by simp
 obj:=fun i h st b j=>by
  have e:b=it:=by simpa using j
  subst e;exact ⟨_,st,fun v z=>by
   have z':Data.fields _=Data.cell v:=z
   cases z'⟩
 keep:=fun i h h' st k=>k it (by simp) _ st
 item:=by
  intro X q hw B F i pins s σ H E I hf st hg;subst q hw B;obtain ⟨f0,f1,f2,G,f4,J⟩:=hf it (by simp)
  have W:=Walks.range (prog:=X.prog) (w:=X.w) (I.ok.hd F) it lo 1 n;refine W.item i s _ _ hg st fun v h' tk L st' kk => ?_;obtain ⟨t,rfl⟩:=L;have O:Inv X pins σ H { s with heap:=h',toks:=tk }:=I.turned (fun b o j e=>kk b o (by simpa using j) e) f0 f1 G f4 J
  refine ⟨_,rfl,ku (s := { s with heap:=h',toks:=tk }) (n := "range_iterator") st' rfl rfl (by decide) ⟨.int (lo+i),H,O,⟨t, ?_⟩,⟨rfl,rfl⟩,st',fun b j=>(hf b j).1⟩⟩
  rw [Int.mul_one]
 done:=by
  intro X q hw B F i pins s σ H E I hf st hg;subst q hw B;obtain ⟨f0,f1,f2,G,f4,J⟩:=hf it (by simp)
  exact wpAny_pyNext_range_end (I.ok.hd F) st (by have:n<=i:=hg;omega) fun h' eb=>⟨rfl,I.turned (t':=s.toks) (fun b o j e=>eb b o j e) f0 f1 G f4 J⟩
 self:=fun _ _ _ _ _ st h=>wpAny_pyIter_rangeiter st h
end
section
section
variable {X:Cx} {tg:Expr}
theorem kB {pins:List (Addr×Obj)} {σ:St} {H:Hp} {s:hH} {R:It->Hp->Prop} {E:h6->hH->Prop} {lo hi:Int} {t u v:Tok} {tk:Nat} (I:Inv X pins σ H s) (h1 : -(2 ^ 62)<=lo) (h2:lo < 2 ^ 62) (z : -(2 ^ 62)<=hi) (B:hi < 2 ^ 62)
 (q:R (Itr lo (hi - lo).toNat) H):Ec (model X.prog X.w) X.A (Le (.ref s.heap.objs.size)) (PIE X pins σ tg R) E { s with heap:=s.heap.push { cls := .type "range",data := .fields #[.int lo t, .int hi u, .int 1 v] },toks:=tk }:=by
 refine wpAny_pyIter_range (IsRange.new ..) (small_one h1 h2 z B) ?_;have j:Inv X pins σ H { s with heap:=s.heap.push { cls := .type "range",data := .fields #[.int lo t, .int hi u, .int 1 v] },toks:=tk }:=I.kept fun b o e=>h7 _ e
 refine ⟨(s.heap.push { cls := .type "range",data := .fields #[.int lo t, .int hi u, .int 1 v] }).objs.size,[(s.heap.push { cls := .type "range",data := .fields #[.int lo t, .int hi u, .int 1 v] }).objs.size],_,_,H,rfl,
  j.kept (t':=tk) fun b o e=>h7 _ e,oW _ lo (hi - lo).toNat, ?_,fun b F => ?_,q⟩
 ·have G:lo+((0:Nat):Int)*1=lo:=by simp
  have J:(((hi - lo).toNat:Nat):Int) - ((0:Nat):Int)=Builtin.Range.rangeSize lo hi 1:=by rw [rangeSize_one];split <;> omega
  show IsRangeIter _ _ (lo+((0:Nat):Int)*1) ((((hi - lo).toNat:Nat):Int) - ((0:Nat):Int)) 1;rw [G,J];exact E1 _ rfl
 ·have e:b=(s.heap.push { cls := .type "range",data := .fields #[.int lo t, .int hi u, .int 1 v] }).objs.size:=by simpa using F
  subst e;exact j.fpOk (E3 _) (j.hok.fresh (E3 _))
noncomputable def Ay (ta:TA):TI:=fun σ H R=>ta σ H fun vs H1 => ∃ j:Int,vs=[.int j] /\ -(2 ^ 62)<=j/\j < 2 ^ 62/\R (Itr 0 j.toNat) H1
noncomputable def Az (ta:TA):TI:=fun σ H R=>ta σ H fun vs H1 => ∃ i j:Int,vs=[.int i, .int j]/\(-(2 ^ 62)<=i/\i < 2 ^ 62 /\ -(2 ^ 62)<=j/\j < 2 ^ 62)/\R (Itr i (j - i).toNat) H1
theorem qD {a:Expr} {ta:TA} {p pos:Pos} (B:Gl X "range") (hm:X.mg "range" = none) (F:PA X [a] ta) (hs:Et [a] X.env=[(false,eval a X.env)]:=by rfl):PI X tg (.Call (.Name "range" p) [a] [] pos) (Ay ta):=by
 intro pins s σ H R I h;refine Call_ (di I B hm boot_range (FE (thn (F pos pins s σ H _ I h) fun us s1 ⟨vs,H1,G,J,z⟩ => ?_) hs rfl));obtain ⟨j,e,z,L,q⟩:=z;subst e
 cases J with
 | cons r rr =>
   cases rr
   obtain ⟨t,rfl⟩:=r;exact call_range_1 (kB G (by omega) (by omega) z L (by simpa using q))
theorem qE {a b:Expr} {ta:TA} {p pos:Pos} (F:Gl X "range") (hm:X.mg "range" = none) (G:PA X [a,b] ta) (hs:Et [a,b] X.env=[(false,eval a X.env),(false,eval b X.env)]:=by rfl) (z:Et [b] X.env=[(false,eval b X.env)]:=by rfl) :
 PI X tg (.Call (.Name "range" p) [a,b] [] pos) (Az ta):=by
 intro pins s σ H R I h;refine Call_ (di I F hm boot_range (FE (thn (G pos pins s σ H _ I h) fun us s1 ⟨vs,H1,J,L,B⟩ => ?_) (by rw [hs,z]) (by rw [z];rfl)))
 obtain ⟨i,j,e,⟨B,O,U,Y⟩,q⟩:=B;subst e
 cases L with
 | cons r rr =>
   cases rr with
   | cons r' rr =>
     cases rr
     obtain ⟨t,rfl⟩:=r;obtain ⟨t',rfl⟩:=r';exact call_range_2 (kB J B O U Y q)
noncomputable def yT (wi:TI) (g:TG) (tb:TS):TS:=fun D σ H=>wi σ H fun J H1 => ∃ W:Nat->Nat->St->Hp->Prop,(∃ m,W 0 m σ H1) /\ ∀ i m σ H,W i m σ H ->
 (J.stop i H/\D.nx σ H)∨(J.go i H /\ ∃ N:St->Hp->Prop,(∀ σ' H',N σ' H' -> ∃ m',m' < m/\W (i+1) m' σ' H') /\ ∀ x H',J.yld i H x H'->g x σ H' fun σ2 H2=>tb { D with nx:=N,ct:=N,bk:=D.nx } σ2 H2)
noncomputable def i4 (fp:List Addr) (h:Heap):List (Addr×Obj):=fp.filterMap fun b=>(h.get? b).map fun o=>(b,o)
theorem cM {fp:List Addr} {h:Heap} {b:Addr} {o:Obj} (j:b∈fp) (e:h.get? b=some o):(b,o)∈i4 fp h:=Lf.mpr ⟨b,j,by rw [e];rfl⟩
theorem qF {fp:List Addr} {h:Heap} {p:Addr×Obj} (j:p∈i4 fp h):p.1∈fp/\h.get? p.1=some p.2:=by
 obtain ⟨b,z,e⟩:=Lf.mp j
 cases q:h.get? b with
 | none=>rw [q] at e;cases e
 | some o =>
   rw [q] at e;have e':(b,o)=p:=FO.inj e;subst e';exact ⟨z,q⟩
theorem Inv.pinned {pins:List (Addr×Obj)} {σ:St} {H:Hp} {s:hH} {fp:List Addr} (I:Inv X pins σ H s) (hf:∀ b∈fp,bT X pins H b) (ho:∀ b∈fp, ∃ o,s.heap.get? b=some o /\ ∀ v,o.data ≠ .cell v):Inv X (pins++i4 fp s.heap) σ H s :=
 I.pins_of fun p q=>(Ea.mp q).elim (fun z=>I.pin p (Ek _ z)) fun z=>by
  obtain ⟨j,e⟩:=qF z;obtain ⟨f0,f1,f2,_⟩:=hf p.1 j;obtain ⟨o,e',d⟩:=ho p.1 j;rw [e] at e';cases e';exact ⟨e,f0,f1,f2,d⟩
theorem Inv.unpinned {pins pl:List (Addr×Obj)} {σ:St} {H:Hp} {s:hH} (I:Inv X (pins++pl) σ H s):Inv X pins σ H s:=I.pins_of fun p j=>I.pin p (Ek _ (Fo _ j))
theorem yU {iter:Expr} {body:List Stmt} {wi:TI} {g:TG} {tb:TS} {pos:Pos} (G:PassesOwn (model X.prog X.w) X.A X.env X.xe) (hc:X.calm=true) (hi:PI X tg iter wi) (hg:PG X tg g) (j:PSs X body tb)
 (hs:∀ x,G6 iter X.env x=pure x:=by intro _;rfl):PS X (.For tg iter body [] pos) (yT wi g tb):=by
 intro pins s σ H D I h;refine wpAny_For (thn (hi pins s σ H _ I h) fun v s1 h1=>thn h1 fun itv s2 h2 => ?_) hs;obtain ⟨it,fp,tn,J,H2,e,I2,T,Z,f2,W,⟨m0,w0⟩,turn⟩:=h2;subst e;have stat:∀ {H':Hp},(∀ b∈fp,H' b=none) -> ∀ b∈fp,bT X pins H' b:=fun hn b j=>⟨hn b j,(f2 b j).2⟩;refine codeAny_forLoop_any (fun n s' => ∃ i σ' H',Inv X pins σ' H' s'/\tn i s'.heap/\(∀ b∈fp,H' b=none)/\W i n σ' H') ?_ m0 ⟨0, σ,H2,I2,Z,fun b j=>(f2 b j).1,w0⟩;rintro n s3 ⟨i, σ3,Y,I3,L,O,w3⟩
 rcases turn i n σ3 Y w3 with ⟨stop,qn⟩ | ⟨go,N,hN,step⟩
 ·refine GA G (thn (T.done X rfl rfl rfl hc i pins s3 σ3 Y X.xe I3 (stat O) L stop) fun r s4 ⟨hr,I4⟩ => ?_);subst hr;exact K7 ⟨σ3,Y,I4,qn⟩
 ·refine GA G (thn (T.item X rfl rfl rfl hc i pins s3 σ3 Y X.xe I3 (stat O) L go) fun r s4 ⟨u,hr,h4⟩ => ?_);subst hr;refine GA G (thn h4 fun _ s5 ⟨x,H5,I5,r5,y5,F,BJ⟩ => ?_);have BK:=I5.pinned (stat BJ) (T.obj _ _ F);refine GA G (thn (hg _ s5 σ3 H5 x u _ BK r5 (step x H5 y5)) fun _ s6 ⟨σ6,H6,I6,q6⟩ => ?_);refine GA G (thn (j _ s6 σ6 H6 _ I6 q6) fun f s7 B => ?_);have again:∀ {σ7:St} {q:Hp},Inv X (pins++i4 fp s5.heap) σ7 q s7->N σ7 q -> ∃ m,m < n /\ ∃ i σ' H',Inv X pins σ' H' s7/\tn i s7.heap/\(∀ b∈fp,H' b=none)/\W i m σ' H':=fun {σ7 q} z U=>by
   obtain ⟨m',hm,w7⟩:=hN σ7 q U;refine ⟨m',hm,i+1, σ7,q,z.unpinned,T.keep _ _ _ F fun b j o e=>(z.pin (b,o) (Ek _ (Ek _ (cM j e)))).1,fun b j => ?_,w7⟩;obtain ⟨o,e,d⟩:=T.obj _ _ F b j;exact (z.pin (b,o) (Ek _ (Ek _ (cM j e)))).2.1
  cases f with
  | next=>obtain ⟨σ7,q,z,U⟩:=B;exact again z U
  | cont=>obtain ⟨σ7,q,z,U⟩:=B;exact again z U
  | brk=>obtain ⟨σ7,q,z,B⟩:=B;exact ⟨σ7,q,z.unpinned,B⟩
  | ret v=>obtain ⟨x7, σ7,q,z,r7,B⟩:=B;exact ⟨x7, σ7,q,z.unpinned,r7,B⟩
end
end
section
noncomputable abbrev R2:=V->V->Hp->VK->Prop
def OpR (X:Cx) (f:h6->h6->Sem h6) (r:R2):Prop :=
 ∀ (pins:List (Addr×Obj)) (s:hH) (σ:St) (H:Hp) (x y:V) (v u:h6) (Q:VK),Inv X pins σ H s->RelV x v->RelV y u->r x y H Q ->
  Ec (model X.prog X.w) X.A (f v u) (EP X pins σ Q) X.xe s
def UnR (X:Cx) (f:h6->Sem h6) (r:V->Hp->VK->Prop):Prop :=
 ∀ (pins:List (Addr×Obj)) (s:hH) (σ:St) (H:Hp) (x:V) (v:h6) (Q:VK),Inv X pins σ H s->RelV x v->r x H Q ->
  Ec (model X.prog X.w) X.A (f v) (EP X pins σ Q) X.xe s
def CallR (X:Cx) (f:h6) (r:List V->Hp->VK->Prop):Prop :=
 ∀ (pins:List (Addr×Obj)) (s:hH) (σ:St) (H:Hp) (xs:List V) (us:List h6) (Q:VK),Inv X pins σ H s->Vals xs us->r xs H Q ->
  Ec (model X.prog X.w) X.A (call f us) (EP X pins σ Q) X.xe s
def Bm (X:Cx) (r:V->Hp->(Bool->Hp->Prop)->Prop):Prop :=
 ∀ (pins:List (Addr×Obj)) (s:hH) (σ:St) (H:Hp) (x:V) (v:h6) (Q:Bool->Hp->Prop),Inv X pins σ H s->RelV x v->r x H Q ->
  Ec (model X.prog X.w) X.A (truthy v) (TP X pins σ Q) X.xe s
noncomputable def tOp (r:R2) (ta tb:TE):TE:=fun σ H Q=>ta σ H fun x H1=>tb σ H1 fun y H2=>r x y H2 Q
noncomputable def tUn (r:V->Hp->VK->Prop) (ta:TE):TE:=fun σ H Q=>ta σ H fun x H1=>r x H1 Q
noncomputable def rI (C:Int->Int->Prop) (g:Int->Int->V):R2:=fun x y H Q => ∃ i j,x = .int i/\y = .int j/\C i j/\Q (g i j) H
noncomputable def rI0 (g:Int->Int->V):R2:=fun x y H Q => ∃ i j,x = .int i/\y = .int j/\Q (g i j) H
noncomputable def rU (g:Int->V):V->Hp->VK->Prop:=fun x H Q => ∃ i,x = .int i/\Q (g i) H
section
variable {X:Cx} {a b c:Expr} {ta tb tc:TE} {pos:Pos}
theorem tR (j:PE X a ta) (q:PE X b tb) {pins:List (Addr×Obj)} {s:hH} {σ:St} {H:Hp} {R:V->V->Hp->Prop} (I:Inv X pins σ H s)
 (h:ta σ H fun x H1=>tb σ H1 fun y H2=>R x y H2) {Q:h6->hH->Prop} {f:h6->h6->Sem h6}
 (hf:∀ v u s2 x y H2,Inv X pins σ H2 s2->RelV x v->RelV y u->R x y H2->Ec (model X.prog X.w) X.A (f v u) Q X.xe s2) :
 Ec (model X.prog X.w) X.A (eval a X.env) (fun v s₁ => Ec (model X.prog X.w) X.A (eval b X.env) (fun u s₂ => Ec (model X.prog X.w) X.A (f v u) Q X.xe s₂) X.xe s₁) X.xe s:=by
 refine thn (j pins s σ H _ I h) fun v s1 ⟨x,H1,z,B,F⟩ => ?_;refine thn (q pins s1 σ H1 _ z F) fun u s2 ⟨y,H2,G,J,L⟩ => ?_;exact hf v u s2 x y H2 G B J L
theorem AA {op:Lr} {r:R2} (ho:OpR X (Fy op) r) (j:PE X a ta) (z:PE X b tb):PE X (.BinOp a op b pos) (tOp r ta tb):=by
 intro pins s σ H Q I h;exact wpAny_BinOp (tR j z I h fun v u s2 x y H2 B rx ry q=>ho pins s2 σ H2 x y v u Q B rx ry q)
theorem AB {op:UnaryOp} {r:V->Hp->VK->Prop} (ho:UnR X (unaryOp op) r) (j:PE X a ta):PE X (.UnaryOp op a pos) (tUn r ta):=by
 intro pins s σ H Q I h;exact UnaryOp_ (thn (j pins s σ H _ I h) fun v s1 ⟨x,H1,q,z,B⟩=>ho pins s1 σ H1 x v Q q z B)
theorem opI {f:h6->h6->Sem h6} {C:Int->Int->Prop} {g:Int->Int->Int}
 (rule:∀ (i j:Int) (t u:Tok) (s:hH) (Q:h6->hH->Prop) (E:h6->hH->Prop),C i j->Q (.int (g i j) s.toks) { s with toks:=s.toks+1 }->Ec (model X.prog X.w) X.A (f (.int i t) (.int j u)) Q E s) :
 OpR X f (rI C fun i j => .int (g i j)):=by
 intro pins s σ H x y v u Q I rx ry h;obtain ⟨i,j,rfl,rfl,z,q⟩:=h;obtain ⟨t,rfl⟩:=rx;obtain ⟨t',rfl⟩:=ry;exact rule i j t t' s _ _ z ⟨.int (g i j),H,I.tok _,⟨_,rfl⟩,q⟩
theorem yV {f:h6->h6->Sem h6} {g:Int->Int->Int}
 (rule:∀ (i j:Int) (t u:Tok) (s:hH) (Q:h6->hH->Prop) (E:h6->hH->Prop),Q (.int (g i j) s.toks) { s with toks:=s.toks+1 }->Ec (model X.prog X.w) X.A (f (.int i t) (.int j u)) Q E s) :
 OpR X f (rI0 fun i j => .int (g i j)):=by
 intro pins s σ H x y v u Q I rx ry h;obtain ⟨i,j,rfl,rfl,q⟩:=h;obtain ⟨t,rfl⟩:=rx;obtain ⟨t',rfl⟩:=ry;exact rule i j t t' s _ _ ⟨.int (g i j),H,I.tok _,⟨_,rfl⟩,q⟩
theorem oZ {f:h6->h6->Sem h6} {g:Int->Int->Bool}
 (rule:∀ (i j:Int) (t u:Tok) (s:hH) (Q:h6->hH->Prop) (E:h6->hH->Prop),Q (.bool (g i j)) s->Ec (model X.prog X.w) X.A (f (.int i t) (.int j u)) Q E s) :
 OpR X f (rI0 fun i j => .bl (g i j)):=by
 intro pins s σ H x y v u Q I rx ry h;obtain ⟨i,j,rfl,rfl,q⟩:=h;obtain ⟨t,rfl⟩:=rx;obtain ⟨t',rfl⟩:=ry;exact rule i j t t' s _ _ ⟨.bl (g i j),H,I,rfl,q⟩
def Bn (i j:Int):Prop := 0<=j/\j<=1000000/\i.natAbs < 2 ^ 64
theorem op_add:OpR X (Fy .Add) (rI0 fun i j => .int (i+j)):=yV fun _ _ _ _ _ _ _ q=>add_int q
theorem yW:OpR X (Fy .Sub) (rI0 fun i j => .int (i - j)):=yV fun _ _ _ _ _ _ _ q=>sub_int q
theorem yX:OpR X (Fy .Mod) (rI (fun _ j => 0 < j) fun i j => .int (i % j)):=opI fun i j _ _ _ _ _ z q=>by
 have h1:(0:Int) < j:=z;exact mod_int' (by omega) (by rw [Int.fmod_eq_emod_of_nonneg i (by omega)];exact q)
theorem yY:OpR X (Fy .Pow) (rI Bn fun i j => .int (i ^ j.toNat)):=opI fun _ _ _ _ _ _ _ z q=>pow_int_small z.1 z.2.1 z.2.2 q
theorem unI {f:h6->Sem h6} {g:Int->Int}
 (rule:∀ (i:Int) (t:Tok) (s:hH) (Q:h6->hH->Prop) (E:h6->hH->Prop),Q (.int (g i) s.toks) { s with toks:=s.toks+1 }->Ec (model X.prog X.w) X.A (f (.int i t)) Q E s) :
 UnR X f (rU fun i => .int (g i)):=by
 intro pins s σ H x v Q I rx h;obtain ⟨i,rfl,q⟩:=h;obtain ⟨t,rfl⟩:=rx;exact rule i t s _ _ ⟨.int (g i),H,I.tok _,⟨_,rfl⟩,q⟩
theorem yZ:UnR X (unaryOp .USub) (rU fun i => .int (-i)):=unI fun _ _ _ _ _ q=>neg_int q
end
section
variable {X:Cx} {a b c:Expr} {ta tb tc:TE} {pos:Pos}
theorem AC:OpR X (FL .Lt) (rI0 fun i j => .bl (decide (i < j))):=oZ fun _ _ _ _ _ _ _ q=>lt_int q
theorem AD:OpR X (FL .LtE) (rI0 fun i j => .bl (decide (i<=j))):=oZ fun _ _ _ _ _ _ _ q=>le_int q
theorem AE:OpR X (FL .Gt) (rI0 fun i j => .bl (decide (j < i))):=oZ fun _ _ _ _ _ _ _ q=>gt_int q
theorem AF:OpR X (FL .GtE) (rI0 fun i j => .bl (decide (j<=i))):=oZ fun _ _ _ _ _ _ _ q=>ge_int q
theorem OpR.or {f:h6->h6->Sem h6} {r r':R2} (h:OpR X f r) (h':OpR X f r'):OpR X f (fun x y H Q=>r x y H Q∨r' x y H Q):=by
 intro pins s σ H x y v u Q I rx ry q
 rcases q with q | q
 ·exact h pins s σ H x y v u Q I rx ry q
 ·exact h' pins s σ H x y v u Q I rx ry q
theorem wG {op:CmpOp} {r:R2} (ho:OpR X (FL op) r) (j:PE X a ta) (z:PE X b tb) (hm:HG op b=false):PE X (.Compare a [op] [b] pos) (tOp r ta tb):=by
 intro pins s σ H Q I h;exact wpAny_Compare1 (tR j z I h fun v u s2 x y H2 B rx ry q=>ho pins s2 σ H2 x y v u Q B rx ry q) hm
noncomputable def vP (t:TE):TT:=fun σ H Q=>t σ H fun x H' => ∃ k,x = .bl k/\Q k H'
theorem wH {op:CmpOp} {r:R2} (ho:OpR X (FL op) r) (j:PE X a ta) (q:PE X b tb) (hm:HG op b=false):PT X (.Compare a [op] [b] pos) (vP (tOp r ta tb)):=by
 intro pins s σ H Q I h;refine wpAny_isTrue_Compare1 (thn (j pins s σ H _ I h) fun v s1 ⟨x,H1,B,F,G⟩=>thn (q pins s1 σ H1 _ B G) fun u s2 ⟨y,H2,J,L,O⟩ =>
  thn (ho pins s2 σ H2 x y v u _ J F L O) fun c s3 ⟨z,U,Y,Z,k,e,q3⟩ => ?_) hm
 subst e
 cases Z
 exact GD ⟨U,Y,q3⟩
def tS (K:Frag) (x:V) (H:Hp) (k:Bool):Prop :=
 match x with
 | .non=>k=false
 | .bl b=>k=b
 | .int i=>k=(i != 0)
 | .str y=>y.length<=DY/\k=((y.length:Int) != 0)
 | .byt y=>y.size<=DY/\k=((y.size:Int) != 0)
 | .ref p=>(∃ xs,SqL K H p xs/\k = !xs.isEmpty)∨(∃ xs,SqT K H p xs/\k = !xs.isEmpty) ∨ ∃ kvs,H p=some (.dK kvs)/\k = !kvs.isEmpty
 | _=>False
theorem p7 {κ:Type} {kvs:List (κ × V)} {vs:List (κ × h6)} (r:KV kvs vs):(!vs.isEmpty) = !kvs.isEmpty:=by
 cases r <;> rfl
theorem i5 {xs:List V} {its:List h6} (r:Vals xs its):(!its.toArray.isEmpty) = !xs.isEmpty:=by
 cases r <;> simp
theorem dM:(DY:Nat) < 2 ^ 63:=by rw [D1];decide
theorem z9:Bm X (fun x H Q => ∃ k,tS X.K x H k/\Q k H):=by
 intro pins s σ H x v Q I rx h;obtain ⟨k,e,q⟩:=h;have F:=dM;have hs:DY=16777216:=D1
 cases x with
 | non =>
   cases rx
   have e':k=false:=e;subst e';exact truthy_none ⟨H,I,q⟩
 | bl b =>
   cases rx
   have e':k=b:=e;subst e';exact GD ⟨H,I,q⟩
 | int i =>
   obtain ⟨t,rfl⟩:=rx;have e':k=(i != 0):=e;subst e';exact PySem.P.truthy_int ⟨H,I,q⟩
 | str y =>
   obtain ⟨t,rfl⟩:=rx;obtain ⟨z,e'⟩:y.length<=DY/\k=((y.length:Int) != 0):=e;subst e';exact PySem.P.truthy_str (by omega) ⟨H,I.tok _,q⟩
 | byt y =>
   obtain ⟨t,rfl⟩:=rx;obtain ⟨z,e'⟩:y.size<=DY/\k=((y.size:Int) != 0):=e;subst e';exact PySem.W.truthy_bytes (by omega) ⟨H,I.tok _,q⟩
 | ref p =>
   cases rx
   have e':(∃ xs,SqL X.K H p xs/\k = !xs.isEmpty)∨(∃ xs,SqT X.K H p xs/\k = !xs.isEmpty) ∨ ∃ kvs,H p=some (.dK kvs)/\k = !kvs.isEmpty:=e
   rcases e' with ⟨xs,hx,e'⟩ | ⟨xs,hx,e'⟩ | ⟨kvs,hx,e'⟩
   ·subst e';obtain ⟨its,r,pl,j⟩:=I.list hx;have hlen:=r.length;exact wpAny_truthy_list pl.isList (by simp only [E4];omega) ⟨H,I.tok _,by rw [i5 r];exact q⟩
   ·subst e';obtain ⟨its,r,pl,j⟩:=I.tuple hx;have hlen:=r.length;exact truthy_tuple pl (by simp only [E4];omega) ⟨H,I.tok _,by rw [i5 r];exact q⟩
   ·subst e';obtain ⟨j,B,vs,r,m⟩:kvs.length<=DY/\(p==FF)=false /\ ∃ vs,KV kvs vs/\s.heap.DictOf (aD X.prog X.w) p vs:=I.hok p _ hx;have hlen:kvs.length=vs.length:=FZ r;exact wpAny_truthy_dict B m (by omega) ⟨H,I.tok _,by rw [p7 r];exact q⟩
 | _=>exact (show False from e).elim
theorem tT (j:PE X a ta) (he:∀ whole,isTrue a X.env whole=(do let v <- whole;Jr a.pos;holding [v] (truthy v))) :
 PT X a (fun σ H Q=>ta σ H fun x H' => ∃ k,tS X.K x H' k/\Q k H'):=by
 intro pins s σ H Q I h;exact isTrue_plain (thn (j pins s σ H _ I h) fun v s1 ⟨x,H1,q,z,B⟩=>z9 pins s1 σ H1 x v Q q z B) (he _)
theorem p8:OpR X (Fy .Add) (fun x y H Q => ∃ i j,x = .str i/\y = .str j/\i.length+j.length<=DY/\Q (.str (i++j)) H):=by
 intro pins s σ H x y v u Q I rx ry h;obtain ⟨i,j,rfl,rfl,z,q⟩:=h;obtain ⟨t,rfl⟩:=rx;obtain ⟨t',rfl⟩:=ry;exact add_str (fun t' tk=>⟨.str (i++j),H,I.tok _,⟨_,rfl⟩,q⟩) z
theorem cB {x:V} {us:List h6} (r:Vals [x] us):∃ u,us=[u]/\RelV x u:=by
 cases r with
 | cons j q=>cases q;exact ⟨_,rfl,j⟩
theorem p9 {x y:V} {us:List h6} (r:Vals [x,y] us):∃ u w',us=[u,w']/\RelV x u/\RelV y w':=by
 cases r with
 | cons j q =>
   cases q with
   | cons z B=>cases B;exact ⟨_,_,rfl,j,z⟩
theorem tU:CallR X (.builtin "abs") (fun xs H Q => ∃ i,xs=[.int i]/\Q (.int (if i < 0 then -i else i)) H):=by
 intro pins s σ H xs us Q I r h;obtain ⟨i,rfl,q⟩:=h;obtain ⟨u,rfl,t,rfl⟩:=cB r;exact call_abs_int fun u tk=>⟨.int (if i < 0 then -i else i),H,I.tok _,⟨_,rfl⟩,q⟩
theorem qG (B:X.calm=true):CallR X (.builtin "max") (fun xs H Q => ∃ i j,xs=[.int i, .int j]/\Q (.int (if j > i then j else i)) H):=by
 intro pins s σ H xs us Q I r h;obtain ⟨i,j,rfl,q⟩:=h;obtain ⟨u,w',rfl,⟨t,rfl⟩,⟨t',rfl⟩⟩:=p9 r;refine max_two_ints (I.ok.hd B) fun h' tk k=>⟨_,H,I.kept k, ?_,q⟩
 by_cases z:j > i
 ·rw [if_pos z,if_pos z];exact ⟨_,rfl⟩
 ·rw [if_neg z,if_neg z];exact ⟨_,rfl⟩
theorem qH (B:X.calm=true):CallR X (.builtin "min") (fun xs H Q => ∃ i j,xs=[.int i, .int j]/\Q (.int (if j < i then j else i)) H):=by
 intro pins s σ H xs us Q I r h;obtain ⟨i,j,rfl,q⟩:=h;obtain ⟨u,w',rfl,⟨t,rfl⟩,⟨t',rfl⟩⟩:=p9 r;refine min_two_ints (I.ok.hd B) fun h' tk k=>⟨_,H,I.kept k, ?_,q⟩
 by_cases z:j < i
 ·rw [if_pos z,if_pos z];exact ⟨_,rfl⟩
 ·rw [if_neg z,if_neg z];exact ⟨_,rfl⟩
theorem qI:CallR X (.type "int") (fun xs H Q=>(∃ i,xs=[.int i]/\Q (.int i) H) ∨ ∃ k,xs=[.bl k]/\Q (.int (if k then 1 else 0)) H):=by
 intro pins s σ H xs us Q I r h
 rcases h with ⟨i,rfl,q⟩ | ⟨k,rfl,q⟩
 ·obtain ⟨u,rfl,t,rfl⟩:=cB r;exact call_int_int ⟨.int i,H,I,⟨_,rfl⟩,q⟩
 ·obtain ⟨u,rfl,j⟩:=cB r
  cases j
  exact call_int_bool ⟨.int (if k then 1 else 0),H,I.tok _,⟨_,rfl⟩,q⟩
def Bo (K:Frag) (x:V) (H:Hp) (n:Nat):Prop :=
 match x with
 | .str y=>y.length<=DY/\n=y.length
 | .byt y=>y.size<=DY/\n=y.size
 | .ref p=>(∃ xs,SqL K H p xs/\n=xs.length) ∨ ∃ xs,SqT K H p xs/\n=xs.length
 | _=>False
theorem tV:CallR X (.builtin "len") (fun xs H Q => ∃ x n,xs=[x]/\Bo X.K x H n/\Q (.int n) H):=by
 intro pins s σ H xs us Q I r h;obtain ⟨x,n,rfl,e,q⟩:=h;obtain ⟨u,rfl,rx⟩:=cB r;have B:=dM;have hs:DY=16777216:=D1
 cases x with
 | str y =>
   obtain ⟨t,rfl⟩:=rx;obtain ⟨j,e'⟩:y.length<=DY/\n=y.length:=e;subst e';exact len_str (by omega) ⟨.int _,H,I.tok _,⟨_,rfl⟩,q⟩
 | byt y =>
   obtain ⟨t,rfl⟩:=rx;obtain ⟨j,e'⟩:y.size<=DY/\n=y.size:=e;subst e';exact PySem.W.len_bytes (by omega) ⟨.int _,H,I.tok _,⟨_,rfl⟩,q⟩
 | ref p =>
   cases rx
   have e':(∃ xs,SqL X.K H p xs/\n=xs.length) ∨ ∃ xs,SqT X.K H p xs/\n=xs.length:=e
   rcases e' with ⟨xs,hx,e'⟩ | ⟨xs,hx,e'⟩
   ·subst e';obtain ⟨its,r',pl,z⟩:=I.list hx;have hlen:=r'.length;exact Calls.call_len_list pl.isList (by simp only [E4];omega) ⟨.int xs.length,H,I.tok _,⟨_,by simp only [E4];rw [hlen]⟩,q⟩
   ·subst e';obtain ⟨its,r',pl,z⟩:=I.tuple hx;have hlen:=r'.length;exact len_tuple pl (by simp only [E4];omega) ⟨.int xs.length,H,I.tok _,⟨_,by simp only [E4];rw [hlen]⟩,q⟩
 | _=>exact (show False from e).elim
end
end
section
structure ObjM (h:Heap) (x dx C:Addr) (mA:Str->Option h6):Prop where
 obj:h.get? x=some (K6 C dx)
 ns:h.Ns1 dx mA
 ne:dx≠x
theorem qJ {h:Heap} {dx:Addr} {mA:Str->Option h6} (n:h.Ns1 dx mA):∃ od,h.get? dx=some od /\ ∀ name,Ki name od=some (mA name):=by
 obtain ⟨o,es,ep,ho,hd,B,_,hm⟩:=n;refine ⟨o,ho,fun name => ?_⟩;have e:=hm name;unfold nsFind findBy at e;rw [<- Array.find?_toList] at e;unfold Ki;rw [hd];dsimp only
 split
 ·rename_i y q;rw [q] at e;exact congrArg some e
 ·rename_i q;rw [q] at e;have a:es.toList.any (·.refKey)=false:=by
   rw [Lu];intro y F;obtain ⟨z,t,j⟩:=B y (Array.mem_toList_iff.mp F);simp [DictEntry.refKey,j]
  have a' : ¬ es.toList.any (·.refKey)=true:=by rw [a];exact E2
  rw [if_neg a'];exact congrArg some e
theorem ObjM.look {h:Heap} {x dx C:Addr} {mA:Str->Option h6} (I:ObjM h x dx C mA):∃ od,PySem.W.InstAt h x (K6 C dx) C (some od) /\ ∀ name,Ki name od=some (mA name) :=
 let ⟨od,ho,j⟩:=qJ I.ns
 ⟨od,⟨I.obj,rfl,rfl,ho⟩,j⟩
theorem NB {v:V} {o:Option h6} (r:RelO (some v) o):∃ u,o=some u/\RelV v u:=by
 cases o with
 | none=>exact (show False from r).elim
 | some u=>exact ⟨u,rfl,r⟩
section
variable {P:Ep} {w:EM} {H H':Hp} {h h':Heap} {a C dx:Addr} {fs fs':List (Str×V)}
theorem wJ (hok:HOk P w H h) (e:H a=some (.ins C dx fs)):∃ mA,ObjM h a dx C mA/\(∀ f,RelO (fs.lookup f) (mA f))/\PySem.Within mA (fs.map (·.1))/\fs.length<=1000/\H dx=some (.own a):=by
 obtain ⟨d,z,ne,ob,mA,n,r,q⟩:=(show ObjOk P w H h a (.ins C dx fs) from hok a _ e);exact ⟨mA,⟨ob,n,ne⟩,r,q,z,d⟩
end
structure Cls (K:Frag) (C:Addr):Prop where
 pg:LR K C Str.empty=true
 hd:PySem.W.hasDictIn K C=true
 po:PySem.W.plainOver K C=true
 sa:PySem.W.findIn K (.ref C) "__setattr__" = some (some (.builtin "object.__setattr__"))
theorem Cls.get {K:Frag} {C:Addr} (c:Cls K C) (f:Str):LR K C f=true:=c.pg
section
variable {X:Cx} {pins:List (Addr×Obj)} {σ:St} {H:Hp} {s:hH} {A:F5} {E:h6->hH->Prop} {Q:h6->hH->Prop} {c:h6} {b:Bool}
inductive ci (K:Frag) (H:Hp):V->h6->Prop where
 | non:ci K H .non (.type "NoneType")
 | bl (x:Bool):ci K H (.bl x) (.type "bool")
 | int (i:Int):ci K H (.int i) (.type "int")
 | str (x:Str):ci K H (.str x) (.type "str")
 | flt (x:UInt64):ci K H (.flt x) (.type "float")
 | lst {a:Addr} {xs:List V} (e:H a=some (.lst xs)):ci K H (.ref a) (.type "list")
 | frz {a:Addr} {o:Obj} {xs:List V} (e:H a=some (.frz o (.lst xs))):ci K H (.ref a) (.type "list")
 | tup {a:Addr} {xs:List V} (e:SqT K H a xs):ci K H (.ref a) (.type "tuple")
 | dK {a:Addr} {kvs:List (Key×V)} (e:H a=some (.dK kvs)):ci K H (.ref a) (.type "dict")
 | dT {a:Addr} {kvs:List (List Key×V)} (e:H a=some (.dT kvs)):ci K H (.ref a) (.type "dict")
 | ins {a C dx:Addr} {fs:List (Str×V)} (e:H a=some (.ins C dx fs)) (cl:Cls K C) (ha:PySem.W.findIn K (.ref C) "__class__" = some (some (.builtin "object.__class__")))
    (hn:PySem.W.specialIn K (.builtin "object.__class__") "__get__" = some (some (.builtin "getset_descriptor.__get__"))) (htk:PySem.W.takesIn K (.builtin "object.__class__")=some true)
    (hm:PySem.W.mroIn K C (.type "object")=some true):ci K H (.ref a) (.ref C)
theorem qK {x:V} {u t:h6} (I:Inv X pins σ H s) (rx:RelV x u) (ty:ci X.K H x t) (e:PySem.W.kitOne X.K t c=some b) (h:∀ tk,Q (.bool b) { s with toks:=tk }) :
 Ec (model X.prog X.w) A (call (.builtin "isinstance") [u,c]) Q E s:=by
 cases ty with
 | non=>cases (show u=H4 from rx);exact Fp PySem.W.kitx_none I.kIn Gu e (fun z=>nomatch z) h
 | bl y=>cases (show u=Ld y from rx);exact Fp PySem.W.kitx_bool I.kIn Gu e (fun z=>nomatch z) h
 | int i=>obtain ⟨t,q⟩:=(show ∃ t,u=LP i t from rx);cases q;exact Fp PySem.W.kitx_int I.kIn Gu e (fun z=>nomatch z) h
 | str y=>obtain ⟨t,q⟩:=(show ∃ t,u=LQ y t from rx);cases q;exact Fp PySem.W.kitx_str I.kIn Gu e (fun z=>nomatch z) h
 | flt y=>obtain ⟨t,q⟩:=(show ∃ t,u=Value.float y t from rx);cases q;exact Fp PySem.W.kitx_float I.kIn Gu e (fun z=>nomatch z) h
 | @lst a xs ea =>
  cases (show u=Ff a from rx)
  obtain ⟨_,_,n,_,h1⟩:=(show ObjOk X.prog X.w H s.heap a (.lst xs) from I.hok a _ ea);exact Fp Lv I.kIn ⟨_,h1,rfl⟩ e (fun z=>nomatch z) h
 | @frz a ob xs ea =>
  cases (show u=Ff a from rx)
  obtain ⟨_,_,_,n,_,h1⟩:=(show ObjOk X.prog X.w H s.heap a (.frz ob (.lst xs)) from I.hok a _ ea);exact Fp Lv I.kIn ⟨_,h1,rfl⟩ e (fun z=>nomatch z) h
 | @tup a xs ea =>
  cases (show u=Ff a from rx)
  obtain ⟨_,_,p,_⟩:=I.tuple ea;obtain ⟨o,h1,h2,_⟩:=p;exact Fp PySem.W.kitx_tuple I.kIn ⟨o,h1,h2⟩ e (fun z=>nomatch z) h
 | @dK a kvs ea =>
  cases (show u=Ff a from rx)
  obtain ⟨_,_,vs,_,p⟩:=(show ObjOk X.prog X.w H s.heap a (.dK kvs) from I.hok a _ ea);obtain ⟨o,es,ep,h1,h2,_⟩:=p;exact Fp Lw I.kIn ⟨o,h1,h2.1⟩ e (fun z=>nomatch z) h
 | @dT a kvs ea =>
  cases (show u=Ff a from rx)
  obtain ⟨_,_,xs,_,o,es,ep,h1,h2,_⟩:=(show ObjOk X.prog X.w H s.heap a (.dT kvs) from I.hok a _ ea);exact Fp Lw I.kIn ⟨o,h1,h2.1⟩ e (fun z=>nomatch z) h
 | @ins a C dx fs ea cl ha hn htk hm =>
  cases (show u=Ff a from rx)
  obtain ⟨mA,O,_⟩:=wJ I.hok ea;obtain ⟨od,J,_⟩:=O.look;exact Fp (PySem.W.kitx_own (cl.get _) cl.hd ha hn htk hm) I.kIn J e (fun z=>nomatch z) h
end
end
section
structure Room (k:Nat) (A:F5):Prop where
 hd:A.handled=none
 dp:A.depth+3*k+5 < recursionLimit
 un:A.units+16*k+200 < Gv
theorem Room.deeper {k:Nat} {A:F5} (r:Room (k+1) A) (env:Env):Room k (A.deeper env) :=
 ⟨r.hd,by have:=r.dp;show A.depth+1+3*k+5 < _;omega,by have:=r.un;show A.units+3+16*k+200 < _;omega⟩
theorem Room.depth {k:Nat} {A:F5} (r:Room k A):A.depth < recursionLimit:=by have:=r.dp;omega
theorem Room.units {k:Nat} {A:F5} (r:Room k A):A.units+64 < Gv:=by have:=r.un;omega
noncomputable def za:TA:=fun _ H Q=>Q [] H
noncomputable def vQ (ta:TE) (tr:TA):TA:=fun σ H Q=>ta σ H fun x H1=>tr σ H1 fun xs H2=>Q (x::xs) H2
section
variable {X:Cx} {e:Expr} {es:List Expr} {te:TE} {t:TA} {pos:Pos}
theorem qL:PA X [] za:=fun _ _ _ _ H Q I h=>Lx ⟨[],H,I, .nil,h⟩
theorem j7 (j:PE X e te) (q:PA X es t) (hs:Et (e::es) X.env=(false,eval e X.env)::Et es X.env:=by rfl):PA X (e::es) (vQ te t):=by
 intro pos pins s σ H Q I h;rw [hs];show Ec _ _ (spliced ((false,eval e X.env)::HS pos (Et es X.env))) _ _ s;refine Ja (thn (j pins s σ H _ I h) fun u s1 ⟨x,H1,z,B,F⟩ => ?_);exact thn (q pos pins s1 σ H1 _ z F) fun us s2 ⟨xs,H2,G,J,L⟩=>⟨x::xs,H2,G, .cons B J,L⟩
noncomputable def Bp (t:TA):TE:=fun σ H Q=>t σ H fun xs H1=>xs.length<=DY /\ ∀ p,H1 p=none->Q (.ref p) (upd H1 p (.tup xs))
noncomputable def Bq (t:TA):TE:=fun σ H Q=>t σ H fun xs H1=>xs.length<=DY /\ ∀ p,H1 p=none->Q (.ref p) (upd H1 p (.lst xs))
theorem zb {B} (h:PA X es t):PE X (.Tuple es B pos) (Bp t):=by
 intro pins s σ H Q I hq;refine wpAny_Tuple_spliced (thn (h pos pins s σ H _ I hq) fun us s1 ⟨xs,H1,j,r,z,q⟩=>⟨by rw [<- r.length];exact z, ?_⟩)
 have hf:H1 s1.heap.objs.size=none:=j.hok.fresh (E3 _);refine ⟨.ref s1.heap.objs.size,upd H1 s1.heap.objs.size (.tup xs),j.laid (t':=s1.toks) (fun b u e=>h7 _ e) (E3 _) ?_,rfl,q _ hf⟩;exact ⟨z,us,r,⟨_,E1 _ rfl,rfl,_,rfl⟩⟩
theorem zc (h:PA X es t):PE X (.List es pos) (Bq t):=by
 intro pins s σ H Q I hq;refine wpAny_List_spliced (thn (h pos pins s σ H _ I hq) fun us s1 ⟨xs,H1,j,r,z,q⟩=>⟨by rw [<- r.length];exact z, ?_⟩)
 have hf:H1 s1.heap.objs.size=none:=j.hok.fresh (E3 _);refine ⟨.ref s1.heap.objs.size,upd H1 s1.heap.objs.size (.lst xs),j.laid (t':=s1.toks) (fun b u e=>h7 _ e) (E3 _) ?_,rfl,q _ hf⟩;exact ⟨z,us,0,r,E1 _ rfl⟩
end
noncomputable abbrev Sp:=List V->Hp->VK->XK->Prop
noncomputable abbrev CXT:=List Env->Hp->hH->XK->h6->hH->Prop
structure pc (P:Ep) (w:EM) (K:Frag) (mg:Str->Option h6) (base:Heap) (A:F5) (outer:List Env) (s:hH) (H:Hp):Prop where
 frames:A.frames=some outer
 mod:Mod K mg base
 bs:∀ b o,base.get? b=some o->s.heap.get? b=some o/\H b=none
 bsz:base.objs.size<=s.heap.objs.size
 funs:s.heap.FunFrames base outer
 frf:∀ b∈frs outer,H b=none
 hok:HOk P w H s.heap
 bare:Jq s.gens
def CE (outer:List Env) (P:Ep) (w:EM) (H:Hp) (s:hH) (Q:VK) (u:h6) (s':hH):Prop :=
 ∃ v H',s'.os=s.os/\Jq s'.gens/\Un (frs outer) [] H H' s.heap s'.heap/\HOk P w H' s'.heap/\RelV v u/\Q v H'
def CR (CX:CXT) (outer:List Env) (P:Ep) (w:EM) (H:Hp) (s:hH) (Q:VK) (E:XK) (r:Result) (s':hH):Prop :=
 match r with
 | .ok (.ret u)=>CE outer P w H s Q u s'
 | .ok _=>False
 | .error e=>CX outer H s E e s'
structure dj (P:Ep) (w:EM) (K:Frag) (mg:Str->Option h6) (base:Heap) (CX:CXT) (k:Nat) (f:Addr) (fd:Hw) (ps:List Str) (sp:Sp):Prop where
 len:∀ vs H Q E,sp vs H Q E->vs.length=ps.length
 run:∀ (A:F5) (outer:List Env) (s:hH) (H:Hp) (args:Args) (us:List h6) (vs:List V) (Q:VK) (E:XK),Room k A->pc P w K mg base A outer s H->Ly s fd args (ps.zip us)->Vals vs us->sp vs H Q E ->
  IB (model P w) A (.call (.ref f) args) (CR CX outer P w H s Q E) s
section
variable {X:Cx} {pins:List (Addr×Obj)} {σ:St} {H:Hp} {s s':hH}
theorem Inv.env0 (I:Inv X pins σ H s):pc X.prog X.w X.K X.mg X.base X.A X.stack s H :=
 ⟨I.ok.frames,I.ok.mod,I.bs,ET I.ok.bsz I.sz,I.stack,I.stkFree,I.hok,I.bare⟩
theorem Inv.after {Q:VK} {u:h6} (I:Inv X pins σ H s) (h:CE X.stack X.prog X.w H s Q u s'):EP X pins σ Q u s':=by
 obtain ⟨v,H',os,bare,un,hok,r,q⟩:=h;obtain ⟨j,g,d,t,os'⟩:=s';obtain rfl:os'=s.os:=os;exact ⟨v,H',I.call (h':=j) (g':=g) (d':=d) (t':=t) (ch := []) un hok bare (fun b z=>absurd z (by simp)),r,q⟩
end
noncomputable def vR (sp:Sp) (dvs:List V) (E:XK) (t:TA):TE:=fun σ H Q=>t σ H fun vs H1=>sp (vs++dvs) H1 Q E
def Binds (K:Frag) (fd:Hw) (ps:List Str) (ds:List h6):Prop :=
 ∀ (s:hH) (us:List h6),K.In s.heap->(us++ds).length=ps.length->Ly s fd ⟨us,[]⟩ (ps.zip (us++ds))
theorem Binds.all {K:Frag} {fd:Hw} {ps:List Str} (h:∀ us:List h6,us.length=ps.length->bindArgs fd ⟨us,[]⟩=pure (ps.zip us)):Binds K fd ps []:=fun s us _ j=>by
 rw [Fe] at j ⊢;exact .of_eq (h us j)
def i6 (CX:CXT) (X:Cx) (E:XK):Prop := ∀ (pins:List (Addr×Obj)) (σ:St) (H:Hp) (s:hH) (e:h6) (s':hH),Inv X pins σ H s->CX X.stack H s E e s'->X.xe e s'
section
variable {X:Cx} {CX:CXT} {k:Nat} {f C:Addr} {fd:Hw} {ps:List Str} {sp:Sp} {dvs:List V} {ds:List h6} {E:XK} {x m:Str} {p pos apos:Pos} {e o:Expr} {es:List Expr} {ta:TE} {t:TA}
theorem qM {pins:List (Addr×Obj)} {σ:St} {H:Hp} {s:hH} {Q:VK} {us:List h6} {vs:List V} (F:dj X.prog X.w X.K X.mg X.base CX k f fd ps sp) (z:Room k X.A) (B:Binds X.K fd ps ds) (hd:Vals dvs ds) (hx:i6 CX X E)
 (I:Inv X pins σ H s) (r:Vals vs us) (h:sp (vs++dvs) H Q E):Ec (model X.prog X.w) X.A (call (.ref f) us) (EP X pins σ Q) X.xe s:=by
 have q:Vals (vs++dvs) (us++ds):=r.append hd;have G:(us++ds).length=ps.length:=by rw [<- q.length];exact F.len _ _ _ _ h
 refine wpAny_call (I9 (F.run X.A X.stack s H ⟨us,[]⟩ (us++ds) (vs++dvs) Q E z I.env0 (B s us I.kIn G) q h) fun r s' j => ?_)
 cases r with
 | error e=>exact hx pins σ H s e s' I j
 | ok fl =>
   cases fl with
   | ret u=>exact I.after j
   | next=>exact False.elim j
   | brk=>exact False.elim j
   | cont=>exact False.elim j
theorem wK (F:dj X.prog X.w X.K X.mg X.base CX k f fd ps sp) (G:Room k X.A) (J:Gl X x) (hm:X.mg x=some (.ref f)) (L:Hx X.K (.ref f)=true) (O:Binds X.K fd ps ds) (hd:Vals dvs ds) (hx:i6 CX X E)
 (U:PA X (e::es) t) (j:(x==("__debug__":Str))=false:=by decide) (he:Et (e::es) X.env=(false,eval e X.env)::Et es X.env:=by rfl) (z:(HS pos (Et es X.env)).any (·.1)=false:=by rfl) :
 PE X (.Call (.Name x p) (e::es) [] pos) (vR sp dvs E t):=by
 intro pins s σ H Q I h;refine HU (nL I J hm ?_ j);refine PySem.W.callWith_K (h₀ := X.base) I.ok.mod.kin L (thn (U pos pins s σ H _ I h) fun us s1 ⟨vs,H1,B,r,q⟩=>⟨B.kIn, ?_⟩) he z;exact qM F G O hd hx B r q
theorem tW (F:dj X.prog X.w X.K X.mg X.base CX k f fd ps sp) (q:Room k X.A) (z:Gl X x) (hm:X.mg x=some (.ref f)) (B:Hx X.K (.ref f)=true) (G:Binds X.K fd ps ds) (hd:Vals dvs ds) (hx:i6 CX X E)
 (j:(x==("__debug__":Str))=false:=by decide):PE X (.Call (.Name x p) [] [] pos) (vR sp dvs E za):=by
 intro pins s σ H Q I h;refine HU (nL I z hm ?_ j);exact PySem.W.callWith_K0 I.kIn B (qM (us := []) F q G hd hx I .nil h)
end
structure fF (N P:List Str) (sc:Scope):Prop where
 kind:sc.kind = .function
 co:sc.isCoroutine=false
 gen:sc.isGenerator=false
 nd:N.Nodup
 pre:N.take P.length=P
 par:∀ x∈P,sc.names.lookup x=some .local∨sc.names.lookup x=some .cell
 nofree:∀ y∈sc.names,y.2 ≠ .free
theorem jA {Ft:Str->Option GR} {x:Str}:∀ {binds:List (Str×h6)} {m:Str->Option h6},(∀ v,(x,v)∉binds)->MY Ft binds m x=m x
 | [],_,_=>rfl
 | (n,v)::r,m,h=>by
  unfold MY;rw [jA fun w hw=>h w (E7 _ hw)]
  split
  ·have:x≠n:=by rintro rfl;exact h v Ef
   simp [this]
  ·rfl
theorem jB {Ft:Str->Option GR} {x:Str}:∀ {binds:List (Str×h6)} {m:Str->Option h6},(∀ v,(x,v)∉binds)->MZ Ft binds m x=m x
 | [],_,_=>rfl
 | (n,v)::r,m,h=>by
  unfold MZ;rw [jB fun w hw=>h w (E7 _ hw)]
  split
  ·rfl
  ·have:x≠n:=by rintro rfl;exact h v Ef
   simp [this]
theorem jC {Ft:Str->Option GR} {x:Str} {v:h6}:∀ {P:List Str} {vs:List h6} {i:Nat} {m:Str->Option h6},P.Nodup->P[i]? = some x->vs[i]? = some v->Ft x=some .local ->
 MY Ft (P.zip vs) m x=some v
 | [],_,_,_,_,h,_,_=>by simp at h
 | _::_,[],_,_,_,_,h,_=>by simp at h
 | p::P,w::vs,0,m,nd,h1,h2,j=>by
   simp at h1 h2;subst h1;subst h2;show MY Ft ((p,w)::P.zip vs) m p=_;unfold MY;rw [jA fun v q=>(FP.mp nd).1 (HM q).1,if_pos j];simp
 | p::P,w::vs,i+1,m,nd,h1,h2,j=>by
   show MY Ft ((p,w)::P.zip vs) m x=_;unfold MY;exact jC (i:=i) (FP.mp nd).2 (by simpa using h1) (by simpa using h2) j
theorem jD {Ft:Str->Option GR} {x:Str} {v:h6}:∀ {P:List Str} {vs:List h6} {i:Nat} {m:Str->Option h6},P.Nodup->P[i]? = some x->vs[i]? = some v->Ft x≠some .local ->
 MZ Ft (P.zip vs) m x=some v
 | [],_,_,_,_,h,_,_=>by simp at h
 | _::_,[],_,_,_,_,h,_=>by simp at h
 | p::P,w::vs,0,m,nd,h1,h2,j=>by
   simp at h1 h2;subst h1;subst h2;show MZ Ft ((p,w)::P.zip vs) m p=_;unfold MZ;rw [jB fun v q=>(FP.mp nd).1 (HM q).1,if_neg j];simp
 | p::P,w::vs,i+1,m,nd,h1,h2,j=>by
   show MZ Ft ((p,w)::P.zip vs) m x=_;unfold MZ;exact jD (i:=i) (FP.mp nd).2 (by simpa using h1) (by simpa using h2) j
noncomputable def cC (N:List Str) (vs:List V):St:=vs.map some++DU (N.length - vs.length) none
noncomputable def gD (CX:CXT) (P:Ep) (w:EM) (K:Frag) (mg:Str->Option h6) (base:Heap) (N:List Str) (qual:Str) (scope:Scope) (f:Addr) (cd:h6) (A:F5) (outer:List Env) (s:hH) (H:Hp) (E:XK):Cx where
 prog:=P
 w:=w
 K:=K
 mg:=mg
 base:=base
 A:=A.deeper (Kj qual scope s.heap.objs.size f cd)
 N:=N
 s₀ := s
 H₀ := H
 env:=Kj qual scope s.heap.objs.size f cd
 outer:=outer
 stack:=Kj qual scope s.heap.objs.size f cd::outer
 ex := []
 calm:=true
 fn:=fun _=>true
 pn := []
 xe:=fun e s'=>Ec (model P w) (A.deeper (Kj qual scope s.heap.objs.size f cd)) (leaving (Kj qual scope s.heap.objs.size f cd) e) (fun _ s''=>CX outer H s E e s'') (fun e' s''=>CX outer H s E e' s'') s'
theorem kC {sc:Scope} {n:Nat} {x:Str} (h:sc.names.lookup x=some .cell):∃ c,(G7 n sc.names []).lookup x=some c:=by
 have q:=Ia sc.names n [] (.inl h);exact GK.mp q
theorem qN {CX:CXT} {P:Ep} {w:EM} {K:Frag} {mg:Str->Option h6} {base:Heap} {N ps:List Str} {qual:Str} {scope:Scope} {f:Addr} {cd:h6} {A:F5} {outer:List Env} {s s1:hH} {H:Hp} {E:XK} {us:List h6} {vs:List V}
 (S:fF N ps scope) (hd:A.handled=none) (j:pc P w K mg base A outer s H) (U:vs.length=ps.length) (r:Vals vs us)
 (x:InCallC s s.heap.objs.size (MY (Kj qual scope s.heap.objs.size f cd).kindOf (ps.zip us) fun _=>none) (G7 (s.heap.objs.size+1) scope.names []) (MZ (Kj qual scope s.heap.objs.size f cd).kindOf (ps.zip us) fun _=>none) s1) :
 Inv (gD CX P w K mg base N qual scope f cd A outer s H E) [] (cC N vs) H s1:=by
 have L:ps.length<=N.length:=by have:=congrArg HY S.pre;rw [Eu] at this;omega
 obtain ⟨h1,tk,rfl,G⟩:=x.done;have noA:∀ b:Addr,b∉(gD CX P w K mg base N qual scope f cd A outer s H E).ex:=fun b z=>absurd (show b∈([]:List Addr) from z) (by simp)
 refine ⟨⟨j.mod,S.kind,rfl,rfl,E3 _,fun y z c h1 h2 => ?_,fun y B => ?_,fun y c _ h => ?_,fun _=>hd,Around.frames_deeper j.frames, .inr ⟨rfl,rfl⟩,fun b z=>absurd z (noA b),j.bs,j.bsz,fun b _ _=>noA b,fun b z=>absurd z (noA b),j.funs,j.frf⟩,
  rfl,j.bare,Un.kept G,⟨_,x.toInCall.ns,fun i y v h1 h2 Y => ?_⟩,fun y c h=>⟨_,x.cell y c h⟩,j.hok.fresh (E3 _),fun y c h => ?_,fun p F=>absurd (show p∈([]:List (Addr×Obj)) from F) (by simp),j.hok.kept G, ?_⟩
 ·exact name_of_addr x.apart (Fu h1) (Fu h2)
 ·have B:scope.names.lookup y=some .cell∨scope.names.lookup y=some .free:=B
  rcases B with B | B
  ·exact kC B
  ·exact absurd rfl (S.nofree _ (Fu B))
 ·exact HA (x.above y c (Fu h))
 ·have hi:i < vs.length:=by
   unfold cC at h2
   by_cases hi:i < vs.length
   ·exact hi
   ·rw [D2 (by simpa using hi)] at h2
    rw [EY] at h2
    split at h2 <;> cases h2
  have O:vs[i]? = some v:=by
   unfold cC at h2;rw [E5 (by simpa using hi),Eo] at h2
   cases e:vs[i]? with
   | none=>rw [e] at h2;cases h2
   | some a=>rw [e] at h2;cases h2;rfl
  obtain ⟨u,J,rv⟩:=r.get O;have F:ps[i]? = some y:=by
   rw [<- S.pre,HH (by omega)];exact h1
  have ndP:ps.Nodup:=by rw [<- S.pre];exact S.nd.sublist (List.take_sublist _ _)
  refine ⟨u,rv, ?_⟩
  rcases S.par y (Ez F) with k | k
  ·exact .inl ⟨k,jC ndP F J k⟩
  ·obtain ⟨c,e⟩:=kC (n:=s.heap.objs.size+1) k;refine .inr ⟨.inl k,c,e, ?_⟩;have q:=x.cell y c e;rw [jD ndP F J (by show scope.names.lookup y≠_;rw [k];decide)] at q
   exact q
 ·exact j.hok.fresh (HA (x.above y c (Fu h)))
 ·unfold cC;show _=N.length;rw [z4,r4,Hq];omega
theorem AG {CX:CXT} {P:Ep} {w:EM} {K:Frag} {mg:Str->Option h6} {base:Heap} {k:Nat} {f:Addr} {name qual:Str} {params:Arguments} {body:List Stmt} {scope:Scope} {dV kV doc pm cdv ct oc:h6} {an od:Option Addr}
 {osl:Array (Option h6)} {N ps:List Str} {sp:Sp} (lk:K.lookup f=some ⟨oc,od, .func (H9 name qual params body scope dV kV doc pm an cdv ct),osl⟩) (G:Jb K cdv qual=true) (S:fF N ps scope)
 (len:∀ vs H Q E,sp vs H Q E->vs.length=ps.length)
 (j:∀ (A:F5) (outer:List Env) (s:hH) (H:Hp) (vs:List V) (Q:VK) (E:XK),Room k (A.deeper (Kj qual scope s.heap.objs.size f cdv))->sp vs H Q E ->
   ∃ t,PSs (gD CX P w K mg base N qual scope f cdv A outer s H E) body t/\t { nx:=fun _ H'=>Q .non H',rt:=Q } (cC N vs) H) :
 dj P w K mg base CX (k+1) f (H9 name qual params body scope dV kV doc pm an cdv ct) ps sp:=by
 refine ⟨len,fun A outer s H args us vs Q E L B O r F => ?_⟩;have U:=len _ _ _ _ F;have KX:K.In s.heap:=B.mod.kin.keeps fun b o e=>(B.bs b o e).1;have lim:s.heap.NoLimit:=B.mod.nolimit.keeps fun b o e=>(B.bs b o e).1;have z:∀ y∈ps.zip us,scope.names.lookup y.1=some .local∨(scope.names.lookup y.1=some .cell/\((G7 (s.heap.objs.size+1) scope.names []).lookup y.1).isSome=true):=fun ⟨n,v⟩ hy=>by
  rcases S.par n (HM hy).1 with q | q
  ·exact .inl q
  ·exact .inr ⟨q,Ia _ _ _ (.inl q)⟩
 refine codeAny_call_function L.depth (KX _ _ lk) rfl S.co S.gen rfl (PySem.W.codeRec_of KX G) (O _ _ _ _ ?_);refine wpAny_newFunctionEnv_cells S.kind z fun env he s1 x => ?_;subst he;refine ⟨lim.keeps x.toInCall.keep,codeAny_func ?_⟩;obtain ⟨t,Y,Z⟩:=j A outer s H vs Q E (L.deeper _) F;have I:Inv (gD CX P w K mg base N qual scope f cdv A outer s H E) [] (cC N vs) H s1:=qN S L.hd B U r x;refine FU (Y [] s1 (cC N vs) H _ I Z) (fun fl s' hs => ?_) fun e s' hs=>hs;have fin:∀ {σ':St} {H':Hp} {v:V} {u:h6},Inv (gD CX P w K mg base N qual scope f cdv A outer s H E) [] σ' H' s'->RelV v u->Q v H'->CE outer P w H s Q u s' :=
  fun {σ' H' v u} J rv q=>⟨v,H',J.os,J.bare,J.base,J.hok,rv,q⟩
 cases fl with
 | ret u =>
   obtain ⟨v, σ',H',J,rv,q⟩:=hs;exact fin J rv q
 | next =>
   obtain ⟨σ',H',J,q⟩:=hs;exact fin (v:=V.non) (u:=H4) J rfl q
 | brk =>
   obtain ⟨_,_,_,q⟩:=hs;exact False.elim q
 | cont =>
   obtain ⟨_,_,_,q⟩:=hs;exact False.elim q
end
section
section
variable {X:Cx} {x:Str} {p pos:Pos} {e:Expr} {es:List Expr} {t:TA} {id T:String} {r:List V->Hp->VK->Prop}
noncomputable def tCB (r:List V->Hp->VK->Prop) (t:TA):TE:=fun σ H Q=>t σ H fun vs H1=>r vs H1 Q
theorem bA (z:CallR X (.builtin id) r) (B:Gl X x) (hm:X.mg x=none) (F:H8 x=some (.builtin id)) (G:PA X (e::es) t) (J:x ≠ "__name__" := by decide) (j:(x==("__debug__":Str))=false:=by decide)
 (he:Et (e::es) X.env=(false,eval e X.env)::Et es X.env:=by rfl) (q:(HS pos (Et es X.env)).any (·.1)=false:=by rfl):PE X (.Call (.Name x p) (e::es) [] pos) (tCB r t):=by
 intro pins s σ H Q I h;refine HU (di I B hm F ?_ J j);exact PyProof.Rows.callWith_builtin1 (thn (G pos pins s σ H _ I h) fun us s1 ⟨vs,H1,L,O,U⟩=>z pins s1 σ H1 vs us Q L O U) he q
theorem dC (z:CallR X (.type T) r) (B:Gl X x) (hm:X.mg x=none) (F:H8 x=some (.type T)) (G:PA X (e::es) t) (J:x ≠ "__name__" := by decide) (j:(x==("__debug__":Str))=false:=by decide)
 (he:Et (e::es) X.env=(false,eval e X.env)::Et es X.env:=by rfl) (q:(HS pos (Et es X.env)).any (·.1)=false:=by rfl):PE X (.Call (.Name x p) (e::es) [] pos) (tCB r t):=by
 intro pins s σ H Q I h;refine HU (di I B hm F ?_ J j);exact FE (thn (G pos pins s σ H _ I h) fun us s1 ⟨vs,H1,L,O,U⟩=>z pins s1 σ H1 vs us Q L O U) he q
end
end
end L2
namespace HT
open PySem PyProof.Rows
section
variable {prog:Ep} {w:EM} {A:F5} {E:h6->hH->Prop} {s:hH}
theorem cat_tup {t b:Addr} {vs ws:List h6} {Q:h6->hH->Prop} (U:IsTup s.heap t vs.toArray) (Y:IsTup s.heap b ws.toArray) (G:vs≠[])
 (h1:ws=[]->Q (.ref t) s) (h2:ws≠[]->Q (.ref s.heap.objs.size) { s with heap:=s.heap.push { cls := .type "tuple",data := .seq (vs++ws).toArray } })
 (hsz:vs.length+ws.length<=DY):Ec (model prog w) A (Fy .Add (.ref t) (.ref b)) Q E s:=by
 obtain ⟨⟨cls,dd,data,sl⟩,ho,J,n,hd⟩:=id U;obtain ⟨⟨L,q,data2,z⟩,j,B,O,hd2⟩:=id Y;simp only at J hd B hd2;subst J hd B hd2;have e:vs.toArray++ws.toArray=(vs++ws).toArray:=by simp
 by_cases hw:ws=[]
 ·exact Lz ⟨_,ho,rfl⟩ ⟨_,j,rfl⟩ JF L3 Ib HZ (HI _ _)
   (tuple_addW1 t b vs.toArray ws.toArray n O dd q sl z (by simpa using G) (by simp [hw])) ⟨ho,j,h1 hw⟩
 ·refine Lz ⟨_,ho,rfl⟩ ⟨_,j,rfl⟩ JF L3 Ib HZ (HI _ _)
   (tuple_addW2 t b vs.toArray ws.toArray n O dd q sl z (by simpa using G) (by simpa using hw) (by rw [E4,E4];exact hsz)) ⟨ho,j, ?_⟩
  rw [e];exact h2 hw
noncomputable def sIx (n d:Nat):Option Int->Nat
 | none=>d
 | some v=>if v < 0 then (v+(n:Int)).toNat else min v.toNat n
theorem zd (n d:Nat) (hd:d<=n) (o:Option Int):sIx n d o<=n:=by
 cases o with
 | none=>exact hd
 | some v =>
   show (if v < 0 then (v+(n:Int)).toNat else min v.toNat n)<=n
   by_cases hv:v < 0
   ·rw [if_pos hv];omega
   ·rw [if_neg hv];exact Nat.min_le_right _ _
theorem nN (v:Int) (n d:Nat):(if v < 0 then max (v+(n:Int)) 0 else min v (n:Int))=((sIx n d (some v):Nat):Int):=by
 show (if v < 0 then max (v+(n:Int)) 0 else min v (n:Int))=(((if v < 0 then (v+(n:Int)).toNat else min v.toNat n):Nat):Int)
 by_cases hv:v < 0
 ·simp only [if_pos hv];omega
 ·simp only [if_neg hv];omega
theorem ph (lo hi:Option Int) (n:Nat):HE lo hi 1 (n:Int)=(((sIx n 0 lo:Nat):Int),((sIx n n hi:Nat):Int)):=by
 have h1 : ¬ ((1:Int) < 0):=by omega
 unfold HE;simp only [h1,if_false];refine Prod.ext ?_ ?_
 ·cases lo with
  | none=>rfl
  | some v=>exact nN v n 0
 ·cases hi with
  | none=>rfl
  | some v=>exact nN v n n
theorem pi (i j:Nat):Gy (i:Int) (j:Int) 1=j - i:=by
 unfold Gy;have h1:(1:Int) > 0:=by omega
 simp only [h1,if_true,Int.ediv_one]
 split <;> omega
theorem i7 {v:h6} {o:Option Int} {Q:Option Int->hH->Prop} (p:JT v o) (h:Q o s):Ec (model prog w) A (Builtin.Slice.slicePartIndex v) Q E s:=by
 cases p with
 | none=>exact slicePart_none h
 | int i t=>exact slicePart_int h
theorem dl {sl:Addr} {vl vu:h6} {lo hi:Option Int} {n:Nat} {Q:Int×Int×Nat->hH->Prop} (hs:s.heap.IsSliceOf sl vl vu .none) (pl:JT vl lo) (pu:JT vu hi)
 (h:Q (((sIx n 0 lo:Nat):Int),1,sIx n n hi - sIx n 0 lo) s):Ec (model prog w) A (Jc (.ref sl) (pure (n:Int))) Q E s:=by
 obtain ⟨os,j,z,q⟩:=id hs;unfold Jc Builtin.Slice.sliceFields;refine gV (gV (EZ j q (x:=vl) rfl (gV (EZ j q (x:=vu) rfl (gV (EZ j q (x := .none) rfl (q7 ?_)))))));refine gV (slicePart_none ?_);show Ec _ _ (if ((1:Int)==0)=true then _ else _) _ _ s
 rw [if_neg (by decide)]
 refine gV (i7 pl (gV (i7 pu (gV (q7 ?_)))));show Ec _ _ (match HE lo hi 1 (n:Int) with | (lo,hi)=>pure (lo,(1:Int),Gy lo hi 1)) _ _ s
 rw [ph lo hi n];show Ec _ _ (pure (((sIx n 0 lo:Nat):Int),(1:Int),Gy ((sIx n 0 lo:Nat):Int) ((sIx n n hi:Nat):Int) 1)) _ _ s;rw [pi];exact q7 h
theorem tX (xs:Array h6) (i k:Nat):((Ei k).filterMap fun (m:Nat)=>xs[((i:Int)+(m:Int)*1).toNat]?).toArray=((xs.toList.drop i).take k).toArray:=by
 have e:(fun (m:Nat)=>xs[((i:Int)+(m:Int)*1).toNat]?)=fun m=>xs[i+m]? := by
  funext m
  have:((i:Int)+(m:Int)*1).toNat=i+m:=by omega
  rw [this]
 rw [e];have:=pick_run xs i k;rw [List.filterMap_map] at this;have j:((fun x=>xs[x]?) ∘ fun x=>i+x)=fun m=>xs[i+m]? := rfl;rw [j] at this;rw [this]
theorem getItem_tuple_cut {t sl:Addr} {items:Array h6} {vl vu:h6} {lo hi:Option Int} {Q:h6->hH->Prop} (z:IsTup s.heap t items) (hs:s.heap.IsSliceOf sl vl vu .none) (pl:JT vl lo) (pu:JT vu hi)
 (hw : ¬ (sIx items.size 0 lo=0/\sIx items.size items.size hi=items.size))
 (h:Q (.ref s.heap.objs.size) { s with heap:=s.heap.push { cls := .type "tuple",data := .seq ((items.toList.drop (sIx items.size 0 lo)).take (sIx items.size items.size hi - sIx items.size 0 lo)).toArray } })
 (hsz:items.size<=DY):Ec (model prog w) A (JU (.ref t) (.ref sl)) Q E s:=by
 have j:sizeOk (.seq ((items.toList.drop (sIx items.size 0 lo)).take (sIx items.size items.size hi - sIx items.size 0 lo)).toArray):=by
  show ((items.toList.drop (sIx items.size 0 lo)).take (sIx items.size items.size hi - sIx items.size 0 lo)).toArray.size<=DY;rw [E4,Eu,Iq,El];omega
 have O:sIx items.size items.size hi<=items.size:=zd _ _ (E3 _) hi;obtain ⟨os,B,F,L⟩:=id hs;have G:s.TypeIs (.ref sl) "slice" := ⟨os,B,F⟩;unfold JU
 try with_reducible refine Fh ?_
 first | refine gV (q7 ?_) | skip
 refine gV (LA z.typeIs (by decide) ?_)
 refine gV (EG (name:=Fc "__getitem__") z.typeIs FR
  (F6 FR z.typeIs KP ?_ (Lg _ _)))
 show Ec _ _ (Jd (.ref t) >>= _) _ _ s;refine gV (tupleItemsOf_ z ?_);refine gV (GF G ?_);rw [if_pos (by decide)]
 refine gV (dl hs pl pu ?_);have J : ¬ ((((sIx items.size 0 lo:Nat):Int)==0&&(1:Int)==1&&(sIx items.size items.size hi - sIx items.size 0 lo)==items.size)=true):=by
  intro q;rw [hW,hW] at q;have U:((sIx items.size 0 lo:Nat):Int)=0:=GS q.1.1;have Y:sIx items.size items.size hi - sIx items.size 0 lo=items.size:=GS q.2;exact hw ⟨by omega,by omega⟩
 show Ec _ _ (if (((sIx items.size 0 lo:Nat):Int)==0&&(1:Int)==1&&(sIx items.size items.size hi - sIx items.size 0 lo)==items.size)=true then _ else _) _ _ s
 rw [if_neg J,tX]
 first
  | exact gV (m:=GL _) (Fv (q7 ⟨_,rfl,q7 h⟩) j)
  | exact gV (m:=GL _) (Fv (gV (q7 (q7 ⟨_,rfl,q7 h⟩))) j)
  | exact gV (gV (m:=GL _) (Fv (q7 (q7 ⟨_,rfl,q7 h⟩)) j))
  | exact gV (gV (m:=GL _) (Fv (q7 ⟨_,rfl,q7 h⟩) j))
end
end HT
namespace L2
open PySem PySem.Spec PyProof.Rows
section
noncomputable abbrev TO:=St->Hp->(Option Int->Hp->Prop)->Prop
def PO (X:Cx) (e:Option Expr) (t:TO):Prop :=
 ∀ (pins:List (Addr×Obj)) (s:hH) (σ:St) (H:Hp) (Q:Option Int->Hp->Prop),Inv X pins σ H s->t σ H Q ->
  Ec (model X.prog X.w) X.A (evalPart e X.env) (fun u s' => ∃ o H',Inv X pins σ H' s'/\JT u o/\Q o H') X.xe s
noncomputable def wL:TO:=fun _ H Q=>Q none H
noncomputable def AH (t:TE):TO:=fun σ H Q=>t σ H fun x H1 => ∃ i,x = .int i/\Q (some i) H1
section
variable {X:Cx} {e:Expr} {te:TE} {lo hi:Option Expr} {tl th:TO} {pos p2:Pos}
theorem wM:PO X none wL:=by
 intro pins s σ H Q I h;rw [evalPart_none];exact q7 ⟨none,H,I, .none,h⟩
theorem wN (h:PE X e te):PO X (some e) (AH te):=by
 intro pins s σ H Q I hw;rw [evalPart_some];refine thn (h pins s σ H _ I hw) fun u s1 ⟨x,H1,j,z,B⟩ => ?_;obtain ⟨i,rfl,q⟩:=B;obtain ⟨t,rfl⟩:=z;exact ⟨some i,H1,j, .int i t,q⟩
def SlR (X:Cx) (r:V->Option Int->Option Int->Hp->VK->Prop):Prop :=
 ∀ (pins:List (Addr×Obj)) (s:hH) (σ:St) (H:Hp) (x:V) (v vl vu:h6) (lo hi:Option Int) (sl:Addr) (Q:VK),Inv X pins σ H s->RelV x v->s.heap.IsSliceOf sl vl vu .none->JT vl lo->JT vu hi->r x lo hi H Q ->
  ∃ T id,typeLookup (.type T) "__getitem__" = pure (some (.builtin id))/\s.TypeIs v T/\Ec (model X.prog X.w) X.A (JU v (.ref sl)) (EP X pins σ Q) X.xe s
theorem SlR.or {r r':V->Option Int->Option Int->Hp->VK->Prop} (h:SlR X r) (h':SlR X r'):SlR X (fun x lo hi H Q=>r x lo hi H Q∨r' x lo hi H Q):=by
 intro pins s σ H x v vl vu lo hi sl Q I rx hs pl pu q
 rcases q with q | q
 ·exact h pins s σ H x v vl vu lo hi sl Q I rx hs pl pu q
 ·exact h' pins s σ H x v vl vu lo hi sl Q I rx hs pl pu q
noncomputable def tSl (r:V->Option Int->Option Int->Hp->VK->Prop) (te:TE) (tl th:TO):TE:=fun σ H Q=>te σ H fun x H1=>tl σ H1 fun l H2=>th σ H2 fun u H3=>r x l u H3 Q
theorem tY {r:V->Option Int->Option Int->Hp->VK->Prop} (z:SlR X r) (he:PE X e te) (B:PO X lo tl) (F:PO X hi th):PE X (.Subscript e (.Slice lo hi none p2) pos) (tSl r te tl th):=by
 intro pins s σ H Q I h;refine Subscript_ (thn (he pins s σ H _ I h) fun v s1 ⟨x,H1,G,J,L⟩ => ?_);refine wpAny_Slice (thn (B pins s1 σ H1 _ G L) fun vl s2 ⟨l,H2,O,pl,U⟩=>thn (F pins s2 σ H2 _ O U) fun vu s3 ⟨u,j,Y,pu,Z⟩ => ?_);rw [evalPart_none];refine q7 ?_;have I4:Inv X pins σ j { s3 with heap:=s3.heap.push { cls := .type "slice",data := .fields #[vl,vu, .none] } }:=Y.kept (t':=s3.toks) fun b ob q=>h7 _ q
 obtain ⟨T,id,hT,ht,hg⟩:=z pins { s3 with heap:=s3.heap.push { cls := .type "slice",data := .fields #[vl,vu, .none] } } σ j x v vl vu l u s3.heap.objs.size Q I4 J (Heap.IsSliceOf.new ..) pl pu Z
 show Ec (model X.prog X.w) X.A (subscriptTail e (.Slice lo hi none p2) v (.ref s3.heap.objs.size)) (EP X pins σ Q) X.xe { s3 with heap:=s3.heap.push { cls := .type "slice",data := .fields #[vl,vu, .none] } }
 exact tail_any (ops := [.ref s3.heap.objs.size,v]) ht hT hg (by with_unfolding_all rfl)
noncomputable def eU (xs:List V) (lo hi:Option Int):List V:=(xs.drop (HT.sIx xs.length 0 lo)).take (HT.sIx xs.length xs.length hi - HT.sIx xs.length 0 lo)
theorem gk (xs:List V) (lo hi:Option Int):(eU xs lo hi).length<=xs.length:=by
 unfold eU;rw [Eu,Iq];omega
noncomputable def Br (K:Frag):V->Option Int->Option Int->Hp->VK->Prop:=fun x lo hi H Q => ∃ a xs,x = .ref a/\SqT K H a xs /\
 ¬ (HT.sIx xs.length 0 lo=0/\HT.sIx xs.length xs.length hi=xs.length) /\ ∀ p,H p=none->Q (.ref p) (upd H p (.tup (eU xs lo hi)))
theorem sl_tup:SlR X (Br X.K):=by
 intro pins s σ H x v vl vu lo hi sl Q I rx hs pl pu h;obtain ⟨a,xs,rfl,hx,hw,q⟩:=h
 cases rx
 obtain ⟨its,r,j,z⟩:=I.tuple hx;have hlen:its.toArray.size=xs.length:=by rw [E4];exact r.length.symm
 refine ⟨"tuple",_,PyProof.Rows.slot_tuple_getitem.lookup,j.typeIs, ?_⟩;refine HT.getItem_tuple_cut j hs pl pu (by rw [hlen];exact hw) ?_ (by rw [hlen];exact z)
 rw [hlen];refine ⟨.ref s.heap.objs.size,_,I.laid (t':=s.toks) (o := .tup (eU xs lo hi)) (fun b ob q=>h7 _ q) (E3 _) ?_,rfl,q _ (I.hok.fresh (E3 _))⟩;exact ⟨ET (gk xs lo hi) z,_,(r.drop (HT.sIx xs.length 0 lo)).take (HT.sIx xs.length xs.length hi - HT.sIx xs.length 0 lo),J7 _ _⟩
noncomputable def vS (K:Frag):R2:=fun x y H Q => ∃ a b xs ys,x = .ref a/\y = .ref b/\SqT K H a xs/\SqT K H b ys/\xs≠[]/\xs.length+ys.length<=DY /\
 (ys=[]->Q (.ref a) H)/\(ys≠[] -> ∀ p,H p=none->Q (.ref p) (upd H p (.tup (xs++ys))))
theorem Vals.nil_iff {xs:List V} {us:List h6} (r:Vals xs us):us=[]↔xs=[]:=by
 cases r with
 | nil=>simp
 | cons _ _=>simp
theorem op_catT:OpR X (Fy .Add) (vS X.K):=by
 intro pins s σ H x y v u Q I rx ry h;obtain ⟨a,b,xs,ys,rfl,rfl,J,L,hx,F,O,U⟩:=h
 cases rx
 cases ry
 obtain ⟨its,B,Y,_⟩:=I.tuple J;obtain ⟨G,j,p2,_⟩:=I.tuple L;refine HT.cat_tup Y p2 (fun z=>hx (B.nil_iff.mp z)) (fun z=>⟨.ref a,H,I,rfl,O (j.nil_iff.mp z)⟩) (fun z => ?_) (by rw [<- B.length, <- j.length];exact F)
 refine ⟨.ref s.heap.objs.size,_,I.laid (t':=s.toks) (o := .tup (xs++ys)) (fun b ob q=>h7 _ q) (E3 _) ?_,rfl,U (fun w=>z (j.nil_iff.mpr w)) _ (I.hok.fresh (E3 _))⟩;exact ⟨by rw [z4];exact F,_,B.append j,J7 _ _⟩
end
end
section
noncomputable def ixN (n:Nat) (i:Int):Option Nat:=if 0<=i then (if i < n then some i.toNat else none) else if -(n:Int)<=i then some (i+n).toNat else none
noncomputable def atI {α:Type} (xs:List α) (i:Int):Option α := (ixN xs.length i).bind fun j=>xs[j]?
theorem nO {n:Nat} {i:Int} {j:Nat} (h:ixN n i=some j):seqIndex? i n=some j/\j < n /\ -(n:Int)<=i/\i < n:=by
 unfold ixN at h
 by_cases h0 : 0<=i
 ·rw [if_pos h0] at h
  by_cases h1:i < n
  ·rw [if_pos h1] at h;have e:i.toNat=j:=FO.inj h;exact ⟨by rw [Mp h0 h1,e],by omega,by omega,h1⟩
  ·rw [if_neg h1] at h;cases h
 ·rw [if_neg h0] at h
  by_cases h1 : -(n:Int)<=i
  ·rw [if_pos h1] at h;have e:(i+n).toNat=j:=FO.inj h;exact ⟨by rw [LB (by omega) h1,e],by omega,h1,by omega⟩
  ·rw [if_neg h1] at h;cases h
theorem nP {α:Type} {xs:List α} {i:Int} {v : α} (h:atI xs i=some v):∃ j,seqIndex? i xs.length=some j/\xs[j]? = some v/\j < xs.length /\ -(xs.length:Int)<=i/\i < xs.length:=by
 unfold atI at h
 cases e:ixN xs.length i with
 | none=>rw [e] at h;cases h
 | some j =>
   rw [e] at h;obtain ⟨h1,h2,q,z⟩:=nO e;exact ⟨j,h1,h,h2,q,z⟩
def j8 (b:Expr):Prop := ∀ o i,subscripted b false o i=operate [o,i] (JU o i)
def IxR (X:Cx) (r:R2):Prop :=
 ∀ (value slice:Expr) (pins:List (Addr×Obj)) (s:hH) (σ:St) (H:Hp) (x y:V) (v u:h6) (Q:VK),Inv X pins σ H s->RelV x v->RelV y u->r x y H Q ->
  subscripted slice false v u=operate [v,u] (JU v u)->Ec (model X.prog X.w) X.A (subscriptTail value slice v u) (EP X pins σ Q) X.xe s
def MtR (X:Cx) (id:String) (r:V->List V->Hp->VK->Prop):Prop :=
 ∀ (pins:List (Addr×Obj)) (s:hH) (σ:St) (H:Hp) (x:V) (xs:List V) (v:h6) (us:List h6) (Q:VK),Inv X pins σ H s->RelV x v->Vals xs us->r x xs H Q ->
  Ec (model X.prog X.w) X.A (call (.builtin id) (v::us)) (EP X pins σ Q) X.xe s
section
variable {X:Cx} {a b:Expr} {ta tb:TE} {pos:Pos}
theorem IxR.or {r r':R2} (h:IxR X r) (h':IxR X r'):IxR X (fun x y H Q=>r x y H Q∨r' x y H Q):=by
 intro value slice pins s σ H x y v u Q I rx ry q hs
 rcases q with q | q
 ·exact h value slice pins s σ H x y v u Q I rx ry q hs
 ·exact h' value slice pins s σ H x y v u Q I rx ry q hs
theorem AI {r:R2} (j:IxR X r) (z:PE X a ta) (B:PE X b tb) (hs:j8 b):PE X (.Subscript a b pos) (tOp r ta tb):=by
 intro pins s σ H Q I h;exact Subscript_ (tR z B I h fun v u s2 x y H2 F rx ry q=>j a b pins s2 σ H2 x y v u Q F rx ry q (hs _ _))
noncomputable def Bt (K:Frag):R2:=fun x y H Q => ∃ p xs i v,x = .ref p/\y = .int i/\SqL K H p xs/\atI xs i=some v/\Q v H
noncomputable def Bu (K:Frag):R2:=fun x y H Q => ∃ p xs i v,x = .ref p/\y = .int i/\SqT K H p xs/\atI xs i=some v/\Q v H
theorem ix_list:IxR X (Bt X.K):=by
 intro value slice pins s σ H x y v u Q I rx ry h hs;obtain ⟨p,xs,i,z,rfl,rfl,F,he,q⟩:=h
 cases rx
 obtain ⟨t,rfl⟩:=ry;obtain ⟨its,r,pl,O⟩:=I.list F;obtain ⟨j,h1,h2,U,G,J⟩:=nP he;obtain ⟨w,ew,rw'⟩:=r.get h2;have L:=r.length;have Y:=dM;have fin:EP X pins σ Q w s:=⟨z,H,I,rw',q⟩
 by_cases h0 : 0<=i
 ·have B:i.toNat=j:=by
   rw [Mp h0 J] at h1;exact FO.inj h1
  exact item_listR pl.isList h0 (by omega) (by rw [B];simpa using ew) fin hs
 ·have B:(i+(its.toArray.size:Int)).toNat=j:=by
   rw [LB (by omega) G] at h1
   rw [E4, <- L];exact FO.inj h1
  exact JV (x:=w) pl.isList.typeIs slot_list_getitem.lookup
   (wpAny_getItem_list_neg (Q:=fun r s'=>r=w/\EP X pins σ Q r s') pl.isList (by omega) (by rw [E4] <;> omega) (by omega) (by rw [B];simpa using ew) ⟨rfl,fin⟩) hs
theorem ix_tup:IxR X (Bu X.K):=by
 intro value slice pins s σ H x y v u Q I rx ry h hs;obtain ⟨p,xs,i,z,rfl,rfl,B,he,q⟩:=h
 cases rx
 obtain ⟨t,rfl⟩:=ry;obtain ⟨its,r,pl,G⟩:=I.tuple B;obtain ⟨j,h1,h2,J,L,O⟩:=nP he;obtain ⟨w,ew,rw'⟩:=r.get h2;have F:=r.length;have U:=dM;have fin:EP X pins σ Q w s:=⟨z,H,I,rw',q⟩;exact JV (x:=w) pl.typeIs slot_tuple_getitem.lookup
  (getItem_tuple (j:=j) (Q:=fun r s'=>r=w/\EP X pins σ Q r s') pl (by omega) (by omega) (by rw [E4, <- F];exact h1) (by simpa using ew) ⟨rfl,fin⟩) hs
theorem pj (its:List h6) (n j:Nat) (u:h6):Ha (·.setIfInBounds j u) { cls := .type "list",data := .seq its.toArray n } = { cls := .type "list",data := .seq (its.set j u).toArray n }:=by
 simp [Ha]
theorem Inv.lst {pins:List (Addr×Obj)} {σ:St} {H:Hp} {s:hH} {p:Addr} {xs:List V} (I:Inv X pins σ H s) (h:H p=some (.lst xs)) :
 ∃ (its:List h6) (n:Nat),Vals xs its/\s.heap.get? p=some { cls := .type "list",data := .seq its.toArray n }/\xs.length<=DY:=by
 obtain ⟨z,its,n,r,e⟩:=I.hok p _ h;exact ⟨its,n,r,e,z⟩
theorem Inv.lstUpd {pins:List (Addr×Obj)} {σ:St} {H:Hp} {s:hH} {p:Addr} {xs ys:List V} {its its':List h6} {n n':Nat} {f:Obj->Obj} (I:Inv X pins σ H s) (h:H p=some (.lst xs))
 (ho:s.heap.get? p=some { cls := .type "list",data := .seq its.toArray n }) (hf:f { cls := .type "list",data := .seq its.toArray n } = { cls := .type "list",data := .seq its'.toArray n' }) (r:Vals ys its') (j:ys.length<=DY) (t:Nat) :
 Inv X pins σ (upd H p (.lst ys)) { s with heap:=s.heap.update p f,toks:=t }:=by
 have e:(s.heap.update p f).get? p=some { cls := .type "list",data := .seq its'.toArray n' }:=by
  rw [Kd f ho (by rw [hf] <;> rfl),hf]
 refine I.write (x:=p) (e:=p) (by rw [h];trivial) (.inl rfl) (fun b u z q=>(JW _ _ (Ne.symm z)).trans q) ⟨_,e⟩ ?_
 exact ⟨j,its',n',r,e⟩
noncomputable def vT:V->V->V->Hp->(Hp->Prop)->Prop:=fun o i v H Q => ∃ p xs k j,o = .ref p/\i = .int k/\H p=some (.lst xs)/\ixN xs.length k=some j/\Q (upd H p (.lst (xs.set j v)))
theorem tZ:PSet X vT:=by
 intro pins s σ H o i v ov iv u Q I ro ri rv h;obtain ⟨p,xs,k,j,rfl,rfl,F,L,q⟩:=h
 cases ro
 obtain ⟨t,rfl⟩:=ri;obtain ⟨its,n,r,ho,O⟩:=I.lst F;obtain ⟨h1,h2,G,J⟩:=nO L;have z:=r.length;have U:=dM;have I':Inv X pins σ (upd H p (.lst (xs.set j v))) { s with heap:=s.heap.update p (Ha (·.setIfInBounds j u)) } :=
  I.lstUpd F ho (pj its n j u) (r.set rv j) (by rw [IQ];exact O) s.toks
 by_cases h0 : 0<=k
 ·have B:k.toNat=j:=by
   rw [Mp h0 J] at h1;exact FO.inj h1
  exact PySem.W.ki_setAt ho h0 (by omega) (by rw [E4, <- z];exact J) (by rw [B];exact ⟨_,I',q⟩)
 ·have B:(k+(its.toArray.size:Int)).toNat=j:=by
   rw [LB (by omega) G] at h1
   rw [E4, <- z];exact FO.inj h1
  exact PySem.W.ki_setBack ho (by omega) (by rw [E4, <- z];exact G) (by omega) (by rw [B];exact ⟨_,I',q⟩)
theorem kD (lo hi:Option Int) (n:Nat):(I0 lo hi none n).1=((HT.sIx n 0 lo:Nat):Int)/\(I0 lo hi none n).2.1=((HT.sIx n n hi:Nat):Int)/\(I0 lo hi none n).2.2=1:=by
 refine ⟨?_, ?_,rfl⟩
 ·cases lo with
  | none=>simp [I0,HT.sIx]
  | some i =>
    simp only [I0,HT.sIx,LS,show (1:Int) > 0 by decide,if_true]
    by_cases h:i < 0
    ·simp only [h,if_true] <;> omega
    ·simp only [h,if_false] <;> omega
 ·cases hi with
  | none=>simp [I0,HT.sIx]
  | some i =>
    simp only [I0,HT.sIx,LS,show (1:Int) > 0 by decide,if_true]
    by_cases h:i < 0
    ·simp only [h,if_true] <;> omega
    ·simp only [h,if_false] <;> omega
theorem kn (its:List h6) (lo hi:Option Int):slicePick its.toArray lo hi none=((its.drop (HT.sIx its.length 0 lo)).take (HT.sIx its.length its.length hi - HT.sIx its.length 0 lo)).toArray:=by
 obtain ⟨h1,h2,j⟩:=kD lo hi its.toArray.size;unfold slicePick;rw [h1,h2,j];simp only [sliceRange_one,pick_run,E4] <;> rfl
noncomputable def Bv (K:Frag):V->Option Int->Option Int->Hp->VK->Prop:=fun x lo hi H Q => ∃ a xs,x = .ref a/\SqL K H a xs /\ ∀ p,H p=none->Q (.ref p) (upd H p (.lst (eU xs lo hi)))
theorem sl_list:SlR X (Bv X.K):=by
 intro pins s σ H x v vl vu lo hi sl Q I rx hs pl pu h;obtain ⟨a,xs,rfl,hx,q⟩:=h
 cases rx
 obtain ⟨its,r,j,z⟩:=I.list hx;have hlen:=r.length;refine ⟨"list",_,slot_list_getitem.lookup,j.isList.typeIs, ?_⟩;refine wpAny_getItem_list_slice j.isList hs pl pu .none (by simp) ?_ (by rw [E4] <;> omega)
 rw [kn, <- hlen];refine ⟨.ref s.heap.objs.size,_,I.laid (t':=s.toks) (o := .lst (eU xs lo hi)) (fun b ob q=>h7 _ q) (E3 _) ?_,rfl,q _ (I.hok.fresh (E3 _))⟩;exact ⟨ET (gk xs lo hi) z,_,0,(r.drop (HT.sIx xs.length 0 lo)).take (HT.sIx xs.length xs.length hi - HT.sIx xs.length 0 lo),E1 _ rfl⟩
theorem kE:CallR X (.type "list") (fun xs H Q => ∃ p ys,xs=[.ref p]/\(SqL X.K H p ys∨SqT X.K H p ys) /\ ∀ l,H l=none->Q (.ref l) (upd H l (.lst ys))):=by
 intro pins s σ H xs us Q I r h;obtain ⟨p,ys,rfl,j,q⟩:=h;obtain ⟨u,rfl,rx⟩:=cB r
 cases rx
 have fin:∀ (its:List h6),Vals ys its->ys.length<=DY -> ∀ (h':Heap) (c':Nat),(∀ b o',s.heap.get? b=some o'->h'.get? b=some o') ->
  h'.get? s.heap.objs.size=some { cls := .type "list",dict:=none,data := .seq its.toArray c',slots := #[] }->EP X pins σ Q (.ref s.heap.objs.size) { s with heap:=h' }:=fun its r' z h' c' kp e =>
  ⟨.ref s.heap.objs.size,_,I.laid (t':=s.toks) kp (E3 _) (show ObjOk X.prog X.w _ h' _ (.lst ys) from ⟨z,its,c',r',e⟩),rfl,q _ (I.hok.fresh (E3 _))⟩
 rcases j with j | j
 ·obtain ⟨its,r',pl,z⟩:=I.list j;have hlen:=r'.length;obtain ⟨o,ho,B,n,hd⟩:=pl.isList;exact call_list_seq p (.inl rfl) ho B hd (fun h' c' kp e=>fin its r' z h' c' kp e) (by simp only [E4] <;> omega)
 ·obtain ⟨its,r',pl,z⟩:=I.tuple j;have hlen:=r'.length;obtain ⟨o,ho,B,n,hd⟩:=pl;exact call_list_seq p (.inr rfl) ho B hd (fun h' c' kp e=>fin its r' z h' c' kp e) (by simp only [E4] <;> omega)
theorem ko:CallR X (.type "tuple") (fun xs H Q => ∃ p ys,xs=[.ref p]/\((SqL X.K H p ys /\ ∀ l,H l=none->Q (.ref l) (upd H l (.tup ys)))∨(SqT X.K H p ys/\Q (.ref p) H))):=by
 intro pins s σ H xs us Q I r h;obtain ⟨p,ys,rfl,h⟩:=h;obtain ⟨u,rfl,rx⟩:=cB r
 cases rx
 rcases h with ⟨j,q⟩ | ⟨j,q⟩
 ·obtain ⟨its,r',pl,z⟩:=I.list j;have hlen:=r'.length;refine call_tuple_list pl.isList (fun h' kp => ?_) (by simp only [E4] <;> omega)
  have B:Inv X pins σ H { s with heap:=h' }:=I.kept (t':=s.toks) kp
  have F:Inv X pins σ (upd H h'.objs.size (.tup ys)) { s with heap:=h'.push { cls := .type "tuple",data := .seq its.toArray } } :=
   B.laid (t':=s.toks) (fun b o e=>h7 _ e) (E3 _) (show ObjOk X.prog X.w _ _ _ (.tup ys) from ⟨z,its,r',J7 _ _⟩)
  exact ⟨.ref h'.objs.size,_,F,rfl,q _ (B.hok.fresh (E3 _))⟩
 ·obtain ⟨its,r',pl,z⟩:=I.tuple j;exact call_tuple_same pl ⟨.ref p,H,I,rfl,q⟩
def tyV (K:Frag) (T:String) (x:V) (H:Hp):Prop:=match x with
 | .str _=>T = "str"
 | .int _=>T = "int"
 | .ref p=>(T = "list" /\ ∃ xs,SqL K H p xs)∨(T = "tuple" /\ ∃ o,K.lookup p=some o/\o.cls = .type "tuple" /\ o.dict=none) ∨
  (T = "dict" /\ ((∃ kvs,H p=some (.dK kvs)) ∨ ∃ kvs,H p=some (.dT kvs)))∨(T = "set" /\ ∃ S n,H p=some (.set S n))
 | _=>False
theorem ze {pins:List (Addr×Obj)} {σ:St} {H:Hp} {s:hH} {T:String} {x:V} {v:h6} (I:Inv X pins σ H s) (r:RelV x v) (ty:tyV X.K T x H) :
 s.TypeIs v T /\ ∀ a,v = .ref a -> ∃ ob,s.heap.get? a=some ob/\ob.dict=none:=by
 cases x with
 | str z =>
   obtain ⟨t,rfl⟩:=r
   cases (show T = "str" from ty)
   exact ⟨typeIs_str s z t,fun _ e=>nomatch e⟩
 | int i =>
   obtain ⟨t,rfl⟩:=r
   cases (show T = "int" from ty)
   exact ⟨JX s i t,fun _ e=>nomatch e⟩
 | ref p =>
   cases r
   rcases ty with ⟨rfl,xs,B⟩ | ⟨rfl,o,j,F,hd⟩ | ⟨rfl,j⟩ | ⟨rfl,S,n,j⟩
   ·obtain ⟨its,_,pl,_⟩:=I.list B;refine ⟨pl.isList.typeIs,fun a e => ?_⟩
    cases e
    obtain ⟨o,n,e,c,hd,_⟩:=pl;exact ⟨o,e,hd⟩
   ·refine ⟨⟨o,I.kIn p o j,F⟩,fun a e => ?_⟩
    cases e
    exact ⟨o,I.kIn _ o j,hd⟩
   ·have z:∃ o,s.heap.get? p=some o/\o.ExactDict:=by
     rcases j with ⟨kvs,j⟩ | ⟨kvs,j⟩
     ·obtain ⟨_,_,_,_,o,_,_,e,ex,_⟩:=I.hok p _ j;exact ⟨o,e,ex⟩
     ·obtain ⟨_,_,_,_,o,_,_,e,ex,_⟩:=I.hok p _ j;exact ⟨o,e,ex⟩
    obtain ⟨o,e,ex⟩:=z;refine ⟨⟨o,e,ex.1⟩,fun a q => ?_⟩
    cases q
    exact ⟨o,e,ex.2.1⟩
   ·obtain ⟨o,_,_,_,e,ex,_⟩:=I.hok p _ j;refine ⟨⟨o,e,ex.1⟩,fun a q => ?_⟩
    cases q
    exact ⟨o,e,ex.2.1⟩
 | _=>exact False.elim ty
noncomputable def tBM (K:Frag) (T:String) (r:V->List V->Hp->VK->Prop) (to:TE) (t:TA):TE:=fun σ H Q=>to σ H fun x H1=>tyV K T x H1/\t σ H1 fun xs H2=>r x xs H2 Q
variable {o e:Expr} {es:List Expr} {to:TE} {t:TA} {name:Str} {apos cpos:Pos} {T id:String} {r:V->List V->Hp->VK->Prop}
theorem vU (pa:PlainAttrs T) (slot:Slot T name id) (F:typeOf (.builtin id)=pure (.type "method_descriptor")) (hm:MtR X id r) (ho:PE X o to) (O:PA X (e::es) t)
 (q:L4 o name X.env (eval o X.env)=eval o X.env:=by rfl)
 (B:((HS cpos (Et (e::es) X.env)).all (fun x => !x.1)&&(backToKw cpos (Mq [] X.env)).all (fun x=>x.1.isSome)
   && decide ((e::es).length+([]:List JY).length+(if ([]:List JY).isEmpty then 0 else 1) < 30))=true:=by rfl)
 (z:(apos.endLine==cpos.line)=true:=by rfl) (hs:Et (e::es) X.env=(false,eval e X.env)::Et es X.env:=by rfl) (j:(HS cpos (Et es X.env)).any (·.1)=false:=by rfl) :
 PE X (.Call (.Attribute o name apos) (e::es) [] cpos) (tBM X.K T r to t):=by
 intro pins s σ H Q I h;refine wpAny_Call_method_late q B z rfl (thn (ho pins s σ H _ I h) fun v s1 ⟨x,H1,G,J,ty,U⟩ => ?_);obtain ⟨h1,h2⟩:=ze G J ty;refine ⟨T,id,pa,slot,F,h1,h2, ?_⟩;have L:=O cpos pins s1 σ H1 _ G U;rw [hs] at L ⊢;refine JZ (by show (false || (HS cpos (Et es X.env)).any (·.1))=false;rw [j] <;> rfl) (Kk ?_)
 exact thn L fun us s2 ⟨vs,H2,Y,Z,q2⟩=>hm pins s2 σ H2 x vs v us Q Y J Z q2
end
end
section
def MtM (X:Cx) (id:String) (r:V->List V->Hp->VK->Prop):Prop :=
 ∀ (pins:List (Addr×Obj)) (s:hH) (σ:St) (H:Hp) (x:V) (xs:List V) (v:h6) (us:List h6) (Q:VK),Inv X pins σ H s->RelV x v->Vals xs us->r x xs H Q ->
  Ec (model X.prog X.w) X.A (call (.builtin id) (v::us)) (EP X pins σ Q) X.xe s
theorem Vals.one:∀ {x:V} {us:List h6},Vals [x] us -> ∃ u,us=[u]/\RelV x u
 | _,_, .cons r .nil=>⟨_,rfl,r⟩
theorem Vals.rep {xs:List V} {us:List h6} (h:Vals xs us):∀ k:Nat,Vals (DU k xs).flatten (DU k us).flatten
 | 0 => .nil
 | k+1=>by
   rw [Fd,Fd,F8,F8];exact Vals.append h (Vals.rep h k)
theorem eV (its:List h6):∀ (k:Nat) (acc:List h6),
 Ir (fun j q=>j++q) acc.toArray (DU k its.toArray)=(acc++(DU k its).flatten).toArray
 | 0,acc=>by simp
 | k+1,acc=>by
   have e:acc.toArray++its.toArray=(acc++its).toArray:=by simp
   have z:(acc++its)++(DU k its).flatten=acc++(DU (k+1) its).flatten:=by
    rw [Fd,F8,E9]
   rw [<- z, <- eV its k (acc++its), <- e,Fd,Gc]
section
variable {X:Cx} {pins:List (Addr×Obj)} {σ:St} {H:Hp} {s:hH} {l b:Addr} {xs ys zs:List V}
theorem Inv.lset {its its':List h6} {n:Nat} {f:Array h6->Array h6} {t':Nat} (I:Inv X pins σ H s) (j:H l=some (.lst xs))
 (e:s.heap.get? l=some { cls := .type "list",data := .seq its.toArray n }) (hf:f its.toArray=its'.toArray) (z:Vals ys its') (B:ys.length<=DY) :
 Inv X pins σ (upd H l (.lst ys)) { s with heap:=s.heap.update l (Ha f),toks:=t' }:=by
 have q:=PySem.IsL.update e f;rw [hf] at q;refine I.write (x:=l) (e:=l) (by rw [j];exact trivial) (.inl rfl) (fun b' u F G=>(JW s.heap (Ha f) (Ne.symm F)).trans G) ⟨_,q⟩ ?_
 exact ⟨B,its',_,z,q⟩
theorem Inv.lnew {its:List h6} {t':Nat} (I:Inv X pins σ H s) (j:Vals ys its) (z:ys.length<=DY) :
 Inv X pins σ (upd H s.heap.objs.size (.lst ys)) { s with heap:=s.heap.push { cls := .type "list",data := .seq its.toArray },toks:=t' } :=
 I.laid (fun _ _ q=>h7 _ q) (E3 _) ⟨z,its,0,j,E1 _ rfl⟩
theorem Inv.fresh (I:Inv X pins σ H s):H s.heap.objs.size=none:=I.hok.fresh (E3 _)
theorem Inv.lstM (I:Inv X pins σ H s) (j:H l=some (.lst xs)):xs.length<=DY /\ ∃ (its:List h6) (n:Nat),Vals xs its/\xs.length=its.length/\s.heap.get? l=some { cls := .type "list",data := .seq its.toArray n }:=by
 obtain ⟨z,its,n,r,e⟩:=I.hok l _ j;exact ⟨z,its,n,r,r.length,e⟩
theorem kF {n:Nat} (h:n<=DY):GN n=false:=by
 unfold GN;exact decide_eq_false (by omega)
end
section
variable {X:Cx}
noncomputable def nQ:V->List V->Hp->VK->Prop:=fun x vs H Q => ∃ l xs y,x = .ref l/\vs=[y]/\H l=some (.lst xs)/\xs.length < DY/\Q .non (upd H l (.lst (xs++[y])))
theorem jE:MtM X "list.append" nQ:=by
 intro pins s σ H x vs v us Q I rx rv h;obtain ⟨l,xs,y,rfl,rfl,j,B,q⟩:=h
 cases rx
 obtain ⟨u,rfl,ru⟩:=rv.one;obtain ⟨z,its,n,r,G,e⟩:=I.lstM j;refine Je F.slot_list_append ⟨_,e,rfl⟩ F.entry_list_append (F.args_list_append_2 _ _) (PySem.list_append l its.toArray n u (by rw [E4];omega)) ⟨e, ?_⟩
 refine ⟨.non,_,I.lset (its':=its++[u]) j e (by simp) (r.append (.cons ru .nil)) ?_,rfl,q⟩
 rw [z4,EV];omega
noncomputable def nR:V->List V->Hp->VK->Prop:=fun x vs H Q => ∃ l b xs zs,x = .ref l/\vs=[.ref b]/\H l=some (.lst xs)/\H b=some (.lst zs)/\xs.length+zs.length<=DY/\Q .non (upd H l (.lst (xs++zs)))
theorem qO:MtM X "list.extend" nR:=by
 intro pins s σ H x vs v us Q I rx rv h;obtain ⟨l,b,xs,zs,rfl,rfl,G,J,Z,q⟩:=h
 cases rx
 obtain ⟨u,rfl,ru⟩:=rv.one
 cases ru
 obtain ⟨z,its,n,r,hl,e⟩:=I.lstM G;obtain ⟨z2,j,L,O,U,Y⟩:=I.lstM J;have hsz:its.toArray.size+j.toArray.size<=DY:=by rw [E4,E4];omega
 have B : ¬ (!its.toArray.isEmpty&&GN (its.toArray.size+j.toArray.size))=true:=by
  rw [kF hsz,Bool.and_false];exact E2
 refine Je F.slot_list_extend ⟨_,e,rfl⟩ F.entry_list_extend (F.args_list_extend_2 _ _)
  (AutoSeq1.list_extend_list_list_0 l its.toArray n b j.toArray L B (by rw [E4];omega) (by omega)) ⟨e,Y, ?_⟩
 refine ⟨.non,_,I.lset (its':=its++j) G e (by simp) (r.append O) ?_,rfl,q⟩
 rw [z4];omega
noncomputable def Bw:R2:=fun x y H Q => ∃ l b xs zs,x = .ref l/\y = .ref b/\H l=some (.lst xs)/\H b=some (.lst zs)/\xs.length+zs.length<=DY /\ ∀ p,H p=none->Q (.ref p) (upd H p (.lst (xs++zs)))
theorem op_cat:OpR X (Fy .Add) Bw:=by
 intro pins s σ H x y v u Q I rx ry h;obtain ⟨l,b,xs,zs,rfl,rfl,B,F,O,q⟩:=h
 cases rx
 cases ry
 obtain ⟨z,its,n,r,U,e⟩:=I.lstM B;obtain ⟨Y,j,Z,G,J,L⟩:=I.lstM F;refine PySem.P.add_list e L ?_ (by rw [E4,E4];omega)
 have ea:its.toArray++j.toArray=(its++j).toArray:=by simp
 rw [ea];exact ⟨.ref _,_,I.lnew (t':=s.toks) (r.append G) (by rw [z4];omega),rfl,q _ I.fresh⟩
noncomputable def By:R2:=fun x y H Q => ∃ l k xs,x = .ref l/\y = .int k/\H l=some (.lst xs) /\ -(2 ^ 63)<=k/\k < 2 ^ 63/\xs.length*k.toNat<=DY /\
 ∀ p,H p=none->Q (.ref p) (upd H p (.lst (DU k.toNat xs).flatten))
theorem nS {α:Type} (xs:List α) (k:Nat):(DU k xs).flatten.length=k*xs.length:=by
 induction k with
 | zero=>simp
 | succ k ih=>rw [Fd,F8,z4,ih,FG,Nat.add_comm]
theorem op_rep:OpR X (Fy .Mult) By:=by
 intro pins s σ H x y v u Q I rx ry h;obtain ⟨l,k,xs,rfl,rfl,Z,h1,h2,Y,q⟩:=h
 cases rx
 obtain ⟨t,rfl⟩:=ry;obtain ⟨z,its,n,r,hl,e⟩:=I.lstM Z;have hlen:its.toArray.size*k.toNat<=DY:=by rw [E4, <- hl];exact Y
 have B : ¬ its.toArray.size*k.toNat > (2 ^ 63 - 1) / 8:=by
  have:(DY:Nat)<=(2 ^ 63 - 1) / 8:=by decide
  omega
 have G : ¬ (!Builtin.List.listFitsIndex k)=true:=by
  rw [fitsIndex_both h1 h2];exact E2
 have j : ¬ GN (its.toArray.size*k.toNat)=true:=by
  rw [kF hlen];exact E2
 have J:Ir (fun L O=>L++O) #[] (DU (if its.toArray.isEmpty=true then 0 else k.toNat) its.toArray)=(DU k.toNat its).flatten.toArray:=by
  have f0:∀ m:Nat,Ir (fun L O=>L++O) #[] (DU m its.toArray)=(DU m its).flatten.toArray:=fun m=>by
   have:=eV its m [];rw [IS] at this;exact this
  rw [f0]
  cases its with
  | nil=>simp
  | cons a r'=>rw [if_neg (by simp)]
 refine Jl (T := "list") (U := "int") (by decide) ⟨_,e,rfl⟩ (fun s'=>JX s' k t) noFill_list_mul MJ IT repeat_list F.slot_int_index.lookup
  (Je IT (JX s k t) LU (LC _ _) (int___rmul___int_list k t l its.toArray n)
    ⟨e,rfl,⟨_,e,rfl⟩,Je F.slot_list_mul ⟨_,e,rfl⟩ F.entry_list_mul (F.args_list_mul_2 _ _) (AutoListH.list___mul___list_int_3 l its.toArray n k t G B j) ⟨e, ?_⟩⟩)
 rw [J];exact ⟨.ref _,_,I.lnew (t':=s.toks) (r.rep k.toNat) (by rw [nS,Nat.mul_comm];exact Y),rfl,q _ I.fresh⟩
end
end
end L2
namespace Att
open PySem PySem.W PySem.Calls PyProof.Rows
theorem i8 {P:Params} {h:Heap}:∀ (ns:List Int) (vs:List h6),WellAll P h vs (ns.map WData.int)->MU vs ns:=by
 intro ns
 induction ns with
 | nil =>
   intro vs w;rw [HB] at w
   cases w
   exact .nil
 | cons n ns ih =>
   intro vs w;rw [Ew] at w
   cases w with
   | cons a b =>
     cases a
     exact .cons _ _ (ih _ b)
theorem qP {l:OpenLaw} {n:Nat} (O:l.most=some n) {P:Params} {h:Heap} {args:List WData} {vals:List h6}
 (j:l.row.toRowW.claim.pre args=true) (G:WellAll P h vals args) :
 ∃ a vs ns,vals=[Ff a]/\args=[WData.list (ns.map WData.int)]/\h.get? a=some { cls := .type "list",data := .seq vs.toArray }/\MU vs ns/\ns.length<=n:=by
 have J:WShape.hasAll [] args [.list .int]=true:=(pre_splitW j).1;have L:l.pre.holds [] { args:=args }=true:=(pre_splitW j).2;obtain ⟨d,r,rfl,h1,h2⟩:=hasAllW_cons J;obtain rfl:=hasAllW_nil h2;obtain ⟨xs,rfl,U⟩:=hasW_list h1;obtain ⟨ns,rfl⟩:=items_int U;have hlen:ns.length<=n:=by
  unfold OpenLaw.pre at L;have B:(WTm.not (.lt (.lit (.int (n:Int))) (.len (.arg 0)))).holds [] { args := [.list (ns.map .int)] }=true:=by
   have B:=(holds_andW L).1;rw [O] at B;exact B
  have F:=condW_of B (w_not (w_lt w_lit (w_len_list (w_arg rfl))));rw [r4] at F;refine Nat.le_of_not_lt fun q => ?_;have q':(n:Int) < ((ns.length:Nat):Int):=by omega
  first
   | (rw [decide_eq_true q'] at F;exact absurd F (by decide))
   | (simp at F;omega)
 cases G with
 | cons Y Z =>
   cases Z
   cases Y with
   | list ho z=>exact ⟨_,_,ns,rfl,rfl,ho,i8 ns _ z,hlen⟩
theorem qQ (l:OpenLaw) (args:List WData):l.row.toRowW.claim.post args (.bool true) args=true :=
 postW_of (r:=l.row.toRowW) (X:=(true==true))
  (show WShape.has [] (.bool true) .bool=true by first | rfl | decide | simp [WShape.has,WShape.arms,WShape.armsAll])
  (show (WTm.eq .res (.lit (.bool true))).value [] { args:=args,res:=some (.bool true),after:=args }=some (.bool (true==true)) from w_eq_bool (w_res rfl) w_lit) rfl
theorem attach_call {l:OpenLaw} {n:Nat} {q:Ep} {loose:List Str} {XP:(Str->Option h6)->Heap->Prop} {YP:EM->Heap->Prop} {d:DefRec}
 (Z:l.most=some n) (B:d.params.defaults=[])
 (call:∀ (w:EM) (s₀ s₁:hH) (mg mb:Str->Option h6) (fa:Addr) (o:Obj) (pm cd doc:h6) (a:Addr) (vs:List h6) (ns:List Int),
   Ground q loose [] XP w s₀ mg mb s₁.heap->YP w s₁.heap ->
   s₁.heap.get? fa=some o->o.data = .func (docDef d.name d.params d.body d.scope pm cd doc)->s₁.heap.CodeRec cd d.name->mg d.name=some (.ref fa) ->
   s₁.heap.get? a=some { cls := .type "list",data := .seq vs.toArray }->MU vs ns->ns.length<=n->s₁.gens = #[] ->
   IB (model l.prog w) KL (.call (.ref fa) ⟨[.ref a],[]⟩) (fun r s'=>r = .ok (.ret (.bool true))/\OldK s₁.heap s'.heap/\s'.os=s₁.os/\Jq s'.gens) s₁) :
 WalkO q loose XP YP l.row.toRowW d [] (fun f vs=>N1 f vs):=by
 intro w s₀ s₁ mg mb G Y fa o pm cd doc dV kV ho hd F O J hg args vals as j U BJ L BK;obtain rfl:dV = .none:=Dflts.none O B;obtain rfl:kV = .none:=Dflts.noKw O;obtain ⟨a,vs,ns,rfl,rfl,z,hints,hlen⟩:=qP Z j L;refine enter_call (I9 (call w s₀ s₁ mg mb fa o pm cd doc a vs ns G Y ho (fd_plain hd) F J z hints hlen hg) fun r s' hq => ?_);obtain ⟨rfl,h2,h3,h4⟩:=hq;exact ⟨.inl ⟨.bool true, .bool true,[],rfl,fun _=>rfl, .bool true,qQ l _,fun _=>⟨Js,fun _ hm=>(nomatch hm)⟩⟩,h2,h3,h4⟩
section
variable {prog:Ep} {w:EM} {A:F5} {E:h6->hH->Prop} {s:hH} {K:Frag}
noncomputable def BI (h:Heap) (L d:Addr):List (Addr×Obj):=(Ei h.objs.size).filterMap fun a=>if a=L∨a=d then none else (h.get? a).map fun o=>(a,o)
end
end Att
namespace L2
open PySem PySem.Spec PyProof.Rows
section
theorem jF:∀ {vs:List h6} {ns:List Int},MU vs ns->Vals (ns.map V.int) vs
 | _,_, .nil => .nil
 | _,_, .cons n t h => .cons ⟨t,rfl⟩ (jF h)
def pv (H:Hp):Prop := ∀ b,H b=none ∨ ∃ o xs,H b=some (.frz o (.lst xs))
theorem u3 {P:Ep} {w:EM} {K:Frag} {mg mb:Str->Option h6} {CX:CXT} {k:Nat} {fa a:Addr} {fd:Hw} {x:Str} {sp:Sp} {s₁:hH} {vs:List h6} {ns:List Int}
 (KX:K.In s₁.heap) (G:s₁.heap.Ns Fn mg) (j:s₁.heap.Ns MV mb) (Y:∀ x:Str,x ≠ "__name__" -> mb x=H8 x) (J:s₁.heap.NoLimit) (hg:s₁.gens = #[])
 (U:s₁.heap.get? a=some { cls := .type "list",data := .seq vs.toArray }) (hi:MU vs ns) (hl:ns.length<=DY) (hr:Room k KL)
 (F:∀ base:Heap,K.In base->base.Ns Fn mg->dj P w K mg base CX k fa fd [x] sp) (B:∀ (s:hH) (u:h6),Ly s fd ⟨[u],[]⟩ [(x,u)])
 (Z:∀ H:Hp,pv H->SqL K H a (ns.map V.int)->sp [.ref a] H (fun v _=>v = .bl true) fun _ _ _=>False)
 (BJ:∀ H e s',CX [] H s₁ (fun _ _ _=>False) e s'->False) :
 IB (model P w) KL (.call (.ref fa) ⟨[.ref a],[]⟩) (fun r s'=>r = .ok (.ret (.bool true))/\OldK s₁.heap s'.heap/\s'.os=s₁.os/\Jq s'.gens) s₁ := by
 have rv:=jF hi;have lenV:=hi.length;have core:∀ H:Hp,pv H->SqL K H a (ns.map V.int)->HOk P w H s₁.heap->(∀ b,H b≠none->b=a)->(H a≠none->K.lookup a=none) ->
  IB (model P w) KL (.call (.ref fa) ⟨[.ref a],[]⟩) (fun r s'=>r = .ok (.ret (.bool true))/\OldK s₁.heap s'.heap/\s'.os=s₁.os/\Jq s'.gens) s₁ := by
  intro H hO hS hok hA hK;have base_of:∀ {b:Addr} {o:Obj},s₁.heap.get? b=some o->H b=none->(ef s₁.heap H).get? b=some o:=fun e n=>tL e n;have noA:∀ {b:Addr} {o:Obj} {es:Array Gq} {ep:Nat},s₁.heap.get? b=some o->o.data = .dict es ep->H b=none:=fun {b o es ep} e d=>by
   cases q:H b with
   | none=>rfl
   | some u =>
     have e':b=a:=hA b (by rw [q];simp)
     subst e';rw [U] at e;cases e;have d':IF vs.toArray _=Data.dict es ep:=d
     cases d'
  have nsK:∀ {b:Addr} {m:Str->Option h6},s₁.heap.Ns b m->(ef s₁.heap H).Ns b m:=fun {b m} ⟨o,es,ep,e,d,r⟩=>⟨o,es,ep,base_of e (noA e d),d,r⟩;have L:K.In (ef s₁.heap H):=fun b o e=>base_of (KX b o e) (by
   cases q:H b with
   | none=>rfl
   | some u =>
     have e':b=a:=hA b (by rw [q];simp)
     subst e';rw [hK (by rw [q];simp)] at e;cases e)
  have hM:Mod K mg (ef s₁.heap H):=⟨L,nsK G,⟨mb,nsK j,Y⟩,let ⟨mc,h1,h2⟩:=J; ⟨mc,nsK h1,h2⟩⟩;have e0:pc P w K mg (ef s₁.heap H) KL [] s₁ H:=⟨rfl,hM,fun b o e=>wv e,Nat.le_of_eq (qv _ _),trivial,fun b j=>absurd (show b∈([]:List Addr) from j) (by simp),hok, .of_eq hg⟩
  refine I9 ((F _ L (nsK G)).run KL [] s₁ H ⟨[.ref a],[]⟩ [.ref a] [.ref a] _ _ hr e0 (B s₁ (.ref a)) (.cons rfl .nil) (Z H hO hS)) fun r s' h => ?_
  cases r with
  | error e=>exact (BJ H e s' h).elim
  | ok fl =>
    cases fl with
    | next=>exact False.elim h
    | brk=>exact False.elim h
    | cont=>exact False.elim h
    | ret u =>
      obtain ⟨v,H',os,bare,un,O,r',q⟩:=h;have q':v = .bl true:=q;subst q';obtain rfl:u=Ld true:=r';refine ⟨rfl,OldK.of_keep fun b o e => ?_,os,bare⟩
      cases q:H b with
      | none=>exact un.keep b o e q (by intro z;exact absurd (show b∈([]:List Addr) from z) (by simp)) (by simp)
      | some u =>
        rcases hO b with z | ⟨ob,xs,z⟩
        ·rw [q] at z;cases z
        ·have z2:=un.frzs b ob _ z;obtain ⟨e1,_⟩:=hok b _ z;obtain ⟨e2,_⟩:=O b _ z2;rw [e] at e1;cases e1;exact e2
 cases hk:K.lookup a with
 | some o =>
   have e:=KX a o hk;rw [U] at e
   cases e
   refine core (fun _=>none) (fun _ => .inl rfl) (.inr ⟨_,vs.toArray,_,hk,rfl,rfl,rfl,by rw [E4,lenV];exact hl,by simpa using rv⟩) (fun b u z=>by have z':(none:Option HO)=some u:=z;cases z') (fun b z=>absurd rfl z) fun z=>absurd rfl z
 | none =>
   refine core (fun b=>if b=a then some (.frz { cls := .type "list",data := .seq vs.toArray } (.lst (ns.map V.int))) else none) (fun b => ?_) (.inl (.inr ⟨{ cls := .type "list",data := .seq vs.toArray },if_pos rfl⟩)) (fun b u z => ?_) (fun b z => ?_) fun _=>hk
   ·by_cases j:b=a
    ·exact .inr ⟨_,_,if_pos j⟩
    ·exact .inl (if_neg j)
   ·by_cases j:b=a
    ·have z':=(if_pos j).symm.trans z
     cases z'
     subst j;exact ⟨U,by rw [r4];exact hl,vs,_,rv,U⟩
    ·have z':=(if_neg j).symm.trans z
     cases z'
   ·by_cases j:b=a
    ·exact j
    ·exact absurd (if_neg j) z
end
section
theorem walk_of {l:K8} {n k:Nat} {q:Ep} {loose:List Str} {XP:(Str->Option h6)->Heap->Prop} {YP:EM->Heap->Prop} {d:DefRec} {K:Params->Frag} {CX:EM->CXT} {sp:EM->Sp} {x:Str}
 (U:l.most=some n) (z:n<=DY) (B:d.params.defaults=[]) (Z:Room k KL)
 (hY:∀ (w:EM) (h:Heap),YP w h->(K w.params).In h)
 (F:∀ (w:EM) (mg:Str->Option h6) (fa:Addr) (h:Heap),(K w.params).In h->h.Ns Fn mg->mg d.name=some (.ref fa) ->
   ∃ fd:Hw,(∀ (s:hH) (u:h6),Ly s fd ⟨[u],[]⟩ [(x,u)]) /\
    ∀ base:Heap,(K w.params).In base->base.Ns Fn mg->dj l.prog w (K w.params) mg base (CX w) k fa fd [x] (sp w))
 (J:∀ (w:EM) (H:Hp) (a:Addr) (ns:List Int),ns.length<=n->pv H->SqL (K w.params) H a (ns.map V.int)->sp w [.ref a] H (fun v _=>v = .bl true) fun _ _ _=>False)
 (L:∀ (w:EM) (H:Hp) (s:hH) (e:h6) (s':hH),CX w [] H s (fun _ _ _=>False) e s'->False) :
 PySem.W.WalkO q loose XP YP l.row.toRowW d [] (fun f vs=>N1 f vs):=by
 refine Att.attach_call U B fun w s₀ s₁ mg mb fa o pm cd doc a vs ns G Y ho hd BJ O j hints hlen hg => ?_;have KX:=hY w _ Y;obtain ⟨fd,hb,hF⟩:=F w mg fa _ KX G.T.g O;exact u3 KX G.T.g G.T.b G.T.builtins G.T.nolimit hg j hints (ET hlen z) Z hF hb (fun H hO hS=>J w H a ns hlen hO hS) fun H e s'=>L w H s₁ e s'
end
section
noncomputable def cX (s:Stmt):Arguments:=match s with
 | .FunctionDef _ a _ _ _ _ _ _ _ _=>a
 | _ => { posonlyargs := [],args := [],vararg:=none,kwonlyargs := [],kw_defaults := [],kwarg:=none,defaults := [] }
noncomputable def bP (s:Stmt):List Stmt:=match s with
 | .FunctionDef _ _ b _ _ _ _ _ _ _=>b
 | _ => []
noncomputable def az (s:Stmt):Scope:=match s with
 | .FunctionDef _ _ _ _ _ _ sc _ _ _=>sc
 | _ => { kind := .function,names := [],isGenerator:=false,isCoroutine:=false }
noncomputable abbrev CX0:CXT:=fun _ _ _ _ _ _=>False
noncomputable abbrev E0:XK:=fun _ _ _=>False
theorem vW {X:Cx}:i6 CX0 X E0:=fun _ _ _ _ _ _ _ h=>h.elim
structure Fun (K:Frag) (x qual:Str) (st:Stmt) (f:Addr) (fd:Hw):Prop where
 ex:∃ (oc:h6) (od:Option Addr) (kV doc pm:h6) (an:Option Addr) (cdv ct:h6) (osl:Array (Option h6)),
  fd=H9 x qual (cX st) (bP st) (az st) .none kV doc pm an cdv ct/\K.lookup f=some ⟨oc,od, .func fd,osl⟩/\Jb K cdv qual=true
 kp:Hx K (.ref f)=true
section
variable {P:Ep} {w:EM} {K:Frag} {mg:Str->Option h6} {base:Heap}
theorem Fun.ok {x qual:Str} {st:Stmt} {f:Addr} {fd:Hw} {N ps:List Str} {k:Nat} {sp:Sp} (F:Fun K x qual st f fd) (S:fF N ps (az st)) (len:∀ vs H Q E,sp vs H Q E->vs.length=ps.length)
 (j:∀ (cdv:h6) (A:F5) (outer:List Env) (s:hH) (H:Hp) (vs:List V) (Q:VK) (E:XK),Room k (A.deeper (Kj qual (az st) s.heap.objs.size f cdv))->sp vs H Q E ->
   ∃ t,PSs (gD CX0 P w K mg base N qual (az st) f cdv A outer s H E).nox (bP st) t/\t { nx:=fun _ H'=>Q .non H',rt:=Q } (cC N vs) H):dj P w K mg base CX0 (k+1) f fd ps sp:=by
 obtain ⟨oc,od,kV,doc,pm,an,cdv,ct,osl,rfl,lk,z⟩:=F.ex;refine AG lk z S len fun A outer s H vs Q E G B => ?_;obtain ⟨t,h,q⟩:=j cdv A outer s H vs Q E G B;exact ⟨t,h.nox,q⟩
theorem Fun.binds {x qual:Str} {st:Stmt} {f:Addr} {fd:Hw} {ps:List Str} (F:Fun K x qual st f fd)
 (h:∀ (kV doc pm:h6) (an:Option Addr) (cdv ct:h6) (us:List h6),us.length=ps.length->bindArgs (H9 x qual (cX st) (bP st) (az st) .none kV doc pm an cdv ct) ⟨us,[]⟩=pure (ps.zip us)):Binds K fd ps []:=by
 obtain ⟨oc,od,kV,doc,pm,an,cdv,ct,osl,rfl,lk,j⟩:=F.ex;exact .all (h kV doc pm an cdv ct)
theorem ah {x qual:Str} {st:Stmt} {f:Addr} {oc:h6} {od an:Option Addr} {osl:Array (Option h6)} {kV doc pm cdv ct:h6} (l:K.lookup f=some ⟨oc,od, .func (H9 x qual (cX st) (bP st) (az st) .none kV doc pm an cdv ct),osl⟩)
 (c:Jb K cdv qual=true) (k:Hx K (.ref f)=true):Fun K x qual st f (H9 x qual (cX st) (bP st) (az st) .none kV doc pm an cdv ct):=⟨⟨oc,od,kV,doc,pm,an,cdv,ct,osl,rfl,l,c⟩,k⟩
end
end
end L2
namespace HT
open PySem PySem.Spec PyProof.Rows
section
variable {prog:Ep} {w:EM} {A:F5} {E:h6->hH->Prop} {s:hH}
theorem getItem_tuple_whole {t sl:Addr} {items:Array h6} {vl vu:h6} {lo hi:Option Int} {Q:h6->hH->Prop} (j:IsTup s.heap t items) (hs:s.heap.IsSliceOf sl vl vu .none) (pl:JT vl lo) (pu:JT vu hi)
 (hw:sIx items.size 0 lo=0/\sIx items.size items.size hi=items.size) (h:Q (.ref t) s):Ec (model prog w) A (JU (.ref t) (.ref sl)) Q E s:=by
 obtain ⟨os,q,z,G⟩:=id hs;have B:s.TypeIs (.ref sl) "slice" := ⟨os,q,z⟩;unfold JU
 try with_reducible refine Fh ?_
 first | refine gV (q7 ?_) | skip
 refine gV (LA j.typeIs (by decide) ?_)
 refine gV (EG (name:=Fc "__getitem__") j.typeIs FR
  (F6 FR j.typeIs KP ?_ (Lg _ _)))
 show Ec _ _ (Jd (.ref t) >>= _) _ _ s;refine gV (tupleItemsOf_ j ?_);refine gV (GF B ?_);rw [if_pos (by decide)]
 refine gV (dl hs pl pu ?_);have F:(((sIx items.size 0 lo:Nat):Int)==0&&(1:Int)==1&&(sIx items.size items.size hi - sIx items.size 0 lo)==items.size)=true:=by
  rw [hw.1,hw.2];simp
 show Ec _ _ (if (((sIx items.size 0 lo:Nat):Int)==0&&(1:Int)==1&&(sIx items.size items.size hi - sIx items.size 0 lo)==items.size)=true then _ else _) _ _ s
 rw [if_pos F];refine gV (m:=Jf (.ref t)) ?_;unfold Jf;refine gV (GF j.typeIs (q7 ?_));show Ec _ _ (if true=true then _ else _) _ _ s
 rw [if_pos rfl];exact gV (FW (q7 ⟨_,rfl,q7 h⟩))
end
end HT
namespace L2
open PySem PySem.Spec PyProof.Rows
section
section
variable {X:Cx}
noncomputable def Bz (K:Frag):V->Option Int->Option Int->Hp->VK->Prop:=fun x lo hi H Q => ∃ a xs,x = .ref a/\SqT K H a xs/\(HT.sIx xs.length 0 lo=0/\HT.sIx xs.length xs.length hi=xs.length)/\Q x H
theorem u4:SlR X (Bz X.K):=by
 intro pins s σ H x v vl vu lo hi sl Q I rx hs pl pu h;obtain ⟨a,xs,rfl,hx,hw,q⟩:=h
 cases rx
 obtain ⟨its,r,j,z⟩:=I.tuple hx;have hlen:=r.length;refine ⟨"tuple",_,slot_tuple_getitem.lookup,j.typeIs, ?_⟩;refine HT.getItem_tuple_whole j hs pl pu (by rw [E4, <- hlen];exact hw) ⟨.ref a,H,I,rfl,q⟩
end
end
section
section
variable {κ:Type} [DecidableEq κ]
noncomputable def bK (kvs:List (κ × V)) (k : κ):Option V:=(kvs.find? fun kv=>decide (kv.1=k)).map (·.2)
noncomputable def bf (kvs:List (κ × V)) (k : κ) (v:V):List (κ × V) :=
 if (kvs.any fun kv=>decide (kv.1=k))=true then kvs.map (fun kv=>if kv.1=k then (kv.1,v) else kv) else kvs++[(k,v)]
theorem eh {p : κ × V} {r:List (κ × V)} {k : κ} (e:p.1=k):bK (p::r) k=some p.2:=by simp [bK,FQ,e]
theorem el {p : κ × V} {r:List (κ × V)} {k : κ} (e : ¬ p.1=k):bK (p::r) k=bK r k:=by simp [bK,FQ,e]
theorem kG (k : κ):∀ kvs:List (κ × V),(kvs.any fun kv=>decide (kv.1=k))=(bK kvs k).isSome
 | [] => rfl
 | p::r=>by
   rw [Ho]
   by_cases e:p.1=k
   ·simp only [eh e,decide_eq_true e,Bool.true_or,Lh]
   ·rw [el e,decide_eq_false e,Jz];exact kG k r
theorem cD (kvs:List (κ × V)) (k : κ) (v:V):(bf kvs k v).length<=kvs.length+1:=by
 unfold bf
 split
 ·rw [r4];omega
 ·rw [z4,Fg,Gd];omega
theorem RelO.isSome_eq {o:Option V} {u:Option h6} (r:RelO o u):o.isSome=u.isSome:=by
 cases o with
 | none=>cases u with
   | none=>rfl
   | some _=>exact (show False from r).elim
 | some _=>cases u with
   | none=>exact (show False from r).elim
   | some _=>rfl
theorem RelO.getD {o:Option V} {u:Option h6} {d:V} {d':h6} (r:RelO o u) (rd:RelV d d'):RelV (o.getD d) (u.getD d'):=by
 cases o with
 | none=>cases u with
   | none=>exact rd
   | some _=>exact (show False from r).elim
 | some _=>cases u with
   | none=>exact (show False from r).elim
   | some _=>exact r
theorem KV.val {kvs:List (κ × V)} {vs:List (κ × h6)} (r:KV kvs vs) (k : κ):RelO (bK kvs k) (KN vs k):=by
 unfold KV at r
 induction r with
 | nil=>exact Gu
 | @cons p q ps qs h t ih =>
  obtain ⟨h1,h2⟩:=h
  by_cases e:p.1=k
  ·have e':q.1=k:=h1.symm.trans e;have b:KN (q::qs) k=some q.2:=by simp [KN,FQ,e']
   rw [eh e,b];exact h2
  ·have e' : ¬ q.1=k:=fun z=>e (h1.trans z);have b:KN (q::qs) k=KN qs k:=by simp [KN,FQ,e']
   rw [el e,b];exact ih
theorem KV.any {kvs:List (κ × V)} {vs:List (κ × h6)} (r:KV kvs vs) (k : κ):(kvs.any fun kv=>decide (kv.1=k))=vs.any fun kv=>decide (kv.1=k):=by
 unfold KV at r
 induction r with
 | nil=>rfl
 | cons h t ih=>rw [Ho,Ho,ih,h.1]
theorem KV.repl {kvs:List (κ × V)} {vs:List (κ × h6)} (r:KV kvs vs) (k : κ) {y:V} {u:h6} (ry:RelV y u) :
 KV (kvs.map fun kv=>if kv.1=k then (kv.1,y) else kv) (vs.map fun kv=>if kv.1=k then (kv.1,u) else kv):=by
 unfold KV at r ⊢
 induction r with
 | nil=>exact .nil
 | @cons p q ps qs h t ih =>
  rw [Ew,Ew];refine .cons ?_ ih;obtain ⟨h1,h2⟩:=h
  by_cases e:p.1=k
  ·rw [if_pos e,if_pos (h1.symm.trans e)];exact ⟨h1,ry⟩
  ·rw [if_neg e,if_neg (fun z=>e (h1.trans z))];exact ⟨h1,h2⟩
theorem KV.put {kvs:List (κ × V)} {vs:List (κ × h6)} (r:KV kvs vs) (k : κ) {y:V} {u:h6} (ry:RelV y u):KV (bf kvs k y) (stored vs k u):=by
 unfold bf stored;rw [r.any k]
 by_cases e:(vs.any fun kv=>decide (kv.1=k))=true
 ·rw [if_pos e,if_pos e];exact r.repl k ry
 ·rw [if_neg e,if_neg e];exact Paired.snoc r ⟨rfl,ry⟩
theorem KV.length {kvs:List (κ × V)} {vs:List (κ × h6)} (r:KV kvs vs):kvs.length=vs.length:=FZ r
end
theorem i9 {P:Ep} {w:EM} {k:Key} {u:h6} (r:RelV (kV k) u):(aD P w).is k u=true:=by
 cases k with
 | inl i=>obtain ⟨t,e⟩:=(show ∃ t,u=LP i t from r);subst e;exact no P w i t
 | inr x=>obtain ⟨t,e⟩:=(show ∃ t,u=LQ x t from r);subst e;exact nr P w x t
theorem jG {P:Ep} {w:EM}:∀ {ks:List Key} {us:List h6},Vals (ks.map kV) us->ItemsAre (aD P w) ks us
 | [],_,r=>by rw [HB] at r;cases r;exact .nil
 | k::ks,_,r=>by
   rw [Ew] at r
   cases r with
   | cons h t=>exact .cons (i9 h) (jG t)
noncomputable abbrev KT (H:Hp):List (List Key×V)->List (List Key×Addr×h6)->Prop:=ES fun p q=>p.1=q.1/\H q.2.1=some (.tup (p.1.map kV))/\RelV p.2 q.2.2
theorem KT.val {H:Hp} {kvs:List (List Key×V)} {xs:List (List Key×Addr×h6)} (r:KT H kvs xs) (k:List Key):RelO (bK kvs k) ((Mr xs k).map (·.2)):=by
 induction r with
 | nil=>exact Gu
 | @cons p q ps qs h t ih =>
  obtain ⟨h1,_,h2⟩:=h
  by_cases e:p.1=k
  ·have e':q.1=k:=h1.symm.trans e;have b:Mr (q::qs) k=some q.2:=by simp [Mr,FQ,e']
   rw [eh e,b];exact h2
  ·have e' : ¬ q.1=k:=fun z=>e (h1.trans z);have b:Mr (q::qs) k=Mr qs k:=by simp [Mr,FQ,e']
   rw [el e,b];exact ih
theorem KT.repl {H:Hp} {kvs:List (List Key×V)} {xs:List (List Key×Addr×h6)} (r:KT H kvs xs) (k:List Key) {y:V} {u:h6} (ry:RelV y u) :
 KT H (kvs.map fun kv=>if kv.1=k then (kv.1,y) else kv) (xs.map (putAt k u)):=by
 induction r with
 | nil=>exact .nil
 | @cons p q ps qs h t ih =>
  rw [Ew,Ew];refine .cons ?_ ih;obtain ⟨h1,h2,j⟩:=h;unfold putAt
  by_cases e:p.1=k
  ·rw [if_pos e,if_pos (h1.symm.trans e)];exact ⟨h1,h2,ry⟩
  ·rw [if_neg e,if_neg (fun z=>e (h1.trans z))];exact ⟨h1,h2,j⟩
theorem KT.put {H:Hp} {kvs:List (List Key×V)} {xs:List (List Key×Addr×h6)} (r:KT H kvs xs) (k:List Key) {b:Addr} {y:V} {u:h6} (j:H b=some (.tup (k.map kV))) (ry:RelV y u) :
 KT H (bf kvs k y) (storedH xs k b u):=by
 have e:(kvs.any fun kv=>decide (kv.1=k))=(Mr xs k).isSome:=by
  rw [kG,(r.val k).isSome_eq,Jt]
 unfold bf storedH;rw [e]
 by_cases q:(Mr xs k).isSome=true
 ·rw [if_pos q,if_pos q];exact r.repl k ry
 ·rw [if_neg q,if_neg q];exact Paired.snoc r ⟨rfl,j,ry⟩
theorem KT.keeps {H H':Hp} {kvs:List (List Key×V)} {xs:List (List Key×Addr×h6)} (r:KT H kvs xs) (j:∀ b ys,H b=some (.tup ys)->H' b=some (.tup ys)):KT H' kvs xs :=
 Nq r fun _ _ z=>⟨z.1,j _ _ z.2.1,z.2.2⟩
section
variable {P:Ep} {w:EM} {H:Hp} {h:Heap} {a:Addr}
theorem vX {u:HO} (ok:HOk P w H h) (e:Rd H a u):ObjOk P w H h a u:=e.ok ok
theorem ic {kvs:List (Key×V)} (ok:HOk P w H h) (e:Rd H a (.dK kvs)):kvs.length<=DY/\(a==FF)=false /\ ∃ vs,KV kvs vs/\h.DictOf (aD P w) a vs :=
 show ObjOk P w H h a (.dK kvs) from vX ok e
theorem AJ {kvs:List (Key×V)} (ok:HOk P w H h) (e:H a=some (.dK kvs)):kvs.length<=DY/\(a==FF)=false /\ ∃ vs,KV kvs vs/\h.DictOf (aD P w) a vs:=ic ok (.inl e)
theorem dm {ks:List Key} (ok:HOk P w H h) (e:H a=some (.tup (ks.map kV))):(Hz (aD P w)).is h ks a:=by
 obtain ⟨_,its,r,o,h1,h2,n,j⟩:=(show ObjOk P w H h a (.tup (ks.map kV)) from ok a _ e);exact ⟨o,its.toArray,n,h1,h2,j,by simpa using jG r⟩
theorem ie {kvs:List (List Key×V)} (ok:HOk P w H h) (e:Rd H a (.dT kvs)):kvs.length<=DY/\(a==FF)=false /\
 ∃ xs,KT H kvs xs/\h.DictOfH (Hz (aD P w)) a xs:=by
 obtain ⟨z,y,xs,r,o,es,ep,h1,h2,j,B,F⟩:=(show ObjOk P w H h a (.dT kvs) from vX ok e);refine ⟨z,y,xs,r,o,es,ep,h1,h2,j,B,fun x hx => ?_,F⟩;have all:∀ {l:List (List Key×V)} {m:List (List Key×Addr×h6)},KT H l m -> ∀ x∈m,(Hz (aD P w)).is h x.1 x.2.1:=by
  intro l m q
  induction q with
  | nil=>intro x hx;exact nomatch hx
  | @cons p q ps qs hq t ih =>
   intro x hx
   rcases Eb.mp hx with e | hx
   ·subst e;exact dm ok (by rw [<- hq.1];exact hq.2.1)
   ·exact ih x hx
 exact all r x hx
theorem kw {kvs:List (List Key×V)} (ok:HOk P w H h) (e:H a=some (.dT kvs)):kvs.length<=DY/\(a==FF)=false /\
 ∃ xs,KT H kvs xs/\h.DictOfH (Hz (aD P w)) a xs:=ie ok (.inl e)
end
def DGet (H:Hp) (a:Addr) (y:V) (r:Option V):Prop :=
 (∃ kvs k,Rd H a (.dK kvs)/\y=kV k/\r=bK kvs k) ∨ ∃ kvs k b,Rd H a (.dT kvs)/\y = .ref b/\H b=some (.tup (k.map kV))/\r=bK kvs k
def DPut (H:Hp) (a:Addr) (y v:V) (H':Hp):Prop :=
 (∃ kvs k,H a=some (.dK kvs)/\y=kV k/\kvs.length < DY/\H'=upd H a (.dK (bf kvs k v))) ∨
 ∃ kvs k b,H a=some (.dT kvs)/\y = .ref b/\H b=some (.tup (k.map kV))/\kvs.length < DY/\H'=upd H a (.dT (bf kvs k v))
theorem DGet.k {H:Hp} {a:Addr} {kvs:List (Key×V)} {k:Key} (e:H a=some (.dK kvs)):DGet H a (kV k) (bK kvs k) := .inl ⟨kvs,k, .inl e,rfl,rfl⟩
theorem DPut.k {H:Hp} {a:Addr} {kvs:List (Key×V)} {k:Key} {v:V} (e:H a=some (.dK kvs)) (j:kvs.length < DY):DPut H a (kV k) v (upd H a (.dK (bf kvs k v))) := .inl ⟨kvs,k,e,rfl,j,rfl⟩
theorem DPut.t {H:Hp} {a b:Addr} {kvs:List (List Key×V)} {k:List Key} {v:V} (e:H a=some (.dT kvs)) (eb:H b=some (.tup (k.map kV))) (j:kvs.length < DY) :
 DPut H a (.ref b) v (upd H a (.dT (bf kvs k v))) := .inr ⟨kvs,k,b,e,rfl,eb,j,rfl⟩
section
variable {X:Cx} {pins:List (Addr×Obj)} {σ:St} {H:Hp} {s:hH} {a:Addr} {y v:V} {u r:h6} {o:Option V} {A:F5} {E:h6->hH->Prop}
theorem Inv.big (I:Inv X pins σ H s):FF < s.heap.objs.size:=by
 have h:Fn < s.heap.objs.size:=(I.mod.glob.keeps I.bk).lt;exact Nat.lt_trans (by decide) h
theorem qR {Q:h6->hH->Prop} (q:A.units+1 < Gv) (I:Inv X pins σ H s) (g:DGet H a y (some v)) (ry:RelV y u) (h:∀ w' s',Inv X pins σ H s'->RelV v w'->Q w' s') :
 Ec (model X.prog X.w) A (JU (.ref a) u) Q E s:=by
 rcases g with ⟨kvs,k,e,ey,l⟩ | ⟨kvs,k,b,e,ey,eb,l⟩
 ·subst ey;obtain ⟨z,hd,vs,rel,dd⟩:=ic I.hok e;obtain ⟨w',hw,rw'⟩:=NB (v:=v) (o:=KN vs k) (by rw [l];exact rel.val k)
  exact wpAny_getItem_of (i9 ry) dd.mapOf hw (h w' _ (I.tok _) rw')
 ·subst ey
  cases (show u=Ff b from ry)
  obtain ⟨z,hd,xs,rel,dd⟩:=ie I.hok e;obtain ⟨w',hw,rw'⟩:=NB (v:=v) (o:=(Mr xs k).map (·.2)) (by rw [l];exact rel.val k)
  obtain ⟨p,B,j⟩:=Option.map_eq_some_iff.mp hw;refine wpAny_getItem_heap (Hb q) (dm I.hok eb) dd B ?_;rw [j];exact h w' _ (I.tok _) rw'
theorem wP {Q:h6->hH->Prop} (j:A.units+1 < Gv) (I:Inv X pins σ H s) (g:DGet H a y o) (ry:RelV y u) (h:∀ s',Inv X pins σ H s'->Q (.bool (!o.isSome)) s') :
 Ec (model X.prog X.w) A (FL .NotIn u (.ref a)) Q E s:=by
 rcases g with ⟨kvs,k,e,ey,l⟩ | ⟨kvs,k,b,e,ey,eb,l⟩
 ·subst ey;obtain ⟨z,hd,vs,rel,dd⟩:=ic I.hok e;refine wpAny_notIn_of (i9 ry) hd dd.mapOf ?_;rw [<- (rel.val k).isSome_eq, <- l];exact h _ (I.tok _)
 ·subst ey
  cases (show u=Ff b from ry)
  obtain ⟨z,hd,xs,rel,dd⟩:=ie I.hok e;refine wpAny_notIn_heap (Hb j) (dm I.hok eb) hd dd ?_;have q:=(rel.val k).isSome_eq;rw [Jt] at q;rw [<- q, <- l];exact h _ (I.tok _)
theorem fG {h':Heap} {t':Nat} {ob:HO} (I:Inv X pins σ H s) (mu:Mut (H a)) (hs:Fz a s.heap h') (he:∃ q,h'.get? a=some q) (new:ObjOk X.prog X.w (upd H a ob) h' a ob) :
 Inv X pins σ (upd H a ob) { s with heap:=h',toks:=t' } :=
 I.write (x:=a) (e:=a) mu (.inl rfl) (fun b q j z=>(hs.2 b j).trans z) he new
theorem zf {P:Ep} {w:EM} {H':Hp} {h':Heap} {kvs:List (Key×V)} {vs:List (Key×h6)} (z:kvs.length<=DY) (hd:(a==FF)=false) (rel:KV kvs vs) (dd:h'.DictOf (aD P w) a vs) :
 ObjOk P w H' h' a (.dK kvs):=⟨z,hd,vs,rel,dd⟩
theorem qS {H':Hp} {Q:Unit->hH->Prop} (G:A.units+1 < Gv) (I:Inv X pins σ H s) (g:DPut H a y v H') (ry:RelV y u) (rv:RelV v r) (h:∀ s',Inv X pins σ H' s'->Q () s') :
 Ec (model X.prog X.w) A (setItem (.ref a) u r) Q E s:=by
 rcases g with ⟨kvs,k,e,ey,l,eH⟩ | ⟨kvs,k,b,e,ey,eb,l,eH⟩
 ·subst ey eH;obtain ⟨z,hd,vs,rel,dd⟩:=AJ I.hok e;have B:vs.length<=DY:=by rw [<- rel.length];exact z
  have F:(bf kvs k v).length<=DY:=by have:=cD kvs k v;omega
  refine wpAny_setItem_pairs (hsz:=B) (i9 ry) dd fun h' dd' hs=>h _ ?_;have he:∃ q,h'.get? a=some q:=let ⟨q,_,_,j,_⟩:=dd'; ⟨q,j⟩;exact fG I (by rw [e];exact Gu) hs he (zf F hd (rel.put k rv) dd')
 ·subst ey eH
  cases (show u=Ff b from ry)
  obtain ⟨z,hd,xs,rel,dd⟩:=kw I.hok e;have B:xs.length<=DY:=by rw [<- FZ rel];exact z
  have F:(bf kvs k v).length<=DY:=by have:=cD kvs k v;omega
  refine wpAny_setItem_heap (hsz:=B) (Hb G) (dm I.hok eb) dd fun h' dd' hs=>h _ ?_;obtain ⟨q,es,ep,j,h2,J,L,_,O⟩:=dd';refine fG I (by rw [e];exact Gu) hs ⟨q,j⟩ ⟨F,hd,_,(rel.put k eb rv).keeps fun c ys ec => ?_,q,es,ep,j,h2,J,L,O⟩
  rw [aj (oR ec e (fun z=>nomatch z))];exact ec
end
theorem u5 {P:Ep} {w:EM} {H:Hp} (h:Heap) (j:FF < h.objs.size):ObjOk P w H (h.push { cls := .type "dict",data := .dict #[] }) h.objs.size (.dK []) :=
 ⟨G2 _,beq_eq_false_iff_ne.mpr (Ne.symm (EJ j)),[], .nil,Heap.DictOf.new h⟩
theorem gE {P:Ep} {w:EM} {H:Hp} (h:Heap) (j:FF < h.objs.size):ObjOk P w H (h.push { cls := .type "dict",data := .dict #[] }) h.objs.size (.dT []) :=
 ⟨G2 _,beq_eq_false_iff_ne.mpr (Ne.symm (EJ j)),[], .nil,_, #[],0,E1 _ rfl,⟨rfl,rfl,rfl⟩,rfl,rfl,List.nodup_nil⟩
noncomputable def zg:TE:=fun _ H Q => ∀ p,H p=none->Q (.ref p) (upd H p (.dK []))
noncomputable def zh:TE:=fun _ H Q => ∀ p,H p=none->Q (.ref p) (upd H p (.dT []))
section
variable {X:Cx} {pos:Pos}
theorem u6:PE X (.Dict [] [] pos) zg:=fun pins s σ H Q I h =>
 LV ⟨.ref s.heap.objs.size,_,I.laid (a:=s.heap.objs.size) (o := .dK []) (t':=s.toks) (fun _ _ q=>h7 _ q) (E3 _) (u5 s.heap I.big),rfl,h _ (I.hok.fresh (E3 _))⟩
theorem u7:PE X (.Dict [] [] pos) zh:=fun pins s σ H Q I h =>
 LV ⟨.ref s.heap.objs.size,_,I.laid (a:=s.heap.objs.size) (o := .dT []) (t':=s.toks) (fun _ _ q=>h7 _ q) (E3 _) (gE s.heap I.big),rfl,h _ (I.hok.fresh (E3 _))⟩
end
noncomputable def kH:List (TE×TE)->St->Hp->(List (V×V)->Hp->Prop)->Prop
 | [],_,H,Q=>Q [] H
 | (tk,tv)::r, σ,H,Q=>tk σ H fun x H1=>tv σ H1 fun y H2=>kH r σ H2 fun ps H3=>Q ((x,y)::ps) H3
noncomputable abbrev VV:List (V×V)->List (h6×h6)->Prop:=ES fun p q=>RelV p.1 q.1/\RelV p.2 q.2
def PPs (X:Cx) (pos:Pos) (keys:List (Option Expr)) (values:List Expr) (trs:List (TE×TE)):Prop :=
 ∀ (pins:List (Addr×Obj)) (s:hH) (σ:St) (H:Hp) (Q:List (V×V)->Hp->Prop),Inv X pins σ H s->kH trs σ H Q ->
  Ec (model X.prog X.w) X.A (evalPairs (pairTrees keys values X.env pos)) (fun vs s' => ∃ ps H',Inv X pins σ H' s'/\VV ps vs/\Q ps H') X.xe s
theorem wQ {X:Cx} {pos:Pos}:PPs X pos [] [] []:=fun pins s σ H Q I h=>pairTrees_nil_walk ⟨[],H,I, .nil,h⟩
theorem u8 {X:Cx} {pos:Pos} {k v:Expr} {ks:List (Option Expr)} {vs:List Expr} {tk tv:TE} {trs:List (TE×TE)} (j:PE X k tk) (q:PE X v tv) (z:PPs X pos ks vs trs) :
 PPs X pos (some k::ks) (v::vs) ((tk,tv)::trs):=fun pins s σ H Q I h =>
 pairTrees_cons_walk (thn (j pins s σ H _ I h) fun u s1 ⟨x,H1,B,rx,F⟩=>thn (q pins s1 σ H1 _ B F) fun Y s2 ⟨y,H2,G,ry,J⟩ =>
  thn (z pins s2 σ H2 _ G J) fun ws s3 ⟨ps,L,O,rel,U⟩=>⟨(x,y)::ps,L,O, .cons ⟨rx,ry⟩ rel,U⟩)
structure M2 (X:Cx) (o:Expr) (m:Str) (apos:Pos) (e f:Expr) (cpos:Pos):Prop where
 base:L4 o m X.env (eval o X.env)=eval o X.env
 few:((HS cpos (Et [e,f] X.env)).all (fun x => !x.1)&&(backToKw cpos (Mq [] X.env)).all (fun x=>x.1.isSome)
  && decide (([e,f]:List Expr).length+([]:List JY).length+(if ([]:List JY).isEmpty then 0 else 1) < 30))=true
 line:(apos.endLine==cpos.line)=true
 trees:HS cpos (Et [e,f] X.env)=[(false,eval e X.env),(false,eval f X.env)]
def IsD (H:Hp) (a:Addr):Prop:=(∃ kvs,Rd H a (.dK kvs)) ∨ ∃ kvs,Rd H a (.dT kvs)
theorem ig {X:Cx} {pins:List (Addr×Obj)} {σ:St} {H:Hp} {s:hH} {a:Addr} (I:Inv X pins σ H s) (d:IsD H a) :
 s.TypeIs (.ref a) "dict" /\ (∀ b,Ff a = .ref b -> ∃ ob,s.heap.get? b=some ob/\ob.dict=none)/\(a==FF)=false:=by
 rcases d with ⟨kvs,e⟩ | ⟨kvs,e⟩
 ·obtain ⟨_,hd,vs,_,dd⟩:=ic I.hok e;refine ⟨dd.typeIs,fun b q => ?_,hd⟩
  cases q
  obtain ⟨ob,_,_,h1,h2,_⟩:=dd;exact ⟨ob,h1,h2.2.1⟩
 ·obtain ⟨_,hd,xs,_,dd⟩:=ie I.hok e;refine ⟨dd.typeIs,fun b q => ?_,hd⟩
  cases q
  obtain ⟨ob,_,_,h1,h2,_⟩:=dd;exact ⟨ob,h1,h2.2.1⟩
section
variable {X:Cx} {pins:List (Addr×Obj)} {σ:St} {H:Hp} {s:hH} {a:Addr} {y d:V} {u r:h6} {o:Option V} {A:F5} {E:h6->hH->Prop}
theorem zi {Q:h6->hH->Prop} (j:A.units+1 < Gv) (I:Inv X pins σ H s) (g:DGet H a y o) (ry:RelV y u) (rd:RelV d r) (h:∀ w' s',Inv X pins σ H s'->RelV (o.getD d) w'->Q w' s') :
 Ec (model X.prog X.w) A (call (.builtin "dict.get") [.ref a,u,r]) Q E s:=by
 rcases g with ⟨kvs,k,e,ey,l⟩ | ⟨kvs,k,b,e,ey,eb,l⟩
 ·subst ey;obtain ⟨z,hd,vs,rel,dd⟩:=ic I.hok e;refine K0 Ip dd.typeIs K1 (JG _ _ _) (meets_dict_get_default (aD X.prog X.w) a (i9 ry) hd r) ⟨_,dd.mapOf,h _ _ (I.tok _) ?_⟩;rw [l];exact (rel.val k).getD rd
 ·subst ey
  cases (show u=Ff b from ry)
  obtain ⟨z,hd,xs,rel,dd⟩:=ie I.hok e;refine K0 Ip dd.typeIs K1 (JG _ _ _) (meetsH_dict_get_default (Hz (aD X.prog X.w)) a b hd r) ⟨Hb j,k,xs,dm I.hok eb,dd,h _ _ (I.tok _) ?_⟩;rw [l];exact (rel.val k).getD rd
end
noncomputable def zj (td ty tx:TE):TE:=fun σ H Q=>td σ H fun x H1 => ∃ a,x = .ref a/\IsD H1 a/\ty σ H1 fun y H2=>tx σ H2 fun z H3 => ∃ o,DGet H3 a y o/\Q (o.getD z) H3
section
variable {X:Cx} {o e f:Expr} {apos cpos:Pos} {td ty tx:TE}
theorem u9 (q:X.A.units+1 < Gv) (ho:PE X o td) (he:PE X e ty) (hf:PE X f tx) (m:M2 X o "get" apos e f cpos):PE X (.Call (.Attribute o "get" apos) [e,f] [] cpos) (zj td ty tx):=by
 intro pins s σ H Q I h;refine wpAny_Call_method m.base m.few m.line PySem.F.plainAttrs_dict Ip PySem.F.type_dict_get (thn (ho pins s σ H _ I h) fun u s1 ⟨x,H1,j,rx,a,ex,d,B⟩ => ?_);subst ex;obtain rfl:u=Ff a:=rx;obtain ⟨t1,G,_⟩:=ig j d;refine ⟨t1,G, ?_⟩;rw [m.trees];refine JZ rfl (Kk (Ja (thn (he pins s1 σ H1 _ j B) fun iv s2 ⟨y,H2,J,ry,L⟩ =>
  Ja (thn (hf pins s2 σ H2 _ J L) fun fv s3 ⟨z,O,U,rz,ov,g,Y⟩=>Lx ?_))))
 exact zi q U g ry rz fun w' s4 Z rw'=>⟨_,O,Z,rw',Y⟩
end
end
section
noncomputable def aY (elt:Expr) (gens:List F3) (scope:Scope) (pos:Pos) (d:Nat) (acc:h6) (env:Env) (k:Sem Fin):Sem Fin :=
 match gens[d+1]? with
 | some g'=>eval g'.iter env >>= fun x=>Jr g'.iter.pos >>= fun _=>G6 g'.iter env x >>= fun x=>holding [x] (Le x) >>= fun it' =>
    runOwn (.compStart (.ListComp elt gens scope pos) (d+1) it' acc env) env >>= fun _=>k
 | none=>(eval elt env >>= fun x=>call (.builtin "list.append") [acc,x] >>= fun _=>pure ()) >>= fun _=>k
noncomputable def bg (ifs:List Expr) (env:Env):Sem Bool :=
 forIn ifs true fun c r=>if r=true then do let ok <- isTrue c env (eval c env);pure (Hi ok) else pure (Hi r)
theorem kI (elt target iter:Expr) (ifs:List Expr) (gens:List F3) (scope:Scope) (pos:Pos) (d:Nat) (it acc:h6) (env:Env)
 (hd:gens[d]? = some ⟨target,iter,ifs,0⟩) (j:∀ g',gens[d+1]? = some g'->g'.is_async=0) :
 compTurn (.ListComp elt gens scope pos) d it acc env=(Jr iter.pos >>= fun _=>I8 it >>= fun r=>match r with
  | none=>pure (.done .next)
  | some v=>IP target it v >>= fun _=>assign target env v >>= fun _=>bg ifs env >>= fun ok =>
    (if ok=true then aY elt gens scope pos d acc env (again (.compLoop (.ListComp elt gens scope pos) d it acc env)) else again (.compLoop (.ListComp elt gens scope pos) d it acc env))):=by
 unfold compTurn;simp only [hd];unfold aY bg
 cases hn:gens[d+1]? with
 | none=>rfl
 | some g' =>
   obtain ⟨t',i',f',a'⟩:=g';have e:a'=0:=j _ hn;subst e;rfl
noncomputable abbrev TC:=St->Hp->(St->Hp->Prop)->Prop
def cj (J:It) (g:TG) (tb:TC) (N:St->Hp->Prop) (σ:St) (H:Hp):Prop :=
 ∃ W:Nat->Nat->St->Hp->Prop,(∃ m,W 0 m σ H) /\ ∀ i m σ H,W i m σ H ->
  (J.stop i H/\N σ H)∨(J.go i H /\ ∃ N':St->Hp->Prop,(∀ σ' H',N' σ' H' -> ∃ m',m' < m/\W (i+1) m' σ' H') /\ ∀ x H',J.yld i H x H'->g x σ H' fun σ2 H2=>tb σ2 H2 N')
def PB (X:Cx) (F:Sem Fin->Sem Fin) (t:TC):Prop :=
 ∀ (pins:List (Addr×Obj)) (s:hH) (σ:St) (H:Hp) (N:St->Hp->Prop) (k:Sem Fin) (Q:Fin->hH->Prop) (E:h6->hH->Prop),Inv X pins σ H s->t σ H N ->
  (∀ s' σ' H',Inv X pins σ' H' s'->N σ' H'->Ec (model X.prog X.w) X.A k Q E s')->Ec (model X.prog X.w) X.A (F k) Q E s
section
variable {X:Cx}
theorem nox {α:Type} {m:Sem α} {Q : α -> hH->Prop} {E:h6->hH->Prop} {s:hH} (hx:∀ e s,X.xe e s->False) (h:Ec (model X.prog X.w) X.A m Q X.xe s):Ec (model X.prog X.w) X.A m Q E s :=
 FU h (fun _ _ q=>q) fun e s' q=>(hx e s' q).elim
noncomputable def ii (ts:List TT) (tb:TC):TC:=match ts with
 | [] => tb
 | t::r=>fun σ H N=>t σ H fun b H1=>if b=true then ii r tb σ H1 N else N σ H1
theorem ik {env:Env} {M:IE} {A:F5} {Q:Bool->hH->Prop} {E:h6->hH->Prop} {s:hH} (h:Q false s):∀ ifs:List Expr,
 Ec M A (forIn ifs false fun c r=>if r=true then do let ok <- isTrue c env (eval c env);pure (Hi ok) else pure (Hi r)) Q E s
 | [] => q7 h
 | c::r=>by
   rw [GB];simp only [FX,if_false];exact gV (q7 (ik h r))
theorem kJ (hx:∀ e s,X.xe e s->False) {tb:TC} {N:St->Hp->Prop}:∀ {ifs:List Expr} {ts:List TT},ES (fun c t=>PT X c t) ifs ts ->
 ∀ (pins:List (Addr×Obj)) (s:hH) (σ:St) (H:Hp) (E:h6->hH->Prop),Inv X pins σ H s->ii ts tb σ H N ->
 Ec (model X.prog X.w) X.A (bg ifs X.env) (fun ok s' => ∃ H',Inv X pins σ H' s'/\if ok=true then tb σ H' N else N σ H') E s
 | _,_, .nil=>fun pins s σ H E I h=>q7 ⟨H,I,by rw [if_pos rfl];exact h⟩
 | c::ifs,_, .cons (b:=t) z hr=>by
   intro pins s σ H E I h;have ih:=kJ hx hr (tb:=tb) (N:=N) pins;unfold bg at ih ⊢;rw [GB];simp only [if_true];refine gV (gV (nox hx (thn (z pins s σ H _ I h) fun b s1 ⟨H1,q,j⟩=>q7 ?_)))
   cases b with
   | false =>
     rw [if_neg E2] at j;exact ik ⟨H1,q,by rw [if_neg E2];exact j⟩ ifs
   | true =>
     rw [if_pos rfl] at j;exact ih s1 σ H1 E q j
theorem ua (hx:∀ e s,X.xe e s->False) {F:Sem Fin->Sem Fin} {tb:TC} (z:PB X F tb) {ifs:List Expr} {ts:List TT} (B:ES (fun c t=>PT X c t) ifs ts) :
 PB X (fun k=>bg ifs X.env >>= fun ok=>if ok=true then F k else k) (ii ts tb):=by
 intro pins s σ H N k Q E I h hk;refine gV (thn (kJ hx B pins s σ H E I h) fun ok s1 ⟨H1,q,j⟩ => ?_)
 cases ok with
 | false =>
   rw [if_neg E2] at j ⊢;exact hk s1 σ H1 q j
 | true =>
   rw [if_pos rfl] at j ⊢;exact z pins s1 σ H1 N k Q E q j hk
noncomputable def vY (p:Addr) (te:TE):TC:=fun σ H N=>te σ H fun x H1 => ∃ xs,H1 p=some (.lst xs)/\xs.length < DY/\N σ (upd H1 p (.lst (xs++[x])))
theorem j9 (hx:∀ e s,X.xe e s->False) {elt:Expr} {gens:List F3} {scope:Scope} {pos:Pos} {d:Nat} {p:Addr} {te:TE} (he:PE X elt te) (hd:gens[d+1]? = none) :
 PB X (aY elt gens scope pos d (.ref p) X.env) (vY p te):=by
 intro pins s σ H N k Q E I h j;unfold aY;rw [hd];refine gV (gV (nox hx (thn (he pins s σ H _ I h) fun u s1 ⟨x,H1,q,z,xs,B,l1,F⟩ => ?_)));refine gV (nox hx (thn (jE (X:=X) pins s1 σ H1 (.ref p) [x] (.ref p) [u] (fun _ H2=>N σ H2) q rfl (.cons z .nil) ⟨p,xs,x,rfl,rfl,B,l1,F⟩) fun v s2 ⟨_,H2,G,_,J⟩ => ?_));exact q7 (j s2 σ H2 G J)
theorem jH (hx:∀ e s,X.xe e s->False) (Y:X.calm=true) {elt target iter:Expr} {ifs:List Expr} {gens:List F3} {scope:Scope} {pos:Pos} {d:Nat} {acc:h6}
 (hd:gens[d]? = some ⟨target,iter,ifs,0⟩) (ha:∀ g',gens[d+1]? = some g'->g'.is_async=0) {g:TG} (hg:PG X target g) {tb:TC}
 (j:PB X (fun k=>bg ifs X.env >>= fun ok=>if ok=true then aY elt gens scope pos d acc X.env k else k) tb)
 {pins:List (Addr×Obj)} {s:hH} {σ:St} {H:Hp} {N:St->Hp->Prop} {it:Addr} {fp:List Addr} {tn:Nat->Heap->Prop} {J:It} (I:Inv X pins σ H s) (T:eT X.prog X.w X.K target J fp it tn)
 (t0:tn 0 s.heap) (f2:∀ b∈fp,bT X pins H b) (h:cj J g tb N σ H) :
 IB (model X.prog X.w) X.A (.compLoop (.ListComp elt gens scope pos) d (.ref it) acc X.env) (fun r s'=>match r with | .ok _ => ∃ σ' H',Inv X pins σ' H' s'/\N σ' H' | .error _=>False) s:=by
 obtain ⟨W,⟨m0,w0⟩,turn⟩:=h;have stat:∀ {H':Hp},(∀ b∈fp,H' b=none) -> ∀ b∈fp,bT X pins H' b:=fun hn b j=>⟨hn b j,(f2 b j).2⟩;refine codeAny_loop rfl (fun n s' => ∃ i σ' H',Inv X pins σ' H' s'/\tn i s'.heap/\(∀ b∈fp,H' b=none)/\W i n σ' H') ?_ m0 ⟨0, σ,H,I,t0,fun b j=>(f2 b j).1,w0⟩;rintro n s3 ⟨i, σ3,F,Z,z,B,w3⟩;show Ec _ _ ((compTurn (.ListComp elt gens scope pos) d (.ref it) acc X.env).onRaise (fun x=>do noteFrame x X.env;theTreesLotGoes x)) _ _ s3
 refine wpAny_noted ?_;rw [kI elt target iter ifs gens scope pos d (.ref it) acc X.env hd ha];refine gV (Hn (gV ?_));show Ec (model X.prog X.w) X.A _ _ _ s3
 rcases turn i n σ3 F w3 with ⟨stop,qn⟩ | ⟨go,N',hN,step⟩
 ·refine thn (T.done X rfl rfl rfl Y i pins s3 σ3 F _ Z (stat B) z stop) fun r s4 ⟨G,I4⟩ => ?_;subst G;exact q7 ⟨σ3,F,I4,qn⟩
 ·refine thn (T.item X rfl rfl rfl Y i pins s3 σ3 F _ Z (stat B) z go) fun r s4 ⟨u,G,h4⟩ => ?_;subst G;refine gV (thn h4 fun _ s5 ⟨x,H5,I5,r5,y5,q,L⟩ => ?_);have O:=I5.pinned (stat L) (T.obj _ _ q);refine gV (nox hx (thn (hg _ s5 σ3 H5 x u _ O r5 (step x H5 y5)) fun _ s6 ⟨σ6,H6,I6,q6⟩ => ?_));refine j _ s6 σ6 H6 N' (again (.compLoop (.ListComp elt gens scope pos) d (.ref it) acc X.env)) _ _ I6 q6 fun s7 σ7 H7 U n7 => ?_;obtain ⟨m',hm,w7⟩:=hN σ7 H7 n7;refine q7 ⟨rfl,m',hm,i+1, σ7,H7,U.unpinned,T.keep _ _ _ q fun b j o e=>(U.pin (b,o) (Ek _ (Ek _ (cM j e)))).1,fun b j => ?_,w7⟩;obtain ⟨o,e,dd⟩:=T.obj _ _ q b j;exact (U.pin (b,o) (Ek _ (Ek _ (cM j e)))).2.1
theorem im {elt target iter:Expr} {ifs:List Expr} {gens:List F3} {scope:Scope} {pos:Pos} {d:Nat} {it acc:h6} {env:Env} {prog:Ep} {w:EM} {A:F5} {R:Result->hH->Prop} {s:hH}
 (hd:gens[d]? = some ⟨target,iter,ifs,0⟩)
 (h0:IB (model prog w) A (.compLoop (.ListComp elt gens scope pos) d it acc env) R s)
 (h:Ec (model prog w) A (Le it) (fun it' s'=>IB (model prog w) A (.compLoop (.ListComp elt gens scope pos) d it' acc env) R s')
   (notedBy (model prog w) A env fun x s'=>R (.error x) s') s) :
 IB (model prog w) A (.compStart (.ListComp elt gens scope pos) d it acc env) R s:=by
 refine codeAny_of_tree ?_;show Ec _ _ ((compStart (.ListComp elt gens scope pos) d it acc env).onRaise (fun x=>do noteFrame x env;Jr theWindowsPlace)) _ _ s
 refine wpAny_notedAt ?_;unfold compStart;have j:(clausesOf (.ListComp elt gens scope pos))[d]? = some ⟨target,iter,ifs,0⟩:=hd;rw [j];show Ec _ _ (ask >>= _) _ _ s;refine gV (wpAny_askSetting (wpAny_ite ?_))
 split
 ·first
   | exact gV (q7 (q7 (Iu rfl h0)))
   | exact q7 (Iu rfl h0)
 ·first
   | exact gV (FW (gV (Hn (gV (FU h (fun it' s' h'=>q7 (Iu rfl h')) fun _ _ x=>x)))))
   | (refine gV (FW ?_);show Ec _ _ (Jr iter.pos >>= _) _ _ s;exact gV (Hn (gV (FU h (fun it' s' h'=>q7 (Iu rfl h')) fun _ _ x=>x))))
theorem jI (hx:∀ e s,X.xe e s->False) (z:X.calm=true) {elt target iter:Expr} {ifs:List Expr} {gens:List F3} {scope:Scope} {pos:Pos} {d:Nat} {acc:h6}
 (hd:gens[d+1]? = some ⟨target,iter,ifs,0⟩) (B:∀ g',gens[d+1+1]? = some g'->g'.is_async=0) {wi:TI} (hi:PI X target iter wi) {g:TG} (F:PG X target g) {tb:TC}
 (G:PB X (fun k=>bg ifs X.env >>= fun ok=>if ok=true then aY elt gens scope pos (d+1) acc X.env k else k) tb)
 (hs:∀ x,G6 iter X.env x=pure x) :
 PB X (aY elt gens scope pos d acc X.env) (fun σ H N=>wi σ H fun J H1=>cj J g tb N σ H1):=by
 intro pins s σ H N k Q E I h hk;unfold aY;rw [hd];refine gV (nox hx (thn (hi pins s σ H _ I h) fun v s1 h1 => ?_));refine gV (Hn (gV (GZ (hs v) ?_)));refine gV (Fh (nox hx (thn h1 fun itv s2 h2 => ?_)));obtain ⟨it,fp,tn,J,H2,e,L,T,j,f2,hw⟩:=h2;subst e;have loop:=jH (acc:=acc) hx z hd B F G L T j f2 hw;refine gV (wpAny_runOwn (I9 (im (R:=fun r s'=>match r with | .ok _ => ∃ σ' H',Inv X pins σ' H' s'/\N σ' H' | .error _=>False) hd loop (T.self _ 0 _ _ _ j loop)) fun r s3 q => ?_))
 cases r with
 | error e=>exact q.elim
 | ok f =>
   obtain ⟨σ3,O,U,Y⟩:=q;exact hk s3 σ3 O U Y
noncomputable def aS (cells:List (Str×Addr)):List (Str×GR)->List (Str×Addr)->List (Str×Addr)
 | [],acc=>acc
 | (n,k)::r,acc=>if k == .free then (match cells.lookup n with | some c=>aS cells r ((n,c)::acc) | none=>aS cells r acc) else aS cells r acc
theorem gm {env:Env}:∀ (names:List (Str×GR)) (acc:List (Str×Addr)),(∀ x∈names,x.2 = .free->(env.cells.lookup x.1).isSome=true) ->
 (forIn names acc fun (x:Str×GR) (r:List (Str×Addr))=>(match x with | (name,kind)=>if (kind==EE)=true then do let c <- cellOf env name;pure (Hi ((name,c)::r)) else pure (Hi r):Sem (ForInStep (List (Str×Addr)))))=(pure (aS env.cells names acc):Sem (List (Str×Addr)))
 | [],acc,_=>rfl
 | (n,k)::r,acc,h=>by
  rw [GB];have ih:=fun acc'=>gm r acc' fun x hx=>h x (E7 _ hx);unfold aS
  by_cases hk:(k==EE)=true
  ·obtain ⟨c,q⟩:=GK.mp (h (n,k) Ef (beq_iff_eq.mp hk));have j:env.cells.lookup n=some c:=q;have z:cellOf env n=pure c:=by unfold cellOf;rw [j]
   simp only [hk,if_true,z,j,pure_bind];exact ih _
  ·simp only [hk,if_false,pure_bind];exact ih _
theorem io {scope:Scope} {env:Env} (h:∀ x∈scope.names,x.2 = .free->(env.cells.lookup x.1).isSome=true):closureFor scope env=pure (aS env.cells scope.names []):=by
 unfold closureFor;have e:=gm (env:=env) scope.names [] h;simp only [bind_pure];exact e
theorem cN {cells:List (Str×Addr)} {y:Str} {c:Addr}:∀ {names:List (Str×GR)} {acc:List (Str×Addr)},(y,c)∈aS cells names acc->(y,c)∈acc∨(cells.lookup y=some c/\(y,EE)∈names)
 | [],acc,h => .inl h
 | (n,k)::r,acc,h=>by
  unfold aS at h
  by_cases hk:(k==EE)=true
  ·rw [if_pos hk] at h;have B:k = .free:=beq_iff_eq.mp hk;subst B
   cases F:cells.lookup n with
   | none =>
     rw [F] at h
     rcases cN h with z | ⟨j,q⟩
     ·exact .inl z
     ·exact .inr ⟨j,E7 _ q⟩
   | some c' =>
     rw [F] at h
     rcases cN h with z | ⟨j,q⟩
     ·rcases Eb.mp z with e | z
      ·cases e
       exact .inr ⟨F,Ef⟩
      ·exact .inl z
     ·exact .inr ⟨j,E7 _ q⟩
  ·rw [if_neg hk] at h
   rcases cN h with z | ⟨j,q⟩
   ·exact .inl z
   ·exact .inr ⟨j,E7 _ q⟩
theorem cO {cells:List (Str×Addr)} {y:Str} {c:Addr} (j:cells.lookup y=some c):∀ {names:List (Str×GR)} {acc:List (Str×Addr)},((y,c)∈acc∨(y,EE)∈names)->(y,c)∈aS cells names acc
 | [],acc,h=>by
  rcases h with h | h
  ·exact h
  ·simp at h
 | (n,k)::r,acc,h=>by
  unfold aS
  by_cases hk:(k==EE)=true
  ·rw [if_pos hk];have q:k = .free:=beq_iff_eq.mp hk;subst q
   cases hl:cells.lookup n with
   | none =>
     refine cO j ?_
     rcases h with h | h
     ·exact .inl h
     ·rcases Eb.mp h with e | h
      ·cases e;rw [hl] at j;cases j
      ·exact .inr h
   | some c' =>
     refine cO j ?_
     rcases h with h | h
     ·exact .inl (E7 _ h)
     ·rcases Eb.mp h with e | h
      ·cases e;rw [hl] at j;cases j;exact .inl Ef
      ·exact .inr h
  ·rw [if_neg hk];refine cO j ?_
   rcases h with h | h
   ·exact .inl h
   ·rcases Eb.mp h with e | h
    ·cases e;exact absurd rfl hk
    ·exact .inr h
theorem cJ:∀ (names:List (Str×GR)) (n:Nat) (acc acc':List (Str×Addr)),G7 n names (acc++acc')=G7 n names acc++acc'
 | [],_,_,_=>rfl
 | (x,k)::r,n,acc,acc'=>by
  unfold G7
  by_cases j:(k==G0)=true
  ·rw [if_pos j,if_pos j];exact cJ r (n+1) ((x,n)::acc) acc'
  ·rw [if_neg j,if_neg j];exact cJ r n acc acc'
theorem cK:∀ {names:List (Str×GR)} {n:Nat} {acc:List (Str×Addr)} {y:Str} {c:Addr},(y,c)∈G7 n names acc->(y,c)∈acc∨(n<=c/\(y,G0)∈names)
 | [],_,_,_,_,h => .inl h
 | (x,k)::r,n,acc,y,c,h=>by
  unfold G7 at h
  by_cases hk:(k==G0)=true
  ·rw [if_pos hk] at h;have j:k = .cell:=beq_iff_eq.mp hk;subst j
   rcases cK h with z | ⟨q,B⟩
   ·rcases Eb.mp z with e | z
    ·cases e;exact .inr ⟨E3 _,Ef⟩
    ·exact .inl z
   ·exact .inr ⟨Nat.le_of_succ_le q,E7 _ B⟩
  ·rw [if_neg hk] at h
   rcases cK h with z | ⟨q,B⟩
   ·exact .inl z
   ·exact .inr ⟨q,E7 _ B⟩
structure aZ (sc osc:Scope) (oN N':List Str) (fr:List (Option Nat)):Prop where
 kind:sc.kind = .function
 nd:(sc.names.map (·.1)).Nodup
 ndN:N'.Nodup
 free:∀ x∈sc.names,x.2 = .free->osc.names.lookup x.1=some .cell∨osc.names.lookup x.1=some .free
 len:fr.length=N'.length
 fr:∀ (i j:Nat) (x:Str),N'[i]? = some x->fr[i]? = some (some j)->oN[j]? = some x/\(x,EE)∈sc.names
noncomputable def inh (fr:List (Option Nat)) (σ:St):St:=fr.map fun o=>o.bind fun j=>(σ[j]?).join
noncomputable def b8 (X:Cx) (sc:Scope) (L:Addr):Env :=
 { scope:=relabel sc X.env,locals:=L,globals:=X.env.globals,cells:=G7 (L+1) sc.names (aS X.env.cells sc.names []),qual:=X.env.qual,func:=none,code:=X.env.code,frame:=X.env.frame,builtins:=X.env.builtins }
noncomputable def aH (X:Cx) (sc:Scope) (N':List Str) (s:hH) (H:Hp) (fp:List Addr):Cx :=
 { X with N:=N',s₀ := s,H₀ := H,env:=b8 X sc s.heap.objs.size,outer:=X.stack,stack:=X.stack,ex:=fp,fn:=fun x=>sc.names.lookup x==some .cell,pn := [],xe:=fun _ _=>False }
theorem aQ:∀ {l:List (Str×GR)} {x:Str} {k:GR},(l.map (·.1)).Nodup->(x,k)∈l->l.lookup x=some k
 | (y,k')::r,x,k,nd,h=>by
  have nd':(y::r.map (·.1)).Nodup:=nd;obtain ⟨q,z⟩:=FP.mp nd';rw [Gr]
  rcases Eb.mp h with e | hm
  ·cases e;simp
  ·have j:(x==y)=false:=by
    refine beq_eq_false_iff_ne.mpr fun e => ?_;subst e;exact q (ED.mpr ⟨(x,k),hm,rfl⟩)
   rw [j];exact aQ z hm
theorem ck {env:Env}:∀ {names:List (Str×GR)} {x:Str},
 (names.map fun (n,k)=>if (k==EE&&env.scope.kind == .function&&env.kindOf n==some .cell) then (n,G0) else (n,k)).lookup x =
   (names.lookup x).map fun k=>if (k==EE&&env.scope.kind == .function&&env.kindOf x==some .cell) then G0 else k
 | [],_=>rfl
 | (n,k)::r,x=>by
  have ih:=ck (env:=env) (names:=r) (x:=x);show List.lookup x ((if (k==EE&&env.scope.kind == .function&&env.kindOf n==some .cell)=true then (n,G0) else (n,k))::_)=_
  rw [Gr (a:=x) (b:=k)]
  by_cases hx:x=n
  ·subst hx;simp only [beq_self_eq_true];show _=some (if (k==EE&&env.scope.kind == .function&&env.kindOf x==some .cell)=true then G0 else k)
   by_cases j:(k==EE&&env.scope.kind == .function&&env.kindOf x==some .cell)=true
   ·rw [if_pos j,if_pos j,Gr];simp only [beq_self_eq_true]
   ·rw [if_neg j,if_neg j,Gr];simp only [beq_self_eq_true]
  ·have q:(x==n)=false:=beq_eq_false_iff_ne.mpr hx;rw [q]
   by_cases j:(k==EE&&env.scope.kind == .function&&env.kindOf n==some .cell)=true
   ·rw [if_pos j,Gr,q];exact ih
   ·rw [if_neg j,Gr,q];exact ih
section
variable {pins:List (Addr×Obj)} {σ:St} {H:Hp} {s:hH} {sc:Scope} {N':List Str} {fr:List (Option Nat)} {fp:List Addr}
theorem eW (I:Inv X pins σ H s) (B:aZ sc X.env.scope X.N N' fr):∀ x∈sc.names,x.2 = .free->(X.env.cells.lookup x.1).isSome=true:=fun x hx e=>by
 obtain ⟨c,j⟩:=I.ok.has x.1 (B.free x hx e);rw [j];rfl
theorem qT (I:Inv X pins σ H s) (f2:∀ b∈fp,bT X pins H b) (Z:∀ b∈fp,b < s.heap.objs.size) (B:aZ sc X.env.scope X.N N' fr) :
 Inv (aH X sc N' s H fp) [] (inh fr σ) H { s with heap:=LW (s.heap.push { cls := .type "dict",data := .dict #[] }) sc.names }:=by
 have G:∀ b o,s.heap.get? b=some o->(LW (s.heap.push { cls := .type "dict",data := .dict #[] }) sc.names).get? b=some o:=fun b o e=>K9 _ _ b o (h7 _ e);have ok:=cellsFrom_ok sc.names (s.heap.push { cls := .type "dict",data := .dict #[] }) (s.heap.objs.size+1) [] ⟨fun _ _ hm=>(nomatch hm),Js⟩ (by rw [FH];exact E3 _)
 rw [FH] at ok;have capp:G7 (s.heap.objs.size+1) sc.names (aS X.env.cells sc.names [])=G7 (s.heap.objs.size+1) sc.names []++aS X.env.cells sc.names []:=cJ sc.names _ [] _;have cof:∀ x c,(b8 X sc s.heap.objs.size).cells.lookup x=some c->((x,c)∈G7 (s.heap.objs.size+1) sc.names []/\s.heap.objs.size < c)∨(X.env.cells.lookup x=some c/\(x,EE)∈sc.names):=fun x c e=>by
  have m:=Fu e;have m':(x,c)∈G7 (s.heap.objs.size+1) sc.names (aS X.env.cells sc.names []):=m;rw [capp] at m'
  rcases Ea.mp m' with z | z
  ·exact .inl ⟨z,(ok.empty x c z).2⟩
  ·rcases cN z with q | q
   ·simp at q
   ·exact .inr q
 have cOld:∀ x c,X.env.cells.lookup x=some c->c < s.heap.objs.size:=fun x c e=>by
  obtain ⟨v,q⟩:=I.cell x c e;exact q.lt
 have kindF:∀ x,(x,EE)∈sc.names->(b8 X sc s.heap.objs.size).kindOf x=some .cell∨(b8 X sc s.heap.objs.size).kindOf x=some .free:=fun x hx=>by
  have e1:sc.names.lookup x=some .free:=aQ B.nd hx;have O:(b8 X sc s.heap.objs.size).kindOf x=_:=ck (env:=X.env) (names:=sc.names) (x:=x);rw [e1] at O;rw [O]
  by_cases J:(EE==EE&&X.env.scope.kind == .function&&X.env.kindOf x==some .cell)=true
  ·exact .inl (by simp only [Hj,if_pos J])
  ·exact .inr (by simp only [Hj,if_neg J])
 have cellF:∀ x c,(x,EE)∈sc.names->X.env.cells.lookup x=some c->(b8 X sc s.heap.objs.size).cells.lookup x=some c:=fun x c hx J=>by
  have m:=cO (acc := []) J (.inr hx);have m2:(x,c)∈(b8 X sc s.heap.objs.size).cells:=by
   show (x,c)∈G7 (s.heap.objs.size+1) sc.names (aS X.env.cells sc.names []);rw [capp];exact Ek _ m
  cases F:(b8 X sc s.heap.objs.size).cells.lookup x with
  | none =>
    exfalso
    have:∀ {l:List (Str×Addr)},(x,c)∈l->l.lookup x=none->False:=by
     intro l
     induction l with
     | nil=>intro h;simp at h
     | cons a r ih =>
       intro h e;obtain ⟨y,d⟩:=a;rw [Gr] at e
       rcases Eb.mp h with z | z
       ·cases z;simp at e
       ·by_cases hxy:(x==y)=true
        ·rw [hxy] at e;cases e
        ·simp only [Iv] at hxy;rw [hxy] at e;exact ih z e
    exact this m2 F
  | some c' =>
    rcases cof x c' F with ⟨z,_⟩ | ⟨z,_⟩
    ·rcases cK z with q | ⟨_,q⟩
     ·simp at q
     ·have a1:=aQ B.nd hx;have a2:=aQ B.nd q;rw [a1] at a2;cases a2
    ·rw [J] at z;rw [z]
 have kindC:∀ x,(b8 X sc s.heap.objs.size).kindOf x=some .cell->(x,G0)∈sc.names∨(x,EE)∈sc.names:=fun x e=>by
  have O:(b8 X sc s.heap.objs.size).kindOf x=_:=ck (env:=X.env) (names:=sc.names) (x:=x);rw [O] at e
  cases F:sc.names.lookup x with
  | none=>rw [F] at e;cases e
  | some k =>
    rw [F] at e;have m:=Fu F
    cases k with
    | cell=>exact .inl m
    | free=>exact .inr m
    | «local» => simp at e
    | globalImplicit=>simp at e
    | globalExplicit=>simp at e
 have kindFr:∀ x,(b8 X sc s.heap.objs.size).kindOf x=some .free->(x,EE)∈sc.names:=fun x e=>by
  have O:(b8 X sc s.heap.objs.size).kindOf x=_:=ck (env:=X.env) (names:=sc.names) (x:=x);rw [O] at e
  cases F:sc.names.lookup x with
  | none=>rw [F] at e;cases e
  | some k =>
    rw [F] at e;have m:=Fu F
    cases k with
    | free=>exact m
    | cell=>simp at e
    | «local» => simp at e
    | globalImplicit=>simp at e
    | globalExplicit=>simp at e
 refine ⟨⟨I.ok.mod,B.kind,I.ok.glob,I.ok.blt,E3 _,fun y z c h1 h2 => ?_,fun y hy => ?_,fun y c hf h => ?_,I.ok.hd,I.ok.frames, .inl rfl,fun b U=>⟨?_,fun x c e => ?_⟩,fun b o e=>I.bs b o e, ?_,fun b o e U => ?_,fun b U => ?_,I.stack,I.stkFree⟩,
  rfl,I.bare,Un.kept G,⟨_,(Heap.Ns.new s.heap (.type "dict")).keeps (K9 _ _),fun i x v h1 h2 h3 => ?_⟩,fun y c h => ?_,I.hok.fresh (E3 _),fun y c h => ?_,fun p hp=>absurd (show p∈([]:List (Addr×Obj)) from hp) (by simp),I.hok.kept G, ?_⟩
 ·rcases cof y c h1 with ⟨a1,a2⟩ | ⟨a1,a2⟩
  ·rcases cof z c h2 with ⟨b1,b2⟩ | ⟨b1,b2⟩
   ·exact name_of_addr ok.apart a1 b1
   ·exact absurd (cOld z c b1) (N3.mpr (HA a2))
  ·rcases cof z c h2 with ⟨b1,b2⟩ | ⟨b1,b2⟩
   ·exact absurd (cOld y c a1) (N3.mpr (HA b2))
   ·exact I.ok.inj y z c a1 b1
 ·have BL:(y,G0)∈sc.names∨(y,EE)∈sc.names:=by
   rcases hy with hy | hy
   ·exact kindC y hy
   ·exact .inr (kindFr y hy)
  rcases BL with q | q
  ·exact GK.mp (Ia sc.names _ _ (.inl (aQ B.nd q)))
  ·obtain ⟨c,J⟩:=GK.mp (eW I B _ q rfl);exact ⟨c,cellF y c q J⟩
 ·have BM:(sc.names.lookup y==some .cell)=true:=hf;have BJ:sc.names.lookup y=some .cell:=by simpa using BM
  rcases cof y c h with ⟨_,a2⟩ | ⟨_,a2⟩
  ·exact HA a2
  ·rw [aQ B.nd a2] at BJ;cases BJ
 ·exact EJ (Z b U)
 ·rcases cof x c e with ⟨_,a2⟩ | ⟨a1,_⟩
  ·exact Gn (Nat.lt_trans (Z b U) a2)
  ·exact (f2 b U).2.2.2.2.1 x c a1
 ·exact ET I.ok.bsz I.sz
 ·obtain ⟨f0,f1,f3,f4,f5,f6⟩:=f2 b U
  rcases f4 with z | z
  ·exact I.ok.noex b o e z
  ·exact absurd (EA (EA (E6 e) I.ok.bsz) z) (Fx _)
 ·obtain ⟨f0,f1,f3,f4,f5,f6⟩:=f2 b U;exact fun z=>(Eb.mp (I.stkSub b z)).elim f1 f3
 ·have hi:∃ j,fr[i]? = some (some j) /\ σ[j]? = some (some v):=by
   unfold inh at h2;rw [Eo] at h2
   cases e:fr[i]? with
   | none=>rw [e] at h2;cases h2
   | some o =>
     rw [e] at h2
     cases o with
     | none=>cases h2
     | some j =>
       refine ⟨j,rfl, ?_⟩;have L:some ((σ[j]?).join)=some (some v):=h2
       cases e' : σ[j]? with
       | none=>rw [e'] at L;cases L
       | some w=>rw [e'] at L;cases L;rfl
  obtain ⟨j,e1,O⟩:=hi;obtain ⟨n1,n2⟩:=B.fr i j x h1 e1;obtain ⟨m,hn,F⟩:=I.loc;have hv:Vis X.env.scope x := .inr (B.free (x, .free) n2 rfl);obtain ⟨u,ru,lk⟩:=F j x v n1 O hv;refine ⟨u,ru, .inr ⟨kindF x n2, ?_⟩⟩
  rcases lk with ⟨k1,_⟩ | ⟨_,c,J,Y⟩
  ·have BK:X.env.scope.names.lookup x=some .local:=k1
   rcases B.free (x, .free) n2 rfl with z | z
   ·rw [BK] at z;cases z
   ·rw [BK] at z;cases z
  ·exact ⟨c,cellF x c n2 J,Y.keeps G⟩
 ·rcases cof y c h with ⟨a1,a2⟩ | ⟨a1,a2⟩
  ·exact ⟨_,(ok.empty y c a1).1⟩
  ·obtain ⟨v,q⟩:=I.cell y c a1;exact ⟨v,q.keeps G⟩
 ·rcases cof y c h with ⟨a1,a2⟩ | ⟨a1,a2⟩
  ·exact I.hok.fresh (HA a2)
  ·exact I.freeC y c a1
 ·show (inh fr σ).length=N'.length;unfold inh;rw [r4];exact B.len
theorem jJ {σ':St} {H':Hp} {s':hH} {h':Heap} (I:Inv X pins σ H s) (f2:∀ b∈fp,bT X pins H b) (J:Inv (aH X sc N' s H fp) [] σ' H' s') (hs:Fz s.heap.objs.size s'.heap h') :
 Inv X pins σ H' { s' with heap:=h' }:=by
 have u:Un (frs X.stack) fp H H' s.heap s'.heap:=J.base;have ne:∀ b o,s.heap.get? b=some o->b≠s.heap.objs.size:=fun b o e=>EJ (E6 e);refine I.call' (s' := { s' with heap:=h' }) (ch:=fp) J.os ⟨fun b o e n j hx => ?_,fun b o e n j hx => ?_,u.free,fun b o e hx => ?_,u.tups,u.frzs,u.tbls⟩ (fun b v e => ?_) J.bare fun b j => ?_
 ·exact (hs.2 b (ne b o e)).trans (u.keep b o e n j hx)
 ·obtain ⟨sl,q⟩:=u.slot b o e n j hx;exact ⟨sl,(hs.2 b (ne b o e)).trans q⟩
 ·obtain ⟨o',q⟩:=u.there b o e hx;exact ⟨o',(hs.2 b (ne b o e)).trans q⟩
 ·refine (J.hok b v e).stay (fun c w F q=>(hs.2 c ?_).trans q) (fun _ q=>q) fun _ _ q=>q;have fr:H' s.heap.objs.size=none:=J.free
  rcases F with z | z
  ·rw [z];intro B;rw [B,fr] at e;cases e
  ·intro B;rw [B,fr] at z;cases z
 ·obtain ⟨f0,f1,O,f4,G,L⟩:=f2 b j;exact ⟨f4,f1,G,L⟩
theorem kr {Q:Env->hH->Prop} {E:h6->hH->Prop} {M:IE} {A:F5}
 (h:Q { scope:=sc,locals:=s.heap.objs.size,globals:=X.env.globals,cells:=G7 (s.heap.objs.size+1) sc.names (aS X.env.cells sc.names []),qual:=X.env.qual,func:=none,code:=X.env.code,frame:=X.env.frame,builtins:=X.env.builtins }
   { s with heap:=LW (s.heap.push { cls := .type "dict",data := .dict #[] }) sc.names }) :
 Ec M A (Kl sc X.env.globals (aS X.env.cells sc.names []) [] X.env.qual none .none (some X.env)) Q E s:=by
 simp only [Kl,Lh,if_true];refine gV (wpAny_alloc ?_);refine gV (wpAny_layCells _ (fun name kind cells=>by cases hkc:kind==G0 <;> simp [hkc]) _ _ _ _ ?_)
 rw [show ({ s with heap:=s.heap.push { cls := .type "dict",data := .dict #[] } }:hH).heap.objs.size=s.heap.objs.size+1 from FH ..]
 exact gV (q7 (q7 h))
theorem kK (hc:X.calm=true) {elt target iter:Expr} {ifs:List Expr} {rest:List F3} {pos:Pos} {E:h6->hH->Prop}
 (hx:∀ e s,X.xe e s->False) (B:aZ sc X.env.scope X.N N' fr) (ha:∀ g',rest[0]? = some g'->g'.is_async=0) {wi:TI} (hi:PI X target iter wi) {g:TG} {tb:Addr->TC}
 (hg:∀ s H fp,PG (aH X sc N' s H fp) target g)
 (j:∀ s H fp p,PB (aH X sc N' s H fp) (fun k=>bg ifs (aH X sc N' s H fp).env >>= fun ok=>if ok=true then aY elt (⟨target,iter,ifs,0⟩::rest) sc pos 0 (.ref p) (aH X sc N' s H fp).env k else k) (tb p))
 {Nn:Addr->St->Hp->Prop} {RR:h6->Addr->Result->hH->Prop} (I:Inv X pins σ H s)
 (h:wi σ H fun J H1 => ∀ p,H1 p=none->cj J g (tb p) (Nn p) (inh fr σ) (upd H1 p (.lst [])))
 (hR:∀ p fp s3 L s' σ' H' f,Inv X pins σ L s3->(∀ b∈fp,bT X pins L b)->Inv (aH X sc N' s3 L fp) [] σ' H' s'->Nn p σ' H'->RR (.ref p) s3.heap.objs.size (.ok f) s') :
 Ec (model X.prog X.w) X.A (eval iter X.env) (fun x s₁ => Ec (model X.prog X.w) X.A (Le x) (fun it s₂ => Ec (model X.prog X.w) X.A (newList []) (fun acc s₃ =>
  Ec (model X.prog X.w) X.A (Kl sc X.env.globals (aS X.env.cells sc.names []) [] X.env.qual none .none (some X.env)) (fun cenv s₄ =>
   IB (model X.prog X.w) X.A (.compStart (.ListComp elt (⟨target,iter,ifs,0⟩::rest) sc pos) 0 it acc { cenv with scope:=relabel sc X.env }) (RR acc cenv.locals) s₄) E s₃) E s₂) E s₁) E s:=by
 refine nox hx (thn (hi pins s σ H _ I h) fun v s1 h1=>nox hx (thn h1 fun itv s2 h2 => ?_));obtain ⟨it,fp,tn,J,H2,e,Z,T,q,f2,hw⟩:=h2;subst e;have hf:H2 s2.heap.objs.size=none:=Z.hok.fresh (E3 _);refine JA ?_;have I3:Inv X pins σ (upd H2 s2.heap.objs.size (.lst [])) { s2 with heap:=s2.heap.push { cls := .type "list",dict:=none,data := .seq ([]:List h6).toArray } } :=
  Z.laid (t':=s2.toks) (fun b u e=>h7 _ e) (E3 _) ⟨G2 _,[],0, .nil,E1 _ rfl⟩
 have fneq:∀ b∈fp,b≠s2.heap.objs.size:=fun b j z=>by
  obtain ⟨o,e,_⟩:=T.obj _ _ q b j;exact absurd (E6 e) (by rw [z];exact Fx _)
 have O:∀ b∈fp,bT X pins (upd H2 s2.heap.objs.size (.lst [])) b:=fun b j=>⟨by rw [aj (fneq b j)];exact (f2 b j).1,(f2 b j).2⟩
 have U:∀ b∈fp,b < (s2.heap.push { cls := .type "list",dict:=none,data := .seq ([]:List h6).toArray }).objs.size:=fun b j=>by
  obtain ⟨o,e,_⟩:=T.obj _ _ q b j;rw [FH];exact Nat.lt_succ_of_lt (E6 e)
 have Y:tn 0 (s2.heap.push { cls := .type "list",dict:=none,data := .seq ([]:List h6).toArray }):=T.keep _ _ _ q fun b _ o e=>h7 _ e;refine kr ?_;have G:=qT (N':=N') I3 O U B;have F:=T.keep _ (h':=LW (({ s2 with heap:=s2.heap.push { cls := .type "list",dict:=none,data := .seq ([]:List h6).toArray } }:hH).heap.push { cls := .type "dict",data := .dict #[] }) sc.names) _ Y fun b _ o e=>K9 _ _ b o (h7 _ e)
 have f4:∀ b∈fp,bT (aH X sc N' { s2 with heap:=s2.heap.push { cls := .type "list",dict:=none,data := .seq ([]:List h6).toArray } } (upd H2 s2.heap.objs.size (.lst [])) fp) [] (upd H2 s2.heap.objs.size (.lst [])) b:=fun b j =>
  ⟨(O b j).1,(G.ok.exf b j).1,G.ok.exfs b j, .inl j,(G.ok.exf b j).2,fun p hp=>absurd (show p∈([]:List (Addr×Obj)) from hp) (by simp)⟩
 have loop:=jH (X:=aH X sc N' { s2 with heap:=s2.heap.push { cls := .type "list",dict:=none,data := .seq ([]:List h6).toArray } } (upd H2 s2.heap.objs.size (.lst [])) fp) (fun _ _ z=>z) hc
  (elt:=elt) (pos:=pos) (scope:=sc) (gens:=⟨target,iter,ifs,0⟩::rest) (d := 0) (acc := .ref s2.heap.objs.size) rfl (fun g' e=>ha g' (by simpa using e)) (hg _ _ _) (j _ _ _ _) G T F f4 (hw _ hf)
 refine I9 (im (R:=fun r s'=>match r with | .ok _ => ∃ σ' H',Inv (aH X sc N' { s2 with heap:=s2.heap.push { cls := .type "list",dict:=none,data := .seq ([]:List h6).toArray } } (upd H2 s2.heap.objs.size (.lst [])) fp) [] σ' H' s'/\Nn s2.heap.objs.size σ' H' | .error _=>False)
  (gens:=⟨target,iter,ifs,0⟩::rest) (d := 0) rfl loop (T.self _ 0 _ _ _ F loop)) fun r s5 hr => ?_
 cases r with
 | error e=>exact hr.elim
 | ok f =>
   obtain ⟨σ5,H5,I5,n5⟩:=hr;exact hR _ fp _ _ s5 σ5 H5 f I3 O I5 n5
noncomputable def pz (wi:TI) (g:TG) (tb:Addr->TC) (fr:List (Option Nat)):TE:=fun σ H Q=>wi σ H fun J H1 => ∀ p,H1 p=none->cj J g (tb p) (fun _ H2=>Q (.ref p) H2) (inh fr σ) (upd H1 p (.lst []))
theorem jK (B:aZ sc X.env.scope X.N N' fr):∀ x∈sc.names,x.2 = .local->sc.names.lookup x.1=some .local:=fun x hx e=>by
 obtain ⟨n,k⟩:=x;have e':k = .local:=e;subst e';exact aQ B.nd hx
theorem gu (z:X.calm=true) {elt target iter:Expr} {ifs:List Expr} {rest:List F3} {pos:Pos}
 (hx:∀ e s,X.xe e s->False) (B:aZ sc X.env.scope X.N N' fr) (F:∀ g',rest[0]? = some g'->g'.is_async=0) {wi:TI} (hi:PI X target iter wi) {g:TG} {tb:Addr->TC}
 (G:∀ s H fp,PG (aH X sc N' s H fp) target g)
 (L:∀ s H fp p,PB (aH X sc N' s H fp) (fun k=>bg ifs (aH X sc N' s H fp).env >>= fun ok=>if ok=true then aY elt (⟨target,iter,ifs,0⟩::rest) sc pos 0 (.ref p) (aH X sc N' s H fp).env k else k) (tb p))
 (hs:∀ x,G6 iter X.env x=pure x) :
 PE X (.ListComp elt (⟨target,iter,ifs,0⟩::rest) sc pos) (pz wi g tb fr):=by
 intro pins s σ H Q I h;rw [eval_ListComp];refine JB (use:=none) rfl hs (io (eW I B)) B.kind (jK B) (kK (Nn:=fun p _ H2=>Q (.ref p) H2) (RR:=fun acc C=>compPost (model X.prog X.w) X.A X.xe none (EP X pins σ Q) acc C) z hx B F hi G L I h ?_);intro p fp s3 Z s' σ' H' f O U J q;obtain ⟨m,Y,_⟩:=J.loc;exact ⟨m,Y,fun h' j=>⟨.ref p,H',jJ O U J j,rfl,q⟩⟩
theorem iq (hc:X.calm=true) {elt target iter:Expr} {ifs:List Expr} {rest:List F3} {pos pos' spos:Pos} {x:Str} {i:Nat}
 (hx:∀ e s,X.xe e s->False) (B:aZ sc X.env.scope X.N N' fr) (ha:∀ g',rest[0]? = some g'->g'.is_async=0) {wi:TI} (hi:PI X target iter wi) {g:TG} {tb:Addr->TC}
 (hg:∀ s H fp,PG (aH X sc N' s H fp) target g)
 (F:∀ s H fp p,PB (aH X sc N' s H fp) (fun k=>bg ifs (aH X sc N' s H fp).env >>= fun ok=>if ok=true then aY elt (⟨target,iter,ifs,0⟩::rest) sc pos 0 (.ref p) (aH X sc N' s H fp).env k else k) (tb p))
 (hs:∀ x,G6 iter X.env x=pure x) (G:PG X (.Name x pos') (i3 i))
 (L:HX (.ListComp elt (⟨target,iter,ifs,0⟩::rest) sc pos) (some (.Name x pos')) spos.line X.env=pure true) :
 PS X (.Assign [.Name x pos'] (.ListComp elt (⟨target,iter,ifs,0⟩::rest) sc pos) spos) (oU (pz wi g tb fr) (i3 i)):=by
 intro pins s σ H D I h;rw [exec_Assign_Name_used _ _ _ _ L];refine gV (Hn (gV ?_));show Ec _ X.A (do let _ <- comprehension (.ListComp elt (⟨target,iter,ifs,0⟩::rest) sc pos) sc X.env _ (newList []) false (eval iter X.env) (some (assign (.Name x pos') X.env))) _ _ s
 refine gV (FU (JB (use:=some (assign (.Name x pos') X.env)) (Q:=fun _ s'=>SP X pins D .next s') rfl hs (io (eW I B)) B.kind (jK B)
  (kK (Nn:=fun p _ H2=>D.nx (σ.set i (some (.ref p))) H2) (RR:=fun acc C=>compPost (model X.prog X.w) X.A X.xe (some (assign (.Name x pos') X.env)) (fun _ s'=>SP X pins D .next s') acc C) hc hx B ha hi hg F I h ?_)) (fun _ s' hq=>q7 (q7 hq)) fun _ _ e=>e)
 intro p fp s3 H3 s' σ' H' f j f3 J q;obtain ⟨m,⟨o,es,ep,ho,hd,hk,hm⟩,_⟩:=J.loc;have I4:Inv X pins σ H' s':=jJ (h':=s'.heap) j f3 J ⟨rfl,fun _ _=>rfl⟩;have hL:(aH X sc N' s3 H3 fp).env.locals=s3.heap.objs.size:=rfl;rw [hL] at ho;have O:H' s3.heap.objs.size=none:=J.free;have neL:s3.heap.objs.size≠X.env.locals:=Gn j.lt;have nfs:s3.heap.objs.size∉X.fs:=j.nofs (E3 _);have I5:Inv X (pins++[(s3.heap.objs.size,o)]) σ H' s':=I4.pins_of fun pr U=>by
  rcases Ea.mp U with z | z
  ·exact I4.pin pr (Ek _ z)
  ·have e:pr=(s3.heap.objs.size,o):=by simpa using z
   subst e;exact ⟨ho,O,neL,nfs,fun v z=>by rw [hd] at z;cases z⟩
 show Ec _ X.A (assign (.Name x pos') X.env (.ref p)) _ _ _;refine thn (G _ s' σ H' (.ref p) (.ref p) D.nx I5 rfl q) fun _ s6 ⟨σ6,H6,I6,q6⟩ => ?_;obtain ⟨Y,Z,_⟩:=I6.pin (s3.heap.objs.size,o) (Ek _ (Ek _ (by simp)))
 refine ⟨m,⟨o,es,ep,Y,hd,hk,hm⟩,fun h' BJ=>⟨σ6,H6, ?_,q6⟩⟩;refine (I6.unpinned).turned (t':=s6.toks) (it:=s3.heap.objs.size) (fun b o F e=>(BJ.2 b F).trans e) Z neL (.inr j.sz) (fun y c e z => ?_) fun pr U z => ?_
 ·obtain ⟨v,q⟩:=j.cell y c e;exact absurd q.lt (by rw [z];exact Fx _)
 ·exact absurd (E6 (j.pin pr U).1) (by rw [z];exact Fx _)
end
end
end
end L2
namespace L2
namespace Zp
open PySem PySem.Spec PyProof.Rows
def At (t:Bool) (h:Heap) (i l:Addr) (k:Nat):Prop:=match t with | true=>h.IsTupleIter i l k | false=>h.IsListIter i l k
def Sq (t:Bool) (h:Heap) (l:Addr) (xs:Array h6):Prop:=match t with | true=>h.IsTuple l xs | false=>h.IsList l xs
theorem At.up {t:Bool} {h h':Heap} {i l:Addr} {k:Nat} (x:At t h i l k) (e:∀ o,h.get? i=some o->h'.get? i=some o):At t h' i l k:=by
 cases t <;> (obtain ⟨o,ho,r⟩:=x;exact ⟨o,e o ho,r⟩)
theorem Sq.up {t:Bool} {h h':Heap} {l:Addr} {xs:Array h6} (x:Sq t h l xs) (e:∀ o,h.get? l=some o->h'.get? l=some o):Sq t h' l xs:=by
 cases t <;> (obtain ⟨o,ho,r⟩:=x;exact ⟨o,e o ho,r⟩)
theorem At.lt {t:Bool} {h:Heap} {i l:Addr} {k:Nat} (x:At t h i l k):∃ o,h.get? i=some o /\ ∀ v,o.data ≠ .cell v:=by
 cases t <;> (obtain ⟨o,ho,j,hd⟩:=x;exact ⟨o,ho,fun v z=>by rw [hd] at z;cases z⟩)
section
variable {prog:Ep} {w:EM} {A:F5} {E:h6->hH->Prop} {s:hH}
open Builtin.SmallTypes in
theorem ub {i l:Addr} {k:Nat} {xs:Array h6} {x:h6} {Q:h6->hH->Prop} (hi:s.heap.IsTupleIter i l k) (L:s.heap.IsTuple l xs) (hx:xs[k]? = some x)
 (q:∀ h',h'.IsTupleIter i l (k+1)->Fz i s.heap h'->Q x { s with heap:=h' }):Ec (model prog w) A (nextOf (.ref i)) Q E s:=by
 obtain ⟨ob,z,B,j⟩:=id hi;obtain ⟨oq,G,_,nq,J⟩:=L;unfold nextOf;refine gV (EG (name:=Fc "__next__") hi.typeIs Gw (F6 Gw hi.typeIs J0 ?_ (IU _)));refine gV (m:=field (.ref i) 0) (EZ z j (x := .ref l) rfl ?_);refine (if_neg (c:=(Ff l==H4)=true) E2) ▸ ?_;refine gV (m:=field (.ref i) 1) (EZ z j (x := .int k 0) rfl ?_);refine gV (m:=seqItems? (.ref l)) (G3 G J ?_);simp only [Ed,hx];refine gV (wpAny_setField z j (by simp) (q7 ⟨x,rfl,q7 (q _ ⟨_,Kd _ z (Obj.isFreed_of_fields (Li j _)),(Obj.cls_mapFields ..).trans B, ?_⟩ (KQ ..))⟩))
 rw [Li j];simp [Jy]
open Builtin.SmallTypes in
theorem wR {i l:Addr} {k:Nat} {xs:Array h6} {Q:h6->hH->Prop} (J:A.handled=none) (hi:s.heap.IsTupleIter i l k) (L:s.heap.IsTuple l xs) (hx:xs[k]? = none)
 (q:∀ h' e,Ms i s.heap h'->(∃ o,h'.get? e=some o/\o.cls = .type "StopIteration")->E (.ref e) { s with heap:=h' }):Ec (model prog w) A (nextOf (.ref i)) Q E s:=by
 obtain ⟨ob,j,O,z⟩:=id hi;obtain ⟨oq,B,_,nq,G⟩:=L;unfold nextOf;refine gV (EG (name:=Fc "__next__") hi.typeIs Gw (F6 Gw hi.typeIs J0 ?_ (IU _)));refine gV (m:=field (.ref i) 0) (EZ j z (x := .ref l) rfl ?_);refine (if_neg (c:=(Ff l==H4)=true) E2) ▸ ?_;refine gV (m:=field (.ref i) 1) (EZ j z (x := .int k 0) rfl ?_);refine gV (m:=seqItems? (.ref l)) (G3 B G ?_);simp only [Ed,hx];refine gV (FW (gV (wpAny_setField j z (by simp) ?_)))
 refine gV (m:=newExc (.type "StopIteration") []) ?_;simp only [newExc,newTuple];refine gV (Fv ?_ (by size_fits))
 refine gV (m:=Jg _ _) (GZ (a:=H4) (by first | rfl | (simp only [Jg];rfl)) (Fv ?_ (by size_fits)))
 simp only [raiseNew];refine gV (wpAny_handled ?_)
 first | rw [show A.in1.handled=none from J] | rw [J]
 exact gV (q7 (Mt (q _ _ (((KQ ..).extBut.push _).push _) ⟨_,E1 _ rfl,rfl⟩)))
open Builtin.SmallTypes in
theorem nx_item {t:Bool} {i l:Addr} {k:Nat} {xs:Array h6} {x:h6} {Q:h6->hH->Prop} (hi:At t s.heap i l k) (j:Sq t s.heap l xs) (hx:xs[k]? = some x)
 (q:∀ h',At t h' i l (k+1)->Fz i s.heap h'->Q x { s with heap:=h' }):Ec (model prog w) A (nextOf (.ref i)) Q E s:=by
 cases t with
 | true=>exact ub hi j hx q
 | false=>exact wpAny_nextOf_list_item hi j hx q
open Builtin.SmallTypes in
theorem nx_end {t:Bool} {i l:Addr} {k:Nat} {xs:Array h6} {Q:h6->hH->Prop} (j:A.handled=none) (hi:At t s.heap i l k) (z:Sq t s.heap l xs) (hx:xs[k]? = none)
 (q:∀ h' e,Ms i s.heap h'->(∃ o,h'.get? e=some o/\o.cls = .type "StopIteration")->E (.ref e) { s with heap:=h' }):Ec (model prog w) A (nextOf (.ref i)) Q E s:=by
 cases t with
 | true=>exact wR j hi z hx q
 | false=>exact wpAny_nextOf_list_end j hi z hx q
open Builtin.SmallTypes in
theorem zk {z T O i j a b:Addr} {t u:Bool} {k:Nat} {xs ys:Array h6} {x y p r:h6} {Q:h6->hH->Prop} (D:Km z T O i j a b)
 (G:Ju s.heap z T O .none) (hT:GO s.heap T (.ref i) (.ref j)) (hO:GO s.heap O p r)
 (hi:At t s.heap i a k) (hj:At u s.heap j b k) (ha:Sq t s.heap a xs) (hb:Sq u s.heap b ys) (hx:xs[k]? = some x) (hy:ys[k]? = some y)
 (q:∀ h',Ju h' z T O (Jy s.heap.objs.size)->GO h' O x y->At t h' i a (k+1)->At u h' j b (k+1)->GO h' s.heap.objs.size x y ->
   (∀ c o,c≠z->c≠O->c≠i->c≠j->s.heap.get? c=some o->h'.get? c=some o)->Q (.ref s.heap.objs.size) { s with heap:=h' }) :
 Ec (model prog w) A (G8.«zip.__next__» ⟨[.ref z],[]⟩) (fun fin s' => ∃ v,fin = .done (.ret v)/\Q v s') E s:=by
 refine gV (m:=field (.ref z) 2) (EZ G rfl (x := .bool false) rfl ?_);refine gV (m:=field (.ref z) 3) (EZ G rfl (x := .ref T) rfl ?_);refine gV (G3 hT rfl ?_);refine gV (m:=ownedTupleIsFree (.ref z)) ?_;unfold ownedTupleIsFree;refine gV (EZ G rfl (x := .none) rfl (q7 ?_));simp only [if_true];refine gV (FW (gV (EZ G rfl (x := .ref O) rfl (gV (ER G (by simp) fun g1 z1 s1 => ?_)))))
 have Z1:Ju g1 z T O .ellipsis:=z1;clear z1;refine gV ?_;simp only [JH,MK,GB,Ko];refine gV (gV (JC (gV (m:=nextOf (.ref i)) ?_)));refine nx_item (hi.up fun o e=>s1.extBut _ o D.i1z e) (ha.up fun o e=>s1.extBut _ o D.l1z e) hx fun g2 U s2=>q7 ?_;have O2:GO g2 O p r:=s2.extBut _ _ D.TOi1 (s1.extBut _ _ D.TOz hO);refine gV (G3 O2 rfl (gV (IG O2 fun g3 o3 s3 => ?_)));have O3:GO g3 O x r:=o3;clear o3;refine gV (Jv (q7 (gV (gV (JC (gV (m:=nextOf (.ref j)) ?_))))));refine nx_item (hj.up fun o e=>s3.extBut _ o D.TOi2.symm (s2.extBut _ o D.i12.symm (s1.extBut _ o D.i2z e))) (hb.up fun o e=>s3.extBut _ o D.l2TO (s2.extBut _ o D.l2i1 (s1.extBut _ o D.l2z e))) hy fun g4 Y s4=>q7 ?_;have O4:GO g4 O x r:=s4.extBut _ _ D.TOi2 O3;refine gV (G3 O4 rfl (gV (IG O4 fun B o5 s5 => ?_)));have O5:GO B O x y:=o5;clear o5;refine gV (Jv (q7 (q7 (gV (G3 O5 rfl (gV (Kq ?_)))))));have sz:B.objs.size=s.heap.objs.size:=by rw [s5.1,s4.1,s3.1,s2.1,s1.1]
 have k5:∀ c o,c≠z->c≠O->c≠i->c≠j->s.heap.get? c=some o->B.get? c=some o:=fun c o F J Z c4 e =>
  s5.extBut _ _ J (s4.extBut _ _ c4 (s3.extBut _ _ J (s2.extBut _ _ Z (s1.extBut _ _ F e))))
 have Z5:Ju B z T O .ellipsis:=s5.extBut _ _ D.TOz.symm (s4.extBut _ _ D.i2z.symm (s3.extBut _ _ D.TOz.symm (s2.extBut _ _ D.i1z.symm Z1)));have I5:At t B i a (k+1):=U.up fun o e=>s5.extBut _ o D.TOi1.symm (s4.extBut _ o D.i12 (s3.extBut _ o D.TOi1.symm e));have J5:At u B j b (k+1):=Y.up fun o e=>s5.extBut _ o D.TOi2.symm e;have zl:z < B.objs.size:=E6 Z5;refine gV (m:=ownedTupleHandOut (.ref z) (.ref B.objs.size)) ?_;unfold ownedTupleHandOut;refine gV (ER (h7 _ Z5) (by simp) fun g7 z7 s7 => ?_)
 have Z7:Ju g7 z T O (Jy B.objs.size):=z7;clear z7;refine ER Z7 (by simp) fun L z8 s8 => ?_
 have Z8:Ju L z T O (Jy B.objs.size):=z8;clear z8;have up:∀ c o,c≠z->B.get? c=some o->L.get? c=some o:=fun c o F e=>s8.extBut _ _ F (s7.extBut _ _ F (h7 _ e));have P8:GO L B.objs.size x y:=s8.extBut _ _ (Gn zl) (s7.extBut _ _ (Gn zl) (E1 _ rfl));rw [sz] at Z8 P8;refine q7 ⟨_,rfl, ?_⟩;show Q (.ref B.objs.size) _;rw [sz];exact q L Z8 (up _ _ D.TOz O5) (I5.up fun o e=>up _ o D.i1z e) (J5.up fun o e=>up _ o D.i2z e) P8 fun c o F J Z c4 e=>up c o F (k5 c o F J Z c4 e)
open Builtin.SmallTypes in
theorem AK {z T O i j a b:Addr} {t u:Bool} {k:Nat} {xs ys:Array h6} {p r:h6} {Q:Fin->hH->Prop} (hn:A.handled=none) (D:Km z T O i j a b)
 (G:Ju s.heap z T O .none) (hT:GO s.heap T (.ref i) (.ref j)) (hO:GO s.heap O p r)
 (hi:At t s.heap i a k) (hj:At u s.heap j b k) (ha:Sq t s.heap a xs) (hb:Sq u s.heap b ys) (J:xs[k]? = none∨ys[k]? = none)
 (q:∀ h' e,(∀ c o,c≠z->c≠O->c≠i->c≠j->s.heap.get? c=some o->h'.get? c=some o)->(∃ o,h'.get? e=some o/\o.cls = .type "StopIteration")->E (.ref e) { s with heap:=h' }) :
 Ec (model prog w) A (G8.«zip.__next__» ⟨[.ref z],[]⟩) Q E s:=by
 refine gV (m:=field (.ref z) 2) (EZ G rfl (x := .bool false) rfl ?_);refine gV (m:=field (.ref z) 3) (EZ G rfl (x := .ref T) rfl ?_);refine gV (G3 hT rfl ?_);refine gV (m:=ownedTupleIsFree (.ref z)) ?_;unfold ownedTupleIsFree;refine gV (EZ G rfl (x := .none) rfl (q7 ?_));simp only [if_true];refine gV (FW (gV (EZ G rfl (x := .ref O) rfl (gV (ER G (by simp) fun g1 z1 s1 => ?_)))))
 have Z1:Ju g1 z T O .ellipsis:=z1;clear z1;refine gV ?_;simp only [JH,MK,GB,Ko];refine gV (gV (JC (gV (m:=nextOf (.ref i)) ?_)));have L:At t g1 i a k:=hi.up fun o e=>s1.extBut _ o D.i1z e;have U:Sq t g1 a xs:=ha.up fun o e=>s1.extBut _ o D.l1z e
 cases hx:xs[k]? with
 | none =>
   refine nx_end hn L U hx fun g2 e s2 he => ?_;obtain ⟨oe,B,F⟩:=he;have Z2:Ju g2 z T O .ellipsis:=s2 _ _ D.i1z.symm Z1;have ez:e≠z:=fun x=>by subst x;rw [Z2] at B;cases B;simp at F
   exact ER Z2 (by simp) fun g3 _ s3=>q g3 e (fun c o Y _ Z _ x=>s3.extBut _ _ Y (s2 _ _ Z (s1.extBut _ _ Y x))) ⟨oe,s3.extBut _ _ ez B,F⟩
 | some x =>
   have hy:ys[k]? = none:=J.elim (fun z=>by rw [hx] at z;cases z) id
   refine nx_item L U hx fun g2 BJ s2=>q7 ?_;have O2:GO g2 O p r:=s2.extBut _ _ D.TOi1 (s1.extBut _ _ D.TOz hO);refine gV (G3 O2 rfl (gV (IG O2 fun g3 o3 s3 => ?_)));refine gV (Jv (q7 (gV (gV (JC (gV (m:=nextOf (.ref j)) ?_))))));refine nx_end hn (hj.up fun o e=>s3.extBut _ o D.TOi2.symm (s2.extBut _ o D.i12.symm (s1.extBut _ o D.i2z e))) (hb.up fun o e=>s3.extBut _ o D.l2TO (s2.extBut _ o D.l2i1 (s1.extBut _ o D.l2z e))) hy fun g4 e s4 he => ?_;obtain ⟨oe,B,F⟩:=he;have Z4:Ju g4 z T O .ellipsis:=s4 _ _ D.i2z.symm (s3.extBut _ _ D.TOz.symm (s2.extBut _ _ D.i1z.symm Z1));have ez:e≠z:=fun x=>by subst x;rw [Z4] at B;cases B;simp at F
   exact ER Z4 (by simp) fun g5 _ s5=>q g5 e (fun c o Y c2 Z c4 x=>s5.extBut _ _ Y (s4 _ _ c4 (s3.extBut _ _ c2 (s2.extBut _ _ Z (s1.extBut _ _ Y x))))) ⟨oe,s5.extBut _ _ ez B,F⟩
theorem nxt_item {z T O i j a b:Addr} {t u:Bool} {k:Nat} {xs ys:Array h6} {x y p r:h6} {Q:Option h6->hH->Prop} (D:Km z T O i j a b)
 (B:Ju s.heap z T O .none) (G:GO s.heap T (.ref i) (.ref j)) (J:GO s.heap O p r)
 (hi:At t s.heap i a k) (L:At u s.heap j b k) (U:Sq t s.heap a xs) (Y:Sq u s.heap b ys) (hx:xs[k]? = some x) (Z:ys[k]? = some y)
 (q:∀ h',Ju h' z T O (Jy s.heap.objs.size)->GO h' O x y->At t h' i a (k+1)->At u h' j b (k+1)->GO h' s.heap.objs.size x y ->
   (∀ c o,c≠z->c≠O->c≠i->c≠j->s.heap.get? c=some o->h'.get? c=some o)->Q (some (.ref s.heap.objs.size)) { s with heap:=h' }) :
 Ec (model prog w) A (I8 (.ref z)) Q E s:=by
 have ty:s.TypeIs (.ref z) "zip" := ⟨_,B,rfl⟩;unfold I8;exact gV (GP (EG (name:=Fc "__next__") ty IV (F6 IV ty LX
  (zk D B G J hi L U Y hx Z fun h' a1 a2 a3 a4 a5 a6=>q7 (q h' a1 a2 a3 a4 a5 a6)) (LD _))))
theorem nxt_end {z T O i j a b:Addr} {t u:Bool} {k:Nat} {xs ys:Array h6} {p r:h6} {Q:Option h6->hH->Prop} (J:A.handled=none) (D:Km z T O i j a b)
 (G:Ju s.heap z T O .none) (L:GO s.heap T (.ref i) (.ref j)) (U:GO s.heap O p r)
 (hi:At t s.heap i a k) (Y:At u s.heap j b k) (Z:Sq t s.heap a xs) (hb:Sq u s.heap b ys) (B:xs[k]? = none∨ys[k]? = none)
 (q:∀ h',(∀ c o,c≠z->c≠O->c≠i->c≠j->s.heap.get? c=some o->h'.get? c=some o)->Q none { s with heap:=h' }):Ec (model prog w) A (I8 (.ref z)) Q E s:=by
 have ty:s.TypeIs (.ref z) "zip" := ⟨_,G,rfl⟩;unfold I8;refine gV (GP (EG (name:=Fc "__next__") ty IV (F6 IV ty LX
  (AK J D G L U hi Y Z hb B fun h' e hk he => ?_) (LD _))))
 obtain ⟨o,ho,hc⟩:=he;exact gV (GU (T := "StopIteration") (b:=true) ⟨o,ho,hc⟩ Kr (q7 (q _ hk)))
noncomputable def itO (t:Bool) (l:Addr):Obj:=match t with | true => { cls := .type "tuple_iterator",data := .fields #[.ref l, .int 0 0] } | false => { cls := .type "list_iterator",data := .fields #[.ref l, .int 0 0] }
noncomputable def zH1 (h:Heap) (t:Bool) (a:Addr):Heap:=h.push (itO t a)
noncomputable def zH2 (h:Heap) (t u:Bool) (a b:Addr):Heap:=(zH1 h t a).push (itO u b)
noncomputable def zH3 (h:Heap) (t u:Bool) (a b:Addr):Heap:=(zH2 h t u a b).push { cls := .type "tuple",data := .seq #[.ref h.objs.size, .ref (zH1 h t a).objs.size] }
noncomputable def zH4 (h:Heap) (t u:Bool) (a b:Addr):Heap:=(zH3 h t u a b).push { cls := .type "tuple",data := .seq #[.none, .none] }
noncomputable def zH5 (h:Heap) (t u:Bool) (a b:Addr):Heap:=(zH4 h t u a b).push { cls := .type "zip",data := .fields #[.none, .bool false, .bool false, .ref (zH2 h t u a b).objs.size, .ref (zH3 h t u a b).objs.size] }
theorem qU (t u:Bool) (a b:Addr) (xs ys:Array h6) :
 Meets (G8.«zip.__new__» ⟨[.type "zip", .ref a, .ref b],[]⟩) (fun _ R s=>Sq t s.heap a xs/\Sq u s.heap b ys/\R (.ok (.ret (.ref (zH4 s.heap t u a b).objs.size))) { s with heap:=zH5 s.heap t u a b }) :=
 .of_wp fun prog w A R s h=>by
  obtain ⟨j,g,d,tk,os⟩:=s;obtain ⟨B,F,h⟩:=h;have hs:=sub_zip
  cases t <;> cases u
  ·have q:Ks (H0 ⟨j,g,d,tk,os⟩) a xs:=B;have z:Ks (H0 ⟨j.push { cls := .type "list_iterator",data := .fields #[.ref a, .int 0 0] },g,d,tk,os⟩) b ys:=LY F _
   wp_walk using G9 q,G9 z
   exact ⟨_,rfl,h⟩
  ·have q:Ks (H0 ⟨j,g,d,tk,os⟩) a xs:=B;have z:J1 (H0 ⟨j.push { cls := .type "list_iterator",data := .fields #[.ref a, .int 0 0] },g,d,tk,os⟩) b ys:=LF F _
   wp_walk using G9 q,FA z
   exact ⟨_,rfl,h⟩
  ·have q:J1 (H0 ⟨j,g,d,tk,os⟩) a xs:=B;have z:Ks (H0 ⟨j.push { cls := .type "tuple_iterator",data := .fields #[.ref a, .int 0 0] },g,d,tk,os⟩) b ys:=LY F _
   wp_walk using FA q,G9 z
   exact ⟨_,rfl,h⟩
  ·have q:J1 (H0 ⟨j,g,d,tk,os⟩) a xs:=B;have z:J1 (H0 ⟨j.push { cls := .type "tuple_iterator",data := .fields #[.ref a, .int 0 0] },g,d,tk,os⟩) b ys:=LF F _
   wp_walk using FA q,FA z
   exact ⟨_,rfl,h⟩
theorem at_new {t:Bool} {h:Heap} {i l:Addr} (e:h.get? i=some (itO t l)):At t h i l 0:=by
 cases t <;> exact ⟨_,e,rfl,rfl⟩
theorem call_zip {t u:Bool} {a b:Addr} {xs ys:Array h6} {Q:h6->hH->Prop} (ha:Sq t s.heap a xs) (hb:Sq u s.heap b ys)
 (q:∀ h',Ju h' (s.heap.objs.size+4) (s.heap.objs.size+2) (s.heap.objs.size+3) .none->GO h' (s.heap.objs.size+2) (.ref s.heap.objs.size) (.ref (s.heap.objs.size+1)) ->
   GO h' (s.heap.objs.size+3) .none .none->At t h' s.heap.objs.size a 0->At u h' (s.heap.objs.size+1) b 0->h'.objs.size=s.heap.objs.size+5 ->
   (∀ c o,s.heap.get? c=some o->h'.get? c=some o)->Q (.ref (s.heap.objs.size+4)) { s with heap:=h' }) :
 Ec (model prog w) A (call (.type "zip") [.ref a, .ref b]) Q E s:=by
 refine callType_new F.called_zip (by decide) (F.typeCall_zip_2 _ _) (F.newCall_zip_2 _ _) (fun obj=>F.args_object_init_3 obj _ _) F.entry_zip_new (qU t u a b xs ys) ⟨ha,hb, ?_⟩
 have B:(zH1 s.heap t a).objs.size=s.heap.objs.size+1:=FH ..;have G:(zH2 s.heap t u a b).objs.size=s.heap.objs.size+2:=by unfold zH2;rw [FH,B]
 have J:(zH3 s.heap t u a b).objs.size=s.heap.objs.size+3:=by unfold zH3;rw [FH,G]
 have L:(zH4 s.heap t u a b).objs.size=s.heap.objs.size+4:=by unfold zH4;rw [FH,J]
 have z5:(zH5 s.heap t u a b).objs.size=s.heap.objs.size+5:=by unfold zH5;rw [FH,L]
 have j:∀ {c o},(zH4 s.heap t u a b).get? c=some o->(zH5 s.heap t u a b).get? c=some o:=fun e=>h7 _ e;have z:∀ {c o},(zH3 s.heap t u a b).get? c=some o->(zH4 s.heap t u a b).get? c=some o:=fun e=>h7 _ e;have O:∀ {c o},(zH2 s.heap t u a b).get? c=some o->(zH3 s.heap t u a b).get? c=some o:=fun e=>h7 _ e;have Y:∀ {c o},(zH1 s.heap t a).get? c=some o->(zH2 s.heap t u a b).get? c=some o:=fun e=>h7 _ e;have k1:∀ {c o},s.heap.get? c=some o->(zH1 s.heap t a).get? c=some o:=fun e=>h7 _ e;have f:∀ t l,(itO t l).isFreed=false:=fun t l=>by cases t <;> rfl
 have U:(zH5 s.heap t u a b).get? (zH4 s.heap t u a b).objs.size=some _:=E1 _ rfl;have Z:(zH5 s.heap t u a b).get? (zH3 s.heap t u a b).objs.size=some _:=j (E1 _ rfl);have g3:(zH5 s.heap t u a b).get? (zH2 s.heap t u a b).objs.size=some _:=j (z (E1 _ rfl));have g2:(zH5 s.heap t u a b).get? (zH1 s.heap t a).objs.size=some _:=j (z (O (E1 _ (f u b))));have g1:(zH5 s.heap t u a b).get? s.heap.objs.size=some _:=j (z (O (Y (E1 _ (f t a)))));show _/\_;rw [G,J,L] at U;rw [B,G] at g3;rw [J] at Z;rw [B] at g2;rw [L];exact ⟨⟨_,U,rfl⟩,q _ U g3 Z (at_new g1) (at_new g2) z5 fun c o x=>j (z (O (Y (k1 x))))⟩
end
end Zp
end L2
namespace L2
open PySem PySem.Spec PyProof.Rows
section
section
variable {X:Cx} {pins:List (Addr×Obj)} {σ:St} {H:Hp} {s:hH} {h':Heap}
theorem Inv.turnedL {t':Nat} {fp:List Addr} (I:Inv X pins σ H s) (hf:∀ b∈fp,bT X pins H b) (k:∀ b o,b∉fp->s.heap.get? b=some o->h'.get? b=some o):Inv X pins σ H { s with heap:=h',toks:=t' }:=by
 have nit:∀ b u,H b=some u->b∉fp:=fun b u e z=>by rw [(hf b z).1] at e;cases e
 refine I.step (g':=s.gens) (d':=s.drawn) (ch:=fp) (fun b B => ?_) (fun b o _ _ j e _=>k b o j e) (fun b o _ _ j e _=>⟨o.slots,k b o j e⟩) (fun _ _ _ _ n=>n)
  (fun b o j e=>⟨o,k b o j e⟩) (fun _ _ e=>e) (fun _ _ _ e=>e) (fun b ps e=>⟨#[],by rw [e];simp⟩) (fun m hm => ?_) (fun b u e => ?_) I.bare
 ·obtain ⟨_,f1,_,F,f4,G⟩:=hf b B;exact ⟨F,f1,f4,G⟩
 ·obtain ⟨o,es,ep,ho,r⟩:=hm;exact ⟨o,es,ep,k _ o (fun z=>(hf _ z).2.1 rfl) ho,r⟩
 ·refine (I.hok b u e).stay (fun c v j q=>k c v ?_ q) (fun _ q=>q) fun _ _ q=>q
  rcases j with z | z
  ·rw [z];exact nit b u e
  ·exact nit c _ z
end
def SqV (K:Frag) (t:Bool) (H:Hp) (a:Addr) (xs:List V):Prop:=match t with | true=>SqT K H a xs | false=>SqL K H a xs
theorem Inv.sqv {X:Cx} {pins:List (Addr×Obj)} {σ:St} {H:Hp} {s:hH} {t:Bool} {a:Addr} {xs:List V} (I:Inv X pins σ H s) (h:SqV X.K t H a xs):∃ its:List h6,Vals xs its/\Zp.Sq t s.heap a its.toArray:=by
 cases t with
 | true=>obtain ⟨its,r,p,_⟩:=I.tuple h;exact ⟨its,r,p⟩
 | false=>obtain ⟨its,r,p,_⟩:=I.list h;exact ⟨its,r,p.isList⟩
theorem Inv.sqv_inj {X:Cx} {pins:List (Addr×Obj)} {σ:St} {H:Hp} {s:hH} {t:Bool} {a:Addr} {xs ys:List V} (I:Inv X pins σ H s) (h:SqV X.K t H a xs) (h':SqV X.K t H a ys):xs=ys:=by
 cases t with
 | true=>exact I.tuple_inj h h'
 | false=>exact I.list_inj h h'
noncomputable def Itz (K:Frag) (t u:Bool) (a b:Addr):It :=
 ⟨fun i H => ∃ xs ys x y,SqV K t H a xs/\SqV K u H b ys/\xs[i]? = some x/\ys[i]? = some y,
  fun i H v H' => ∃ p x y,H p=none/\v = .ref p/\H'=upd H p (.tup [x,y]) /\ ∀ xs ys,SqV K t H a xs->SqV K u H b ys->xs[i]? = some x/\ys[i]? = some y,
  fun i H => ∃ xs ys,SqV K t H a xs/\SqV K u H b ys/\(xs.length<=i∨ys.length<=i)⟩
theorem uc {P:Ep} {w:EM} {K:Frag} {elts:List Expr} {cx} {pos:Pos} {t u:Bool} {z T O i j a b:Addr} (D:Km z T O i j a b) :
 eT P w K (.Tuple elts cx pos) (Itz K t u a b) [z,T,O,i,j] z (fun k h=>Ju h z T O .none/\GO h T (.ref i) (.ref j)/\(∃ p r,GO h O p r)/\Zp.At t h i a k/\Zp.At u h j b k) where
 mem:=by simp
 obj:=fun k h ⟨B,F,⟨p,r,G⟩,hi,J⟩ c q=>by
  simp only [Eb,EL,or_false] at q
  rcases q with rfl | rfl | rfl | rfl | rfl
  ·exact ⟨_,B,fun v e=>by cases e⟩
  ·exact ⟨_,F,fun v e=>by cases e⟩
  ·exact ⟨_,G,fun v e=>by cases e⟩
  ·exact hi.lt
  ·exact J.lt
 keep:=fun k h h' ⟨B,F,⟨p,r,G⟩,hi,J⟩ kk=>⟨kk z (by simp) _ B,kk T (by simp) _ F,⟨p,r,kk O (by simp) _ G⟩,hi.up fun o e=>kk i (by simp) o e,J.up fun o e=>kk j (by simp) o e⟩
 item:=by
  intro X Y hw Z q k pins s σ H E I hf st hg;subst Y hw Z;obtain ⟨B,F,⟨p,r,G⟩,hi,J⟩:=st;obtain ⟨xs,ys,x,y,qx,qy,ex,ey⟩:=hg;obtain ⟨is,rx,px⟩:=I.sqv qx;obtain ⟨js,ry,py⟩:=I.sqv qy;obtain ⟨ux,BJ,rux⟩:=rx.get ex;obtain ⟨uy,BK,ruy⟩:=ry.get ey;refine Zp.nxt_item D B F G hi J px py (by simpa using BJ) (by simpa using BK) fun h1 z1 o1 i1 j1 p1 U=>⟨_,rfl, ?_⟩
  refine wpAny_letOwnedTupleGo_zip (s := { s with heap:=h1 }) z1 fun h2 z2 s2 => ?_
  have lt:∀ {c o},s.heap.get? c=some o->c≠s.heap.objs.size:=fun e=>EJ (E6 e);have nz:s.heap.objs.size≠z:=(lt B).symm;have BL:∃ o,s.heap.get? i=some o:=hi.lt.imp fun _ h=>h.1;have BM:∃ o,s.heap.get? j=some o:=J.lt.imp fun _ h=>h.1;have up:∀ c o,c≠z->h1.get? c=some o->h2.get? c=some o:=fun c o n e=>s2.extBut _ _ n e;have IL:Inv X pins σ (upd H s.heap.objs.size (.tup [x,y])) { s with heap:=s.heap.push { cls := .type "tuple",data := .seq #[ux,uy] },toks:=s.toks } :=
   I.laid (fun b o e=>h7 _ e) (E3 _) ⟨by rw [D1];simp,[ux,uy], .cons rux (.cons ruy .nil),J7 _ _⟩
  have fr:∀ c∈[z,T,O,i,j],c≠s.heap.objs.size:=fun c q=>by
   simp only [Eb,EL,or_false] at q
   rcases q with rfl | rfl | rfl | rfl | rfl
   ·exact lt B
   ·exact lt F
   ·exact lt G
   ·obtain ⟨o,e⟩:=BL;exact lt e
   ·obtain ⟨o,e⟩:=BM;exact lt e
  have un:∀ c∈[z,T,O,i,j],upd H s.heap.objs.size (.tup [x,y]) c=none:=fun c q=>by
   rw [aj (fr c q)];exact (hf c q).1
  have kk:∀ c o,c∉[z,T,O,i,j]->(s.heap.push { cls := .type "tuple",data := .seq #[ux,uy] }).get? c=some o->h2.get? c=some o:=fun c o q e=>by
   simp only [Eb,EL,or_false,not_or] at q
   rcases Kt e with ⟨rfl,rfl⟩ | e
   ·exact up _ _ nz p1
   ·exact up _ _ q.1 (U c o q.1 q.2.2.1 q.2.2.2.1 q.2.2.2.2 e)
  have I2:Inv X pins σ (upd H s.heap.objs.size (.tup [x,y])) { s with heap:=h2,toks:=s.toks } :=
   (Inv.turnedL (s := { s with heap:=s.heap.push { cls := .type "tuple",data := .seq #[ux,uy] },toks:=s.toks }) (h':=h2) (t':=s.toks) (fp := [z,T,O,i,j]) IL (fun c q=>⟨un c q,(hf c q).2⟩) kk)
  refine ⟨.ref s.heap.objs.size,_,I2,rfl,⟨_,x,y,I.hok.fresh (E3 _),rfl,rfl,fun xs' ys' q1 q2 => ?_⟩,⟨z2,up _ _ D.TIz (U _ _ D.TIz D.TITO D.TIi1 D.TIi2 F),⟨_,_,up _ _ D.TOz o1⟩,i1.up fun o e=>up _ o D.i1z e,j1.up fun o e=>up _ o D.i2z e⟩,un⟩;rw [I.sqv_inj q1 qx,I.sqv_inj q2 qy];exact ⟨ex,ey⟩
 done:=by
  intro X Y hw Z q k pins s σ H E I hf st hg;subst Y hw Z;obtain ⟨B,F,⟨p,r,G⟩,hi,J⟩:=st;obtain ⟨xs,ys,qx,qy,L⟩:=hg;obtain ⟨is,rx,px⟩:=I.sqv qx;obtain ⟨js,ry,py⟩:=I.sqv qy;have lx:=rx.length;have ly:=ry.length;refine Zp.nxt_end (I.ok.hd q) D B F G hi J px py (L.imp (fun e=>by simp;lia) (fun e=>by simp;lia)) fun h1 U=>⟨rfl,I.turnedL (t':=s.toks) hf fun c o q e => ?_⟩
  simp only [Eb,EL,or_false,not_or] at q;exact U c o q.1 q.2.2.1 q.2.2.2.1 q.2.2.2.2 e
 self:=fun A k s Q E st h=>LZ st.1 h
section
variable {X:Cx}
noncomputable def BA (K:Frag) (ta:TA):TI:=fun σ H R=>ta σ H fun vs H1 => ∃ a b t u xs ys,vs=[.ref a, .ref b]/\SqV K t H1 a xs/\SqV K u H1 b ys/\R (Itz K t u a b) H1
theorem zm {elts:List Expr} {cx} {pos p pos':Pos} {a b:Expr} {ta:TA} (G:Gl X "zip") (hm:X.mg "zip" = none) (J:PA X [a,b] ta) (hs:Et [a,b] X.env=[(false,eval a X.env),(false,eval b X.env)]) (j:Et [b] X.env=[(false,eval b X.env)]) :
 PI X (.Tuple elts cx pos) (.Call (.Name "zip" p) [a,b] [] pos') (BA X.K ta):=by
 intro pins s σ H R I h;refine Call_ (di I G hm (u := .type "zip") (by decide +kernel) (FE (thn (J pos' pins s σ H _ I h) fun us s1 ⟨vs,H1,z,L,O⟩ => ?_) (by rw [hs,j]) (by rw [j];rfl)))
 obtain ⟨a',b',t,u,xs,ys,rfl,qx,qy,q⟩:=O
 cases L with
 | cons r rr =>
   cases rr with
   | cons r' rr =>
     cases rr
     cases r
     cases r'
     obtain ⟨is,rx,px⟩:=z.sqv qx;obtain ⟨js,ry,py⟩:=z.sqv qy;refine Zp.call_zip px py fun h1 B t1 U Y Z sz k1 => ?_;refine LZ B ?_;have la:a' < s1.heap.objs.size:=by cases t <;> (obtain ⟨o,e,_⟩:=px;exact E6 e)
     have lb:b' < s1.heap.objs.size:=by cases u <;> (obtain ⟨o,e,_⟩:=py;exact E6 e)
     have D:Km (s1.heap.objs.size+4) (s1.heap.objs.size+2) (s1.heap.objs.size+3) s1.heap.objs.size (s1.heap.objs.size+1) a' b':=by constructor <;> (intro e;subst_vars;first | lia | (simp only [Addr] at *;lia))
     refine ⟨_,_,_,_,H1,rfl,z.kept (t':=s1.toks) k1,uc (t:=t) (u:=u) D,⟨B,t1,⟨_,_,U⟩,Y,Z⟩,fun c F => ?_,q⟩;have hle:s1.heap.objs.size<=c:=by
      simp only [Eb,EL,or_false] at F
      rcases F with rfl | rfl | rfl | rfl | rfl <;> lia
     exact z.fpOk hle (z.hok.fresh hle)
end
end
end L2
namespace L2
namespace Zp
open PySem PySem.Spec PyProof.Rows
end Zp
open PySem PySem.Spec PyProof.Rows
end L2
namespace L2
namespace En
open PySem PySem.Spec PyProof.Rows
section
variable {prog:Ep} {w:EM} {A:F5} {E:h6->hH->Prop} {s:hH}
open Builtin.SmallTypes Zp in
theorem zn {z i a:Addr} {t:Bool} {k:Nat} {xs:Array h6} {x old:h6} {Q:h6->hH->Prop} (U:K2 s.heap z i k old) (hi:At t s.heap i a k) (ha:Sq t s.heap a xs) (hx:xs[k]? = some x) (j:z≠i)
 (q:∀ h',Ma h' z i ((k:Int)+1) x s.heap.objs.size->At t h' i a (k+1)->h'.get? s.heap.objs.size=some { cls := .type "tuple",data := .seq #[.int k s.toks,x] } ->
   (∀ b o,b≠z->b≠i->s.heap.get? b=some o->h'.get? b=some o)->Q (.ref s.heap.objs.size) { s with heap:=h',toks:=s.toks+1 }) :
 Ec (model prog w) A (G8.«enumerate.__next__» ⟨[.ref z],[]⟩) (fun fin s' => ∃ v,fin = .done (.ret v)/\Q v s') E s:=by
 obtain ⟨B,g,d,tk,os⟩:=s;refine gV (m:=field (.ref z) 2) (EZ U rfl (x := .ref i) rfl (gV (nx_item hi ha hx fun g1 i1 s1 => ?_)));have S1:Fz i B g1:=s1;clear s1;have Y:K2 g1 z i k old:=(S1.2 z j).trans U;refine gV (m:=field (.ref z) 3) (EZ (s:=⟨g1,g,d,tk,os⟩) Y rfl (x:=Jy k) rfl ?_);refine gV (m:=field (.ref z) 4) (EZ (s:=⟨g1,g,d,tk,os⟩) Y rfl (x := .none) rfl ?_);refine gV (m:=mkInt k) (wpAny_mkInt ?_);refine gV (m:=setField (.ref z) 3 (Jy ((k:Int)+1))) (ER (s:=⟨g1,g,d,tk+1,os⟩) Y (by simp) fun g2 z2 s2 => ?_)
 have Z:Fz z g1 g2:=s2;have Z2:K2 g2 z i ((k:Int)+1) old:=z2;clear s2 z2;refine gV (m:=setField (.ref z) 4 .none) (ER (s:=⟨g2,g,d,tk+1,os⟩) Z2 (by simp) fun g3 z3 s3 => ?_)
 have S3:Fz z g2 g3:=s3;have Z3:K2 g3 z i ((k:Int)+1) old:=z3;clear s3 z3;refine gV (m:=newTuple [.int k tk,x]) (Kq ?_);have G:K2 (g3.push { cls := .type "tuple",data := .seq #[.int k tk,x] }) z i ((k:Int)+1) old:=h7 _ Z3;have sz:g3.objs.size=B.objs.size:=by rw [S3.1,Z.1,S1.1]
 have zl:z < B.objs.size:=E6 U;have T4:(g3.push { cls := .type "tuple",data := .seq #[.int k tk,x] }).get? B.objs.size=some { cls := .type "tuple",data := .seq #[.int k tk,x] }:=by rw [<- sz];exact E1 _ rfl
 have K4:∀ b o,b≠z->b≠i->B.get? b=some o->(g3.push { cls := .type "tuple",data := .seq #[.int k tk,x] }).get? b=some o:=fun b o bz bi e =>
  h7 _ (S3.extBut b o bz (Z.extBut b o bz (S1.extBut b o bi e)))
 have I4:At t (g3.push { cls := .type "tuple",data := .seq #[.int k tk,x] }) i a (k+1):=i1.up fun o e=>h7 _ (S3.extBut i o j.symm (Z.extBut i o j.symm e));rw [sz];generalize g3.push { cls := .type "tuple",data := .seq #[.int k tk,x] }=F at G T4 K4 I4;refine gV (m:=ownedTupleIsFree (.ref z)) ?_;unfold ownedTupleIsFree;refine gV (EZ (s:=⟨F,g,d,tk+1,os⟩) G rfl (x := .none) rfl (q7 ?_));simp only [if_true];refine gV (FW (gV (EZ (s:=⟨F,g,d,tk+1,os⟩) G rfl (x:=old) rfl (gV (ER (s:=⟨F,g,d,tk+1,os⟩) G (by simp) fun J z5 s5 => ?_)))))
 have S5:Fz z F J:=s5;have Z5:K2 J z i ((k:Int)+1) x:=z5;clear s5 z5;refine gV (m:=ownedTupleHandOut (.ref z) (.ref B.objs.size)) ?_;unfold ownedTupleHandOut;refine gV (ER (s:=⟨J,g,d,tk+1,os⟩) Z5 (by simp) fun L z6 s6 => ?_)
 have S6:Fz z J L:=s6;have Z6:Ma L z i ((k:Int)+1) x B.objs.size:=z6;clear s6 z6;refine ER (s:=⟨L,g,d,tk+1,os⟩) Z6 (by simp) fun O z7 s7 => ?_
 have S7:Fz z L O:=s7;have Z7:Ma O z i ((k:Int)+1) x B.objs.size:=z7;clear s7 z7;have up:∀ b o,b≠z->F.get? b=some o->O.get? b=some o:=fun b o bz e=>S7.extBut b o bz (S6.extBut b o bz (S5.extBut b o bz e));exact gV (Jv (q7 ⟨_,rfl,q O Z7 (I4.up fun o e=>up i o j.symm e) (up _ _ (Gn zl) T4) fun b o bz bi e=>up b o bz (K4 b o bz bi e)⟩))
theorem nxt_item {z i a:Addr} {t:Bool} {k:Nat} {xs:Array h6} {x old:h6} {Q:Option h6->hH->Prop} (B:K2 s.heap z i k old) (hi:Zp.At t s.heap i a k) (G:Zp.Sq t s.heap a xs) (hx:xs[k]? = some x) (j:z≠i)
 (q:∀ h',Ma h' z i ((k:Int)+1) x s.heap.objs.size->Zp.At t h' i a (k+1)->h'.get? s.heap.objs.size=some { cls := .type "tuple",data := .seq #[.int k s.toks,x] } ->
   (∀ b o,b≠z->b≠i->s.heap.get? b=some o->h'.get? b=some o)->Q (some (.ref s.heap.objs.size)) { s with heap:=h',toks:=s.toks+1 }) :
 Ec (model prog w) A (I8 (.ref z)) Q E s:=by
 have ty:s.TypeIs (.ref z) "enumerate" := ⟨_,B,rfl⟩;unfold I8;exact gV (GP (EG (name:=Fc "__next__") ty Hr (F6 Hr ty K5
  (zn B hi G hx j fun h' a1 a2 J L=>q7 (q h' a1 a2 J L)) (JI _))))
theorem nxt_end {z i a:Addr} {t:Bool} {k:Nat} {xs:Array h6} {old:h6} {Q:Option h6->hH->Prop} (B:A.handled=none) (j:K2 s.heap z i k old) (hi:Zp.At t s.heap i a k) (G:Zp.Sq t s.heap a xs) (hx:xs[k]? = none)
 (q:∀ h',Ms i s.heap h'->Q none { s with heap:=h' }):Ec (model prog w) A (I8 (.ref z)) Q E s:=by
 have ty:s.TypeIs (.ref z) "enumerate" := ⟨_,j,rfl⟩;unfold I8;refine gV (GP (EG (name:=Fc "__next__") ty Hr (F6 Hr ty K5 ?_ (JI _))));refine gV (m:=field (.ref z) 2) (EZ j rfl (x := .ref i) rfl (gV (Zp.nx_end B hi G hx fun h' x he hs => ?_)));obtain ⟨o,ho,J⟩:=hs;exact gV (GU (T := "StopIteration") (b:=true) ⟨o,ho,J⟩ Kr (q7 (q _ he)))
open AutoSeq1 (wpAny_loadPart') in
theorem wU (l:Addr) (items:Array h6) (n:Nat) (dct:Option Addr) (sl:Array (Option h6)) :
 Meets (G8.«enumerate.__new__» ⟨[.type "enumerate", .ref l],[]⟩) (fun _ R s=>s.heap.get? l=some { cls := .type "tuple",dict:=dct,data := .seq items n,slots:=sl } /\
  R (.ok (.ret (.ref (s.heap.push (Zp.itO true l)).objs.size))) { s with heap:=(s.heap.push (Zp.itO true l)).push { cls := .type "enumerate",data := .fields #[.none, .bool false, .ref s.heap.objs.size,Jy 0, .none, .none] } }) :=
 .of_wp fun prog w A R s h=>by
  obtain ⟨B,g,d,tk,os⟩:=s;obtain ⟨j,h⟩:=h;have q:=sub_enumerate;have z:J1 (H0 ⟨B,g,d,tk,os⟩) l items:=⟨_,j,rfl,n,rfl⟩
  wp_walk using Hk j
  refine wpAny_stack_any fun st=>q7 ?_
  split
  ·rename_i c _ _ _ _ _
   cases (c==Fm "enumerate") <;> (wp_walk using Hk j,FA z;exact ⟨_,rfl,h⟩)
  ·wp_walk using Hk j,FA z
   exact ⟨_,rfl,h⟩
theorem call_enum {t:Bool} {l:Addr} {items:Array h6} {Q:h6->hH->Prop} (B:Zp.Sq t s.heap l items)
 (q:∀ h',K2 h' (s.heap.objs.size+1) s.heap.objs.size 0 .none->Zp.At t h' s.heap.objs.size l 0->(∀ b o,s.heap.get? b=some o->h'.get? b=some o)->Q (.ref (s.heap.objs.size+1)) { s with heap:=h' }) :
 Ec (model prog w) A (call (.type "enumerate") [.ref l]) Q E s:=by
 cases t with
 | false=>exact call_enumerate_list B fun h' a b _ k=>q h' a b k
 | true =>
   obtain ⟨⟨c,dct,dt,sl⟩,J,L,n,hd⟩:=B;have j:c = .type "tuple" := L;have z:dt = .seq items n:=hd;subst j z;refine callType_new F.called_enumerate (by decide) (F.typeCall_enumerate_1 _) (F.newCall_enumerate_1 _) (fun obj=>F.args_object_init_2 obj _) F.entry_enumerate_new (wU l items n dct sl) ⟨J, ?_⟩
   have G:(s.heap.push (Zp.itO true l)).objs.size=s.heap.objs.size+1:=FH ..;have e:((s.heap.push (Zp.itO true l)).push { cls := .type "enumerate",data := .fields #[.none, .bool false, .ref s.heap.objs.size,Jy 0, .none, .none] }).get? (s.heap.push (Zp.itO true l)).objs.size=some _:=E1 _ rfl;rw [G] at e;show _/\_;rw [G];exact ⟨⟨_,e,rfl⟩,q _ e (Zp.at_new (h7 _ (E1 _ rfl))) fun b o x=>h7 _ (h7 _ x)⟩
end
end En
open PySem PySem.Spec PyProof.Rows
noncomputable def Ite (K:Frag) (t:Bool) (a:Addr):It :=
 ⟨fun i H => ∃ xs x,SqV K t H a xs/\xs[i]? = some x,
  fun i H v H' => ∃ p x,H p=none/\v = .ref p/\H'=upd H p (.tup [.int (i:Nat),x]) /\ ∀ xs,SqV K t H a xs->xs[i]? = some x,
  fun i H => ∃ xs,SqV K t H a xs/\xs.length<=i⟩
theorem qV {P:Ep} {w:EM} {K:Frag} {elts:List Expr} {cx} {pos:Pos} {t:Bool} {z i a:Addr} (B:z≠i) :
 eT P w K (.Tuple elts cx pos) (Ite K t a) [z,i] z (fun k h=>(∃ old,K2 h z i k old)/\Zp.At t h i a k) where
 mem:=by simp
 obj:=fun k h ⟨⟨old,q⟩,hi⟩ c j=>by
  simp only [Eb,EL,or_false] at j
  rcases j with rfl | rfl
  ·exact ⟨_,q,fun v e=>by cases e⟩
  ·exact hi.lt
 keep:=fun k h h' ⟨⟨old,q⟩,hi⟩ kk=>⟨⟨old,kk z (by simp) _ q⟩,hi.up fun o e=>kk i (by simp) o e⟩
 item:=by
  intro X F hw G j k pins s σ H E I hf st hg;subst F hw G;obtain ⟨⟨old,q⟩,hi⟩:=st;obtain ⟨xs,x,qx,ex⟩:=hg;obtain ⟨is,rx,px⟩:=I.sqv qx;obtain ⟨ux,J,rux⟩:=rx.get ex;refine En.nxt_item q hi px (by simpa using J) B fun h1 Y Z p1 L=>⟨_,rfl, ?_⟩
  refine wpAny_letOwnedTupleGo_enum (s := { s with heap:=h1,toks:=s.toks+1 }) Y fun h2 z2 s2 => ?_
  have lt:∀ {c o},s.heap.get? c=some o->c≠s.heap.objs.size:=fun e=>EJ (E6 e);have nz:s.heap.objs.size≠z:=(lt q).symm;have O:∃ o,s.heap.get? i=some o:=hi.lt.imp fun _ h=>h.1;have up:∀ c o,c≠z->h1.get? c=some o->h2.get? c=some o:=fun c o n e=>s2.extBut _ _ n e;have IL:Inv X pins σ (upd H s.heap.objs.size (.tup [.int (k:Nat),x])) { s with heap:=s.heap.push { cls := .type "tuple",data := .seq #[.int k s.toks,ux] },toks:=s.toks+1 } :=
   I.laid (fun b o e=>h7 _ e) (E3 _) ⟨by rw [D1];simp,[.int k s.toks,ux], .cons ⟨_,rfl⟩ (.cons rux .nil),J7 _ _⟩
  have fr:∀ c∈[z,i],c≠s.heap.objs.size:=fun c j=>by
   simp only [Eb,EL,or_false] at j
   rcases j with rfl | rfl
   ·exact lt q
   ·obtain ⟨o,e⟩:=O;exact lt e
  have un:∀ c∈[z,i],upd H s.heap.objs.size (.tup [.int (k:Nat),x]) c=none:=fun c j=>by
   rw [aj (fr c j)];exact (hf c j).1
  have kk:∀ c o,c∉[z,i]->(s.heap.push { cls := .type "tuple",data := .seq #[.int k s.toks,ux] }).get? c=some o->h2.get? c=some o:=fun c o j e=>by
   simp only [Eb,EL,or_false,not_or] at j
   rcases Kt e with ⟨rfl,rfl⟩ | e
   ·exact up _ _ nz p1
   ·exact up _ _ j.1 (L c o j.1 j.2 e)
  have I2:Inv X pins σ (upd H s.heap.objs.size (.tup [.int (k:Nat),x])) { s with heap:=h2,toks:=s.toks+1 } :=
   Inv.turnedL (s := { s with heap:=s.heap.push { cls := .type "tuple",data := .seq #[.int k s.toks,ux] },toks:=s.toks+1 }) (h':=h2) (t':=s.toks+1) (fp := [z,i]) IL (fun c j=>⟨un c j,(hf c j).2⟩) kk
  refine ⟨.ref s.heap.objs.size,_,I2,rfl,⟨_,x,I.hok.fresh (E3 _),rfl,rfl,fun xs' q1 => ?_⟩,⟨⟨ux,by simpa using z2⟩,Z.up fun o e=>up _ o B.symm e⟩,un⟩
  rw [I.sqv_inj q1 qx];exact ex
 done:=by
  intro X F hw G j k pins s σ H E I hf st hg;subst F hw G;obtain ⟨⟨old,q⟩,hi⟩:=st;obtain ⟨xs,qx,U⟩:=hg;obtain ⟨is,rx,px⟩:=I.sqv qx;have lx:=rx.length;refine En.nxt_end (I.ok.hd j) q hi px (by simp;lia) fun h1 L=>⟨rfl,I.turnedL (t':=s.toks) hf fun c o j e => ?_⟩
  simp only [Eb,EL,or_false,not_or] at j;exact L c o j.2 e
 self:=fun A k s Q E ⟨⟨old,q⟩,_⟩ h=>LG q h
section
variable {X:Cx}
noncomputable def AL (K:Frag) (ta:TA):TI:=fun σ H R=>ta σ H fun vs H1 => ∃ a t xs,vs=[.ref a]/\SqV K t H1 a xs/\R (Ite K t a) H1
theorem wV {elts:List Expr} {cx} {pos p pos':Pos} {a:Expr} {ta:TA} (F:Gl X "enumerate") (hm:X.mg "enumerate" = none) (G:PA X [a] ta) (hs:Et [a] X.env=[(false,eval a X.env)]) :
 PI X (.Tuple elts cx pos) (.Call (.Name "enumerate" p) [a] [] pos') (AL X.K ta):=by
 intro pins s σ H R I h;refine Call_ (di I F hm (u := .type "enumerate") boot_enumerate (FE (thn (G pos' pins s σ H _ I h) fun us s1 ⟨vs,H1,j,J,L⟩ => ?_) hs rfl));obtain ⟨a',t,xs,rfl,qx,q⟩:=L
 cases J with
 | cons r rr =>
   cases rr
   cases r
   obtain ⟨is,rx,px⟩:=j.sqv qx;refine En.call_enum px fun h1 z O U => ?_;refine LG z ?_;refine ⟨_,_,_,_,H1,rfl,j.kept (t':=s1.toks) U,qV (t:=t) (a:=a') (by simp),⟨⟨_,z⟩,O⟩,fun c B => ?_,q⟩
   have hle:s1.heap.objs.size<=c:=by
    simp only [Eb,EL,or_false] at B
    rcases B with rfl | rfl <;> lia
   exact j.fpOk hle (j.hok.fresh hle)
end
end L2
namespace L2
namespace Rv
open PySem PySem.Spec PyProof.Rows
end Rv
open PySem PySem.Spec PyProof.Rows
end L2
namespace L2
namespace Mi
open PySem PySem.Spec PyProof.Rows
section
inductive D where
 | non | bl (b:Bool) | int (i:Int) | str (x:Str) | tup (ds:List D) | con (ds:List D) | ref (a:Addr) | fn (x:Str)
inductive O where
 | lst (ds:List D)
 | dct (t:Bool) (kvs:List (D×D))
 | fdc (kvs:List (D×D))
noncomputable abbrev Mem:=Addr->Option O
noncomputable def fz:Option O->Bool
 | some (.lst _)=>false
 | some (.dct _ _)=>false
 | _=>true
noncomputable abbrev ao:=List (Option D)
noncomputable def ag (M:Mem) (a:Addr) (o:O):Mem:=fun b=>if b=a then some o else M b
theorem aa {M:Mem} {a:Addr} {o:O}:ag M a o a=some o:=by unfold ag;rw [if_pos rfl]
theorem aq {M:Mem} {a b:Addr} {o:O} (h:b≠a):ag M a o b=M b:=by unfold ag;rw [if_neg h]
def SqF (K:Frag) (H:Hp) (a:Addr) (xs:List V):Prop :=
 (∃ o,H a=some (.frz o (.lst xs))) ∨
  ∃ (o:Obj) (its:Array h6) (n:Nat),K.lookup a=some o/\o.cls = .type "list" /\ o.dict=none/\o.data = .seq its n/\its.size<=DY/\Vals xs its.toList
theorem SqF.sq {K:Frag} {H:Hp} {a:Addr} {xs:List V} (h:SqF K H a xs):SqL K H a xs:=by
 rcases h with ⟨o,h⟩ | h
 ·exact .inl (.inr ⟨o,h⟩)
 ·exact .inr h
noncomputable def fk2:Bool:=true
noncomputable def fk3:Bool:=true
noncomputable def fk:List D->Bool
 | [.int _, .int _, .int _] => true
 | [.tup _,_] => true
 | [.int _,_] => fk2
 | [] => false
 | _=>fk3
def TupR (K:Frag) (H:Hp) (ds:List D) (a:Addr) (vs:List V):Prop:=H a=some (.tup vs)∨(fk ds=false/\SqT K H a vs)
theorem TupR.sq {K:Frag} {H:Hp} {ds:List D} {a:Addr} {vs:List V} (h:TupR K H ds a vs):SqT K H a vs:=h.elim SqT.of (·.2)
mutual
noncomputable def RD (K:Frag) (H:Hp):D->V->Prop
 | .non,v=>v = .non
 | .bl b,v=>v = .bl b
 | .int i,v=>v = .int i
 | .str x,v=>v = .str x
 | .tup ds,v => ∃ a vs,v = .ref a/\TupR K H ds a vs/\RDs K H ds vs
 | .con ds,v => ∃ a vs,v = .ref a/\SqF K H a vs/\RDs K H ds vs
 | .ref a,v=>v = .ref a
 | .fn x,v => ∃ f,v = .ref f/\J2 K Fn x=some (some (.ref f))
noncomputable def RDs (K:Frag) (H:Hp):List D->List V->Prop
 | [],vs=>vs=[]
 | d::ds,vs => ∃ v r,vs=v::r/\RD K H d v/\RDs K H ds r
end
structure Stab (H H':Hp):Prop where
 tup:∀ a xs,H a=some (.tup xs)->H' a=some (.tup xs)
 frz:∀ a o u,H a=some (.frz o u)->H' a=some (.frz o u)
theorem Stab.sqT {K:Frag} {H H':Hp} (st:Stab H H') {a:Addr} {xs:List V} (h:SqT K H a xs):SqT K H' a xs:=by
 rcases h with (h | ⟨o,h⟩) | h
 ·exact .inl (.inl (st.tup _ _ h))
 ·exact .inl (.inr ⟨o,st.frz _ _ _ h⟩)
 ·exact .inr h
theorem Stab.sqF {K:Frag} {H H':Hp} (st:Stab H H') {a:Addr} {xs:List V} (h:SqF K H a xs):SqF K H' a xs:=by
 rcases h with ⟨o,h⟩ | h
 ·exact .inl ⟨o,st.frz _ _ _ h⟩
 ·exact .inr h
mutual
theorem RD.mono {K:Frag} {H H':Hp} (st:Stab H H'):∀ {d:D} {v:V},RD K H d v->RD K H' d v
 | .non,_,h=>h
 | .bl _,_,h=>h
 | .int _,_,h=>h
 | .str _,_,h=>h
 | .tup ds,v,h=>by
  unfold RD at h ⊢;obtain ⟨a,vs,e,q,r⟩:=h;exact ⟨a,vs,e,q.imp (st.tup _ _) (fun z=>⟨z.1,st.sqT z.2⟩),RDs.mono st r⟩
 | .con ds,v,h=>by
  unfold RD at h ⊢;obtain ⟨a,vs,e,q,r⟩:=h;exact ⟨a,vs,e,st.sqF q,RDs.mono st r⟩
 | .ref _,_,h=>h
 | .fn _,_,h=>by unfold RD at h ⊢;exact h
theorem RDs.mono {K:Frag} {H H':Hp} (st:Stab H H'):∀ {ds:List D} {vs:List V},RDs K H ds vs->RDs K H' ds vs
 | [],_,h=>h
 | d::ds,vs,h=>by
   unfold RDs at h ⊢;obtain ⟨v,r,e,h1,h2⟩:=h;exact ⟨v,r,e,RD.mono st h1,RDs.mono st h2⟩
end
section
variable {K:Frag} {H H':Hp}
theorem Nk {i:Int} {v:V}:RD K H (.int i) v↔v = .int i:=by unfold RD;exact KO
theorem Np {b:Bool} {v:V}:RD K H (.bl b) v↔v = .bl b:=by unfold RD;exact KO
theorem Nu {v:V}:RD K H .non v↔v = .non:=by unfold RD;exact KO
theorem Nv {x:Str} {v:V}:RD K H (.str x) v↔v = .str x:=by unfold RD;exact KO
theorem Nl {a:Addr} {v:V}:RD K H (.ref a) v↔v = .ref a:=by unfold RD;exact KO
theorem NA {ds:List D} {v:V}:RD K H (.tup ds) v ↔ ∃ a vs,v = .ref a/\TupR K H ds a vs/\RDs K H ds vs:=by rw [RD]
theorem Nx {ds:List D} {v:V} (h:∃ a vs,v = .ref a/\H a=some (.tup vs)/\RDs K H ds vs):RD K H (.tup ds) v:=NA.mpr (let ⟨a,vs,e,h,r⟩:=h; ⟨a,vs,e, .inl h,r⟩)
theorem Nt {ds:List D} {v:V} (h:RD K H (.tup ds) v):∃ a vs,v = .ref a/\SqT K H a vs/\RDs K H ds vs:=let ⟨a,vs,e,h,r⟩:=NA.mp h; ⟨a,vs,e,h.sq,r⟩
theorem Nz {ds:List D} {v:V} (f:fk ds=true) (h:RD K H (.tup ds) v):∃ a vs,v = .ref a/\H a=some (.tup vs)/\RDs K H ds vs:=let ⟨a,vs,e,h,r⟩:=NA.mp h; ⟨a,vs,e,h.elim id fun z=>(by rw [f] at z;cases z.1),r⟩
theorem Nr {ds:List D} {v:V}:RD K H (.con ds) v ↔ ∃ a vs,v = .ref a/\SqF K H a vs/\RDs K H ds vs:=by rw [RD]
theorem RDs.nil_iff {vs:List V}:RDs K H [] vs↔vs=[]:=by rw [RDs]
theorem Nm {d:D} {ds:List D} {vs:List V}:RDs K H (d::ds) vs ↔ ∃ v r,vs=v::r/\RD K H d v/\RDs K H ds r:=by rw [RDs]
theorem RDs.nil:RDs K H [] []:=RDs.nil_iff.mpr rfl
theorem RDs.cons {d:D} {ds:List D} {v:V} {vs:List V} (h:RD K H d v) (r:RDs K H ds vs):RDs K H (d::ds) (v::vs):=Nm.mpr ⟨v,vs,rfl,h,r⟩
theorem RDs.length:∀ {ds:List D} {vs:List V},RDs K H ds vs->vs.length=ds.length
 | [],_,h=>by rw [RDs.nil_iff.mp h];rfl
 | d::ds,_,h=>by
   obtain ⟨v,r,rfl,_,h2⟩:=Nm.mp h;simp [RDs.length h2]
theorem RDs.get:∀ {ds:List D} {vs:List V} {i:Nat} {d:D},RDs K H ds vs->ds[i]? = some d -> ∃ v,vs[i]? = some v/\RD K H d v
 | [],_,_,_,_,e=>by simp at e
 | d::ds,_,0,d',h,e=>by
   obtain ⟨v,r,rfl,h1,h2⟩:=Nm.mp h;simp at e;subst e;exact ⟨v,rfl,h1⟩
 | d::ds,_,i+1,d',h,e=>by
   obtain ⟨v,r,rfl,h1,h2⟩:=Nm.mp h;obtain ⟨u,j,q⟩:=RDs.get (i:=i) (d:=d') h2 (by simpa using e)
   exact ⟨u,by simpa using j,q⟩
theorem RDs.getV {ds:List D} {vs:List V} {i:Nat} {v:V} (h:RDs K H ds vs) (e:vs[i]? = some v):∃ d,ds[i]? = some d/\RD K H d v:=by
 have z:=h.length;have hi:i < vs.length:=(DZ.mp e).1;obtain ⟨d,hd⟩:∃ d,ds[i]? = some d:=⟨ds[i]'(by lia),D0 (by lia)⟩
 obtain ⟨u,j,q⟩:=h.get hd;rw [e] at j;cases j;exact ⟨d,hd,q⟩
theorem RDs.append:∀ {ds es:List D} {vs us:List V},RDs K H ds vs->RDs K H es us->RDs K H (ds++es) (vs++us)
 | [],_,_,_,h,q=>by rw [RDs.nil_iff.mp h];exact q
 | d::ds,_,_,_,h,q=>by
   obtain ⟨v,r,rfl,h1,h2⟩:=Nm.mp h;exact RDs.cons h1 (RDs.append h2 q)
theorem RDs.take:∀ {ds:List D} {vs:List V} (n:Nat),RDs K H ds vs->RDs K H (ds.take n) (vs.take n)
 | [],_,n,h=>by rw [RDs.nil_iff.mp h];simp;exact RDs.nil
 | _::_,_,0,h=>by simp;exact RDs.nil
 | d::ds,_,n+1,h=>by
   obtain ⟨v,r,rfl,h1,h2⟩:=Nm.mp h;exact RDs.cons h1 (RDs.take n h2)
theorem RDs.drop:∀ {ds:List D} {vs:List V} (n:Nat),RDs K H ds vs->RDs K H (ds.drop n) (vs.drop n)
 | [],_,n,h=>by rw [RDs.nil_iff.mp h];simp;exact RDs.nil
 | d::ds,_,0,h=>h
 | d::ds,_,n+1,h=>by
   obtain ⟨v,r,rfl,h1,h2⟩:=Nm.mp h;exact RDs.drop n h2
theorem RDs.set:∀ {ds:List D} {vs:List V} (n:Nat) {d:D} {v:V},RD K H d v->RDs K H ds vs->RDs K H (ds.set n d) (vs.set n v)
 | [],_,n,_,_,_,h=>by rw [RDs.nil_iff.mp h];exact RDs.nil
 | d::ds,_,0,_,_,q,h=>by
   obtain ⟨v,r,rfl,h1,h2⟩:=Nm.mp h;exact RDs.cons q h2
 | d::ds,_,n+1,_,_,q,h=>by
   obtain ⟨v,r,rfl,h1,h2⟩:=Nm.mp h;exact RDs.cons h1 (RDs.set n q h2)
theorem RDs.rep {ds:List D} {vs:List V} (h:RDs K H ds vs):∀ k:Nat,RDs K H (DU k ds).flatten (DU k vs).flatten
 | 0=>RDs.nil
 | k+1=>by
   rw [Fd,Fd,F8,F8];exact h.append (h.rep k)
theorem NI:∀ (ns:List Int),RDs K H (ns.map D.int) (ns.map V.int)
 | [] => RDs.nil
 | n::ns=>RDs.cons (Nk.mpr rfl) (NI ns)
end
mutual
noncomputable def D.eqb:D->D->Bool
 | .non, .non=>true
 | .bl a, .bl b=>a==b
 | .int a, .int b=>decide (a=b)
 | .str a, .str b=>decide (a=b)
 | .tup a, .tup b=>D.eqbs a b
 | .con a, .con b=>D.eqbs a b
 | .ref a, .ref b=>decide (a=b)
 | .fn a, .fn b=>decide (a=b)
 | _,_=>false
noncomputable def D.eqbs:List D->List D->Bool
 | [],[] => true
 | a::r,b::s=>D.eqb a b&&D.eqbs r s
 | _,_=>false
end
mutual
theorem NH:∀ (a b:D),D.eqb a b=true->a=b
 | .non, .non,_=>rfl
 | .bl a, .bl b,h=>by simp [D.eqb] at h;rw [h]
 | .int a, .int b,h=>by simp [D.eqb] at h;rw [h]
 | .str a, .str b,h=>by simp [D.eqb] at h;rw [h]
 | .tup a, .tup b,h=>by simp [D.eqb] at h;rw [ND a b h]
 | .con a, .con b,h=>by simp [D.eqb] at h;rw [ND a b h]
 | .ref a, .ref b,h=>by simp [D.eqb] at h;rw [h]
 | .fn a, .fn b,h=>by simp [D.eqb] at h;rw [h]
 | .non, .bl _,h=>by simp [D.eqb] at h
 | .non, .int _,h=>by simp [D.eqb] at h
 | .non, .str _,h=>by simp [D.eqb] at h
 | .non, .tup _,h=>by simp [D.eqb] at h
 | .non, .con _,h=>by simp [D.eqb] at h
 | .non, .ref _,h=>by simp [D.eqb] at h
 | .non, .fn _,h=>by simp [D.eqb] at h
 | .bl _, .non,h=>by simp [D.eqb] at h
 | .bl _, .int _,h=>by simp [D.eqb] at h
 | .bl _, .str _,h=>by simp [D.eqb] at h
 | .bl _, .tup _,h=>by simp [D.eqb] at h
 | .bl _, .con _,h=>by simp [D.eqb] at h
 | .bl _, .ref _,h=>by simp [D.eqb] at h
 | .bl _, .fn _,h=>by simp [D.eqb] at h
 | .int _, .non,h=>by simp [D.eqb] at h
 | .int _, .bl _,h=>by simp [D.eqb] at h
 | .int _, .str _,h=>by simp [D.eqb] at h
 | .int _, .tup _,h=>by simp [D.eqb] at h
 | .int _, .con _,h=>by simp [D.eqb] at h
 | .int _, .ref _,h=>by simp [D.eqb] at h
 | .int _, .fn _,h=>by simp [D.eqb] at h
 | .str _, .non,h=>by simp [D.eqb] at h
 | .str _, .bl _,h=>by simp [D.eqb] at h
 | .str _, .int _,h=>by simp [D.eqb] at h
 | .str _, .tup _,h=>by simp [D.eqb] at h
 | .str _, .con _,h=>by simp [D.eqb] at h
 | .str _, .ref _,h=>by simp [D.eqb] at h
 | .str _, .fn _,h=>by simp [D.eqb] at h
 | .tup _, .non,h=>by simp [D.eqb] at h
 | .tup _, .bl _,h=>by simp [D.eqb] at h
 | .tup _, .int _,h=>by simp [D.eqb] at h
 | .tup _, .str _,h=>by simp [D.eqb] at h
 | .tup _, .con _,h=>by simp [D.eqb] at h
 | .tup _, .ref _,h=>by simp [D.eqb] at h
 | .tup _, .fn _,h=>by simp [D.eqb] at h
 | .con _, .non,h=>by simp [D.eqb] at h
 | .con _, .bl _,h=>by simp [D.eqb] at h
 | .con _, .int _,h=>by simp [D.eqb] at h
 | .con _, .str _,h=>by simp [D.eqb] at h
 | .con _, .tup _,h=>by simp [D.eqb] at h
 | .con _, .ref _,h=>by simp [D.eqb] at h
 | .con _, .fn _,h=>by simp [D.eqb] at h
 | .ref _, .non,h=>by simp [D.eqb] at h
 | .ref _, .bl _,h=>by simp [D.eqb] at h
 | .ref _, .int _,h=>by simp [D.eqb] at h
 | .ref _, .str _,h=>by simp [D.eqb] at h
 | .ref _, .tup _,h=>by simp [D.eqb] at h
 | .ref _, .con _,h=>by simp [D.eqb] at h
 | .ref _, .fn _,h=>by simp [D.eqb] at h
 | .fn _, .non,h=>by simp [D.eqb] at h
 | .fn _, .bl _,h=>by simp [D.eqb] at h
 | .fn _, .int _,h=>by simp [D.eqb] at h
 | .fn _, .str _,h=>by simp [D.eqb] at h
 | .fn _, .tup _,h=>by simp [D.eqb] at h
 | .fn _, .con _,h=>by simp [D.eqb] at h
 | .fn _, .ref _,h=>by simp [D.eqb] at h
theorem ND:∀ (a b:List D),D.eqbs a b=true->a=b
 | [],[],_=>rfl
 | a::r,b::s,h=>by
   simp [D.eqbs] at h;rw [NH a b h.1,ND r s h.2]
 | [],_::_,h=>by simp [D.eqbs] at h
 | _::_,[],h=>by simp [D.eqbs] at h
end
mutual
theorem NF:∀ (a:D),D.eqb a a=true
 | .non=>rfl
 | .bl _=>by simp [D.eqb]
 | .int _=>by simp [D.eqb]
 | .str _=>by simp [D.eqb]
 | .tup a=>by simp [D.eqb,Ny a]
 | .con a=>by simp [D.eqb,Ny a]
 | .ref _=>by simp [D.eqb]
 | .fn _=>by simp [D.eqb]
theorem Ny:∀ (a:List D),D.eqbs a a=true
 | [] => rfl
 | a::r=>by simp [D.eqbs,NF a,Ny r]
end
noncomputable instance:DecidableEq D:=fun a b=>if h:D.eqb a b=true then isTrue (NH a b h) else isFalse fun e=>h (by rw [e];exact NF b)
noncomputable def RKey:D->Key->Prop
 | .int i,k=>k = .inl i
 | .str x,k=>k = .inr x
 | _,_=>False
noncomputable def RKeys:D->List Key->Prop
 | .tup ds,ks=>ES RKey ds ks
 | _,_=>False
noncomputable def dget (kvs:List (D×D)) (k:D):Option D:=(kvs.find? fun p=>decide (p.1=k)).map (·.2)
noncomputable def bM (kvs:List (D×D)) (k v:D):List (D×D):=if (kvs.any fun p=>decide (p.1=k))=true then kvs.map (fun p=>if p.1=k then (p.1,v) else p) else kvs++[(k,v)]
noncomputable def cP:D->Bool
 | .int _=>true
 | .str _=>true
 | _=>false
noncomputable def bu:D->Bool
 | .tup ds=>ds.all cP&&fk ds
 | _=>false
noncomputable def eA (t:Bool) (k:D):Bool:=if t then bu k else cP k
theorem kL {k:D} (h:cP k=true):∃ q,RKey k q:=by
 cases k <;> first | (simp [cP] at h;done) | exact ⟨_,rfl⟩
theorem nT:∀ {ds:List D},ds.all cP=true -> ∃ ks,ES RKey ds ks
 | [],_=>⟨[], .nil⟩
 | d::ds,h=>by
   simp only [IC,hW] at h;obtain ⟨k,j⟩:=kL h.1;obtain ⟨ks,hs⟩:=nT h.2;exact ⟨k::ks, .cons j hs⟩
theorem fH {k:D} (h:bu k=true):∃ q,RKeys k q:=by
 cases k <;> first | (simp [bu] at h;done) | exact nT (Ku.mp h).1
theorem fI {ds:List D} (h:bu (.tup ds)=true):fk ds=true:=(Ku.mp h).2
noncomputable def RO (K:Frag) (H:Hp) (a:Addr):O->Prop
 | .lst ds => ∃ vs,H a=some (.lst vs)/\RDs K H ds vs
 | .dct false kvs => ∃ ps,H a=some (.dK ps)/\ES (fun (p:D×D) (q:Key×V)=>RKey p.1 q.1/\RD K H p.2 q.2) kvs ps
 | .dct true kvs => ∃ ps,H a=some (.dT ps)/\ES (fun (p:D×D) (q:List Key×V)=>RKeys p.1 q.1/\RD K H p.2 q.2) kvs ps
 | .fdc kvs => ∃ o ps,H a=some (.frz o (.dT ps))/\ES (fun (p:D×D) (q:List Key×V)=>RKeys p.1 q.1/\RD K H p.2 q.2) kvs ps
def RM (K:Frag) (M:Mem) (H:Hp):Prop := ∀ a o,M a=some o->RO K H a o
def RS (K:Frag) (H:Hp) (σ:St) (ρ:ao):Prop := σ.length = ρ.length /\ ∀ (i:Nat) (d:D), ρ[i]? = some (some d) -> ∃ v, σ[i]? = some (some v)/\RD K H d v
structure Ext (M:Mem) (H:Hp) (M':Mem) (H':Hp):Prop where
 kp:∀ a o,fz (M a)=true->H a=some o->H' a=some o
 nw:∀ a o,fz (M a)=true->H a=some o->M' a=M a
section
variable {K:Frag} {M M' M'':Mem} {H H' H'':Hp}
theorem Ext.keep (x:Ext M H M' H') (a:Addr) (o:HO) (n:M a=none) (e:H a=some o):H' a=some o:=x.kp a o (by rw [n];rfl) e
theorem Ext.new (x:Ext M H M' H') (a:Addr) (o:HO) (n:M a=none) (e:H a=some o):M' a=none:=(x.nw a o (by rw [n];rfl) e).trans n
theorem Ext.refl:Ext M H M H:=⟨fun _ _ _ h=>h,fun _ _ _ _=>rfl⟩
theorem Ext.trans (a:Ext M H M' H') (b:Ext M' H' M'' H''):Ext M H M'' H'' :=
 ⟨fun c o n h=>b.kp c o (by rw [a.nw c o n h];exact n) (a.kp c o n h),fun c o n h=>(b.nw c o (by rw [a.nw c o n h];exact n) (a.kp c o n h)).trans (a.nw c o n h)⟩
theorem RM.mut (r:RM K M H) {a:Addr} {o:O} (h:M a=some o):∃ ho,H a=some ho/\(∀ xs,ho ≠ .tup xs)/\(fz (some o)=false->Mut (some ho) /\ ∀ ob u,ho ≠ .frz ob u):=by
 have q:=r a o h
 cases o with
 | lst ds =>
   obtain ⟨vs,e,_⟩:=q;exact ⟨_,e,fun _ z=>(by cases z),fun _=>⟨trivial,fun _ _ z=>(by cases z)⟩⟩
 | dct t kvs =>
   cases t with
   | false=>obtain ⟨ps,e,_⟩:=q;exact ⟨_,e,fun _ z=>(by cases z),fun _=>⟨trivial,fun _ _ z=>(by cases z)⟩⟩
   | true=>obtain ⟨ps,e,_⟩:=q;exact ⟨_,e,fun _ z=>(by cases z),fun _=>⟨trivial,fun _ _ z=>(by cases z)⟩⟩
 | fdc kvs=>obtain ⟨ob,ps,e,_⟩:=q;exact ⟨_,e,fun _ z=>(by cases z),fun z=>(by cases z)⟩
theorem RM.fzT (r:RM K M H) {a:Addr} {xs:List V} (e:H a=some (.tup xs)):M a=none:=by
 cases q:M a with
 | none=>rfl
 | some o =>
   obtain ⟨ho,j,z,_⟩:=r.mut q;rw [e] at j;cases j;exact absurd rfl (z xs)
theorem RM.fzF (r:RM K M H) {a:Addr} {ob:Obj} {u:HO} (e:H a=some (.frz ob u)):fz (M a)=true:=by
 cases q:M a with
 | none=>rfl
 | some o =>
   obtain ⟨ho,j,_,B⟩:=r.mut q;rw [e] at j;cases j
   cases z:fz (some o) with
   | true=>rfl
   | false=>exact absurd rfl ((B z).2 ob u)
theorem RM.out (r:RM K M H) {a:Addr} (h:H a=none):M a=none:=by
 cases e:M a with
 | none=>rfl
 | some o =>
   obtain ⟨ho,q,_⟩:=r.mut e;rw [h] at q;cases q
theorem Ext.stab (r:RM K M H) (x:Ext M H M' H'):Stab H H' where
 tup:=fun a xs e=>x.keep a _ (r.fzT e) e
 frz:=fun a o u e=>x.kp a _ (r.fzF e) e
theorem RS.mono (st:Stab H H') {σ:St} {ρ:ao} (h:RS K H σ ρ):RS K H' σ ρ :=
 ⟨h.1,fun i d e=>let ⟨v,q,r⟩:=h.2 i d e; ⟨v,q,r.mono st⟩⟩
theorem RS.set {σ:St} {ρ:ao} (h:RS K H σ ρ) (i:Nat) {d:D} {v:V} (r:RD K H d v):RS K H (σ.set i (some v)) (ρ.set i (some d)):=by
 refine ⟨by simp [h.1],fun j e q => ?_⟩
 by_cases hij:i=j
 ·subst hij;have hi:i < ρ.length:=by
   have:=(DZ.mp q).1;simpa using this
  rw [Gm hi] at q
  cases q
  exact ⟨v,by rw [Gm (by rw [h.1];exact hi)],r⟩
 ·rw [Hv hij] at q ⊢;exact h.2 j e q
noncomputable def ja (fr:List (Option Nat)) (ρ:ao):ao:=fr.map fun o=>o.bind fun j=>(ρ[j]?).join
theorem RS.inh {σ:St} {ρ:ao} (h:RS K H σ ρ) (fr:List (Option Nat)):RS K H (inh fr σ) (ja fr ρ):=by
 refine ⟨by simp [L2.inh,ja],fun i d e => ?_⟩
 unfold ja at e;unfold L2.inh;rw [Eo] at e ⊢
 cases q:fr[i]? with
 | none=>rw [q] at e;cases e
 | some o =>
   rw [q] at e
   cases o with
   | none=>cases e
   | some j =>
     have e':some ((ρ[j]?).join)=some (some d):=e
     cases q' : ρ[j]? with
     | none=>rw [q'] at e';cases e'
     | some w =>
       rw [q'] at e'
       cases e'
       obtain ⟨v,v1,v2⟩:=h.2 j d q';exact ⟨v,by simp [v1],v2⟩
theorem RO.mono (st:Stab H H') {a:Addr} {o:O} (h:RO K H a o) (e:∀ ho,H a=some ho->H' a=some ho):RO K H' a o:=by
 cases o with
 | lst ds=>obtain ⟨vs,q,r⟩:=h;exact ⟨vs,e _ q,r.mono st⟩
 | dct t kvs =>
   cases t with
   | false=>obtain ⟨ps,q,r⟩:=h;exact ⟨ps,e _ q,Nq r fun _ _ z=>⟨z.1,z.2.mono st⟩⟩
   | true=>obtain ⟨ps,q,r⟩:=h;exact ⟨ps,e _ q,Nq r fun _ _ z=>⟨z.1,z.2.mono st⟩⟩
 | fdc kvs=>obtain ⟨ob,ps,q,r⟩:=h;exact ⟨ob,ps,e _ q,Nq r fun _ _ z=>⟨z.1,z.2.mono st⟩⟩
theorem RM.new {p:Addr} {ho:HO} (r:RM K M H) (n:H p=none):RM K M (upd H p ho):=fun a o e=>by
 have ne:a≠p:=fun z=>by subst z;obtain ⟨_,q,_⟩:=r.mut e;rw [n] at q;cases q
 refine (r a o e).mono ⟨fun b xs q => ?_,fun b o u q => ?_⟩ fun j q=>by rw [aj ne];exact q
 ·rw [aj (aU q n)];exact q
 ·rw [aj (aU q n)];exact q
theorem Nw {p:Addr} {ho:HO} (n:H p=none):Ext M H M (upd H p ho):=⟨fun a o _ e=>by rw [aj (aU e n)];exact e,fun _ _ _ _=>rfl⟩
theorem RM.lay {p:Addr} {ho:HO} {o:O} (r:RM K M H) (n:H p=none) (h:RO K (upd H p ho) p o):RM K (ag M p o) (upd H p ho):=fun a o' e=>by
 by_cases z:a=p
 ·subst z;rw [aa] at e;cases e;exact h
 ·rw [aq z] at e;exact r.new n a o' e
theorem Ext.lay {p:Addr} {ho:HO} {o:O} (n:H p=none):Ext M H (ag M p o) (upd H p ho) :=
 ⟨fun a u _ e=>by rw [aj (aU e n)];exact e,fun a u m e=>by rw [aq (aU e n)]⟩
theorem RM.put {p:Addr} {ho:HO} {o o0:O} (r:RM K M H) (m:M p=some o0) (h:RO K (upd H p ho) p o) (w:fz (some o0)=false:=by rfl):RM K (ag M p o) (upd H p ho):=fun a o' e=>by
 by_cases z:a=p
 ·subst z;rw [aa] at e;cases e;exact h
 ·rw [aq z] at e;obtain ⟨J,j,B,F⟩:=r.mut m;refine (r a o' e).mono ⟨fun b xs q => ?_,fun b o u q => ?_⟩ fun G q=>by rw [aj z];exact q
  ·rw [aj (fun z=>by subst z;rw [j] at q;cases q;exact B xs rfl)];exact q
  ·rw [aj (fun z=>by subst z;rw [j] at q;cases q;exact (F w).2 o u rfl)];exact q
theorem Ext.put {p:Addr} {ho:HO} {o o0:O} (m:M p=some o0) (w:fz (some o0)=false:=by rfl):Ext M H (ag M p o) (upd H p ho) :=
 ⟨fun a u n e=>by rw [aj (fun z=>by subst z;rw [m,w] at n;cases n)];exact e,fun a u n e=>aq (fun z=>by subst z;rw [m,w] at n;cases n)⟩
theorem RM.stabPut {p:Addr} {ho:HO} {o0:O} (r:RM K M H) (m:M p=some o0) (w:fz (some o0)=false:=by rfl):Stab H (upd H p ho):=(Ext.put (o:=o0) (ho:=ho) m w).stab r
end
noncomputable abbrev QD:=D->Mem->Prop
noncomputable abbrev TEd:=ao->Mem->QD->Prop
noncomputable abbrev TTd:=ao->Mem->(Bool->Mem->Prop)->Prop
noncomputable abbrev TAd:=ao->Mem->(List D->Mem->Prop)->Prop
structure bq where
 nx:ao->Mem->Prop
 rt:QD
 bk:ao->Mem->Prop:=fun _ _=>False
 ct:ao->Mem->Prop:=fun _ _=>False
noncomputable abbrev TSd:=bq->ao->Mem->Prop
def ad (T:TEd):Prop := ∀ ρ M Q Q',(∀ d M',Q d M'->Q' d M')->T ρ M Q->T ρ M Q'
def aF (T:TTd):Prop := ∀ ρ M Q Q',(∀ d M',Q d M'->Q' d M')->T ρ M Q->T ρ M Q'
def aV (T:TAd):Prop := ∀ ρ M Q Q',(∀ d M',Q d M'->Q' d M')->T ρ M Q->T ρ M Q'
structure LeD (a b:bq):Prop where
 nx:∀ ρ M,a.nx ρ M->b.nx ρ M
 rt:∀ d M,a.rt d M->b.rt d M
 bk:∀ ρ M,a.bk ρ M->b.bk ρ M
 ct:∀ ρ M,a.ct ρ M->b.ct ρ M
def aI (T:TSd):Prop := ∀ a b ρ M,LeD a b->T a ρ M->T b ρ M
noncomputable def KE' (K:Frag) (M:Mem) (H:Hp) (Q:VK):QD:=fun d M' => ∀ v H',Ext M H M' H'->RM K M' H'->RD K H' d v->Q v H'
noncomputable def KT' (K:Frag) (M:Mem) (H:Hp) (Q:Bool->Hp->Prop):Bool->Mem->Prop:=fun b M' => ∀ H',Ext M H M' H'->RM K M' H'->Q b H'
noncomputable def KA' (K:Frag) (M:Mem) (H:Hp) (Q:List V->Hp->Prop):List D->Mem->Prop:=fun ds M' => ∀ vs H',Ext M H M' H'->RM K M' H'->RDs K H' ds vs->Q vs H'
noncomputable def lE (K:Frag) (T:TEd):TE:=fun σ H Q => ∃ ρ M,RS K H σ ρ /\ RM K M H/\T ρ M (KE' K M H Q)
noncomputable def lT (K:Frag) (T:TTd):TT:=fun σ H Q => ∃ ρ M,RS K H σ ρ /\ RM K M H/\T ρ M (KT' K M H Q)
noncomputable def lA (K:Frag) (T:TAd):TA:=fun σ H Q => ∃ ρ M,RS K H σ ρ /\ RM K M H/\T ρ M (KA' K M H Q)
structure Link (K:Frag) (M:Mem) (H:Hp) (a:bq) (b:bx):Prop where
 nx:∀ ρ M' σ H',Ext M H M' H'->RS K H' σ ρ -> RM K M' H'->a.nx ρ M'->b.nx σ H'
 rt:∀ d M' v H',Ext M H M' H'->RM K M' H'->RD K H' d v->a.rt d M'->b.rt v H'
 bk:∀ ρ M' σ H',Ext M H M' H'->RS K H' σ ρ -> RM K M' H'->a.bk ρ M'->b.bk σ H'
 ct:∀ ρ M' σ H',Ext M H M' H'->RS K H' σ ρ -> RM K M' H'->a.ct ρ M'->b.ct σ H'
noncomputable def lS (K:Frag) (T:TSd):TS:=fun D σ H => ∃ ρ M A,RS K H σ ρ /\ RM K M H/\Link K M H A D/\T A ρ M
theorem Link.ext {K:Frag} {M M':Mem} {H H':Hp} {a:bq} {b:bx} (l:Link K M H a b) (x:Ext M H M' H'):Link K M' H' a b :=
 ⟨fun ρ M2 σ H2 y=>l.nx ρ M2 σ H2 (x.trans y),fun d M2 v H2 y=>l.rt d M2 v H2 (x.trans y),fun ρ M2 σ H2 y=>l.bk ρ M2 σ H2 (x.trans y),fun ρ M2 σ H2 y=>l.ct ρ M2 σ H2 (x.trans y)⟩
theorem PE.imp {X:Cx} {e:Expr} {t t':TE} (h:PE X e t) (i:∀ σ H Q,t' σ H Q->t σ H Q):PE X e t':=fun pins s σ H Q I q=>h pins s σ H Q I (i _ _ _ q)
theorem PT.imp {X:Cx} {e:Expr} {t t':TT} (h:PT X e t) (i:∀ σ H Q,t' σ H Q->t σ H Q):PT X e t':=fun pins s σ H Q I q=>h pins s σ H Q I (i _ _ _ q)
theorem PW.imp {X:Cx} {e:Expr} {t t':TT} (h:PW X e t) (i:∀ σ H Q,t' σ H Q->t σ H Q):PW X e t':=fun wh pins s σ H Q I q=>h wh pins s σ H Q I (i _ _ _ q)
theorem PA.imp {X:Cx} {e:List Expr} {t t':TA} (h:PA X e t) (i:∀ σ H Q,t' σ H Q->t σ H Q):PA X e t':=fun p pins s σ H Q I q=>h p pins s σ H Q I (i _ _ _ q)
theorem PS.imp {X:Cx} {e:Stmt} {t t':TS} (h:PS X e t) (i:∀ D σ H,t' D σ H->t D σ H):PS X e t':=fun pins s σ H D I q=>h pins s σ H D I (i _ _ _ q)
theorem PSs.imp {X:Cx} {e:List Stmt} {t t':TS} (h:PSs X e t) (i:∀ D σ H,t' D σ H->t D σ H):PSs X e t':=fun pins s σ H D I q=>h pins s σ H D I (i _ _ _ q)
end
section
theorem KE'.ext {K:Frag} {M M2 M':Mem} {H H2:Hp} {Q:VK} {d:D} (x:Ext M H M2 H2) (h:KE' K M H Q d M'):KE' K M2 H2 Q d M':=fun v H' y=>h v H' (x.trans y)
theorem KT'.ext {K:Frag} {M M2 M':Mem} {H H2:Hp} {Q:Bool->Hp->Prop} {d:Bool} (x:Ext M H M2 H2) (h:KT' K M H Q d M'):KT' K M2 H2 Q d M':=fun H' y=>h H' (x.trans y)
noncomputable abbrev R2d:=D->D->Mem->QD->Prop
noncomputable abbrev R1d:=D->Mem->QD->Prop
noncomputable abbrev RAd:=List D->Mem->QD->Prop
def aR (r:R2d):Prop := ∀ x y M Q Q',(∀ d M',Q d M'->Q' d M')->r x y M Q->r x y M Q'
def pA (r:R1d):Prop := ∀ x M Q Q',(∀ d M',Q d M'->Q' d M')->r x M Q->r x M Q'
def aM (r:RAd):Prop := ∀ x M Q Q',(∀ d M',Q d M'->Q' d M')->r x M Q->r x M Q'
noncomputable def l2 (K:Frag) (rd:R2d):R2:=fun v u H Q => ∃ x y M,RM K M H/\RD K H x v/\RD K H y u/\rd x y M (KE' K M H Q)
noncomputable def l1 (K:Frag) (rd:R1d):V->Hp->VK->Prop:=fun v H Q => ∃ x M,RM K M H/\RD K H x v/\rd x M (KE' K M H Q)
noncomputable def lR (K:Frag) (rd:RAd):List V->Hp->VK->Prop:=fun vs H Q => ∃ ds M,RM K M H/\RDs K H ds vs/\rd ds M (KE' K M H Q)
noncomputable def lMt (K:Frag) (rd:D->List D->Mem->QD->Prop):V->List V->Hp->VK->Prop:=fun v vs H Q => ∃ x ds M,RM K M H/\RD K H x v/\RDs K H ds vs/\rd x ds M (KE' K M H Q)
noncomputable def bo (i:Nat):TEd:=fun ρ M Q => ∃ d, ρ[i]? = some (some d)/\Q d M
noncomputable def wC (d:D):TEd:=fun _ M Q=>Q d M
noncomputable def wOp (rd:R2d) (ta tb:TEd):TEd:=fun ρ M Q=>ta ρ M fun x M1=>tb ρ M1 fun y M2=>rd x y M2 Q
noncomputable def wUn (rd:R1d) (ta:TEd):TEd:=fun ρ M Q=>ta ρ M fun x M1=>rd x M1 Q
noncomputable def bU:TAd:=fun _ M Q=>Q [] M
noncomputable def aW (ta:TEd) (tr:TAd):TAd:=fun ρ M Q=>ta ρ M fun x M1=>tr ρ M1 fun xs M2=>Q (x::xs) M2
noncomputable def wAr (rd:RAd) (t:TAd):TEd:=fun ρ M Q=>t ρ M fun ds M1=>rd ds M1 Q
theorem ud {i:Nat}:ad (bo i):=fun _ _ _ _ h ⟨d,e,q⟩=>⟨d,e,h _ _ q⟩
theorem kM {d:D}:ad (wC d):=fun _ _ _ _ h q=>h _ _ q
theorem dN {rd:R2d} {ta tb:TEd} (j:aR rd) (z:ad ta) (B:ad tb):ad (wOp rd ta tb):=fun ρ M Q Q' h q =>
 z _ _ _ _ (fun x J F=>B _ _ _ _ (fun y M2 G=>j _ _ _ _ _ h G) F) q
theorem wW {rd:R1d} {ta:TEd} (j:pA rd) (z:ad ta):ad (wUn rd ta):=fun ρ M Q Q' h q=>z _ _ _ _ (fun x F B=>j _ _ _ _ h B) q
theorem aw:aV bU:=fun _ _ _ _ h q=>h _ _ q
theorem ar {ta:TEd} {tr:TAd} (j:ad ta) (z:aV tr):aV (aW ta tr):=fun ρ M Q Q' h q =>
 j _ _ _ _ (fun x G B=>z _ _ _ _ (fun xs M2 F=>h _ _ F) B) q
theorem fJ {rd:RAd} {t:TAd} (j:aM rd) (z:aV t):ad (wAr rd t):=fun ρ M Q Q' h q=>z _ _ _ _ (fun ds F B=>j _ _ _ _ h B) q
section
variable {X:Cx} {a b:Expr} {ta tb:TEd} {pos:Pos}
theorem zo {i:Nat} {x:Str} (B:X.N[i]? = some x) (j:Vis X.env.scope x) (hd:(x==("__debug__":Str))=false) (z:(x==("__classdict__":Str))=false):PE X (.Name x pos) (lE X.K (bo i)):=by
 refine PE.imp (yC B j hd z) fun σ H Q h => ?_;obtain ⟨ρ,M,rs,rm,d,e,q⟩:=h;obtain ⟨v,j,rd⟩:=rs.2 i d e;exact ⟨v,j,q v H Ext.refl rm rd⟩
theorem le_int {i:Int} {j:Nat}:PE X (.Constant (.int i) j pos) (lE X.K (wC (.int i))) :=
 PE.imp yD fun σ H Q ⟨ρ,M,rs,rm,q⟩=>q _ H Ext.refl rm (Nk.mpr rfl)
theorem AM {i:Bool} {j:Nat}:PE X (.Constant (.bool i) j pos) (lE X.K (wC (.bl i))) :=
 PE.imp Aq fun σ H Q ⟨ρ,M,rs,rm,q⟩=>q _ H Ext.refl rm (Np.mpr rfl)
theorem zp {j:Nat}:PE X (.Constant .none j pos) (lE X.K (wC .non)) :=
 PE.imp yE fun σ H Q ⟨ρ,M,rs,rm,q⟩=>q _ H Ext.refl rm (Nu.mpr rfl)
theorem fK {K:Frag} {rd:R2d} (L:aR rd) (ma:ad ta) (mb:ad tb) (σ:St) (H:Hp) (Q:VK) (h:lE K (wOp rd ta tb) σ H Q):tOp (l2 K rd) (lE K ta) (lE K tb) σ H Q:=by
 obtain ⟨ρ,M,rs,rm,q⟩:=h;refine ⟨ρ,M,rs,rm,ma _ _ _ _ (fun x O U v H1 G j z => ?_) q⟩;refine ⟨ρ,O,rs.mono (G.stab rm),j,mb _ _ _ _ (fun y M2 Y u H2 J B F => ?_) U⟩;exact ⟨x,y,M2,B,z.mono (J.stab j),F,L _ _ _ _ _ (fun d M' k=>k.ext (G.trans J)) Y⟩
theorem AN {op:Lr} {rd:R2d} (ho:OpR X (Fy op) (l2 X.K rd)) (j:aR rd) (ma:ad ta) (mb:ad tb) (q:PE X a (lE X.K ta)) (z:PE X b (lE X.K tb)):PE X (.BinOp a op b pos) (lE X.K (wOp rd ta tb)) :=
 PE.imp (AA ho q z) (fK j ma mb)
theorem zq {op:CmpOp} {rd:R2d} (ho:OpR X (FL op) (l2 X.K rd)) (j:aR rd) (ma:ad ta) (mb:ad tb) (q:PE X a (lE X.K ta)) (z:PE X b (lE X.K tb)) (hm:HG op b=false) :
 PE X (.Compare a [op] [b] pos) (lE X.K (wOp rd ta tb)):=PE.imp (wG ho q z hm) (fK j ma mb)
noncomputable def eX (t:TEd):TTd:=fun ρ M Q=>t ρ M fun x M1 => ∃ k,x = .bl k/\Q k M1
theorem ue {t:TEd} (h:ad t):aF (eX t):=fun ρ M Q Q' i q=>h _ _ _ _ (fun x z ⟨k,e,j⟩=>⟨k,e,i _ _ j⟩) q
theorem uf {K:Frag} {t:TEd} (m:ad t) (σ:St) (H:Hp) (Q:Bool->Hp->Prop) (h:lT K (eX t) σ H Q):vP (lE K t) σ H Q:=by
 obtain ⟨ρ,M,rs,rm,q⟩:=h;refine ⟨ρ,M,rs,rm,m _ _ _ _ (fun x G ⟨k,e,B⟩ v H1 F j z => ?_) q⟩;subst e;exact ⟨k,Np.mp z,B H1 F j⟩
theorem zr {op:CmpOp} {rd:R2d} (ho:OpR X (FL op) (l2 X.K rd)) (j:aR rd) (ma:ad ta) (mb:ad tb) (q:PE X a (lE X.K ta)) (z:PE X b (lE X.K tb)) (hm:HG op b=false) :
 PT X (.Compare a [op] [b] pos) (lT X.K (eX (wOp rd ta tb))) :=
 PT.imp (wH ho q z hm) fun σ H Q h=>by
  have h1:=uf (dN j ma mb) σ H Q h;exact fK j ma mb σ H _ h1
theorem AO {op:UnaryOp} {rd:R1d} (ho:UnR X (unaryOp op) (l1 X.K rd)) (B:pA rd) (ma:ad ta) (F:PE X a (lE X.K ta)):PE X (.UnaryOp op a pos) (lE X.K (wUn rd ta)) :=
 PE.imp (AB ho F) fun σ H Q ⟨ρ,M,rs,rm,q⟩=>⟨ρ,M,rs,rm,ma _ _ _ _ (fun x G J v H1 L j z=>⟨x,G,j,z,B _ _ _ _ (fun d M' k=>k.ext L) J⟩) q⟩
theorem AQ {rd:R2d} (ho:IxR X (l2 X.K rd)) (j:aR rd) (ma:ad ta) (mb:ad tb) (q:PE X a (lE X.K ta)) (z:PE X b (lE X.K tb)) (hs:j8 b):PE X (.Subscript a b pos) (lE X.K (wOp rd ta tb)) :=
 PE.imp (AI ho q z hs) (fK j ma mb)
theorem dq:PA X [] (lA X.K bU):=PA.imp qL fun σ H Q ⟨ρ,M,rs,rm,q⟩=>q _ H Ext.refl rm RDs.nil
theorem qW {K:Frag} {tr:TAd} (ma:ad ta) (mr:aV tr) (σ:St) (H:Hp) (Q:List V->Hp->Prop) (h:lA K (aW ta tr) σ H Q):vQ (lE K ta) (lA K tr) σ H Q:=by
 obtain ⟨ρ,M,rs,rm,q⟩:=h;refine ⟨ρ,M,rs,rm,ma _ _ _ _ (fun x L O v H1 G j z => ?_) q⟩;refine ⟨ρ,L,rs.mono (G.stab rm),j,mr _ _ _ _ (fun xs M2 U vs H2 J B F => ?_) O⟩;exact U (v::vs) H2 (G.trans J) B (RDs.cons (z.mono (J.stab j)) F)
theorem bH {e:Expr} {es:List Expr} {tr:TAd} (ma:ad ta) (mr:aV tr) (j:PE X e (lE X.K ta)) (q:PA X es (lA X.K tr)) (hs:Et (e::es) X.env=(false,eval e X.env)::Et es X.env) :
 PA X (e::es) (lA X.K (aW ta tr)):=PA.imp (j7 j q hs) (qW ma mr)
theorem bb {K:Frag} {rd:RAd} {t:TAd} (B:aM rd) (mt:aV t) (σ:St) (H:Hp) (Q:VK) (h:lE K (wAr rd t) σ H Q):tCB (lR K rd) (lA K t) σ H Q:=by
 obtain ⟨ρ,M,rs,rm,q⟩:=h;exact ⟨ρ,M,rs,rm,mt _ _ _ _ (fun ds F G vs H1 J j z=>⟨ds,F,j,z,B _ _ _ _ (fun d M' k=>k.ext J) G⟩) q⟩
noncomputable def kN:RAd:=fun ds M Q=>ds.length<=DY/\Q (.tup ds) M
noncomputable def kP:RAd:=fun ds M Q=>ds.length<=DY /\ ∀ p,M p=none->Q (.ref p) (ag M p (.lst ds))
theorem qX:aM kN:=fun _ _ _ _ h ⟨z,q⟩=>⟨z,h _ _ q⟩
theorem qY:aM kP:=fun _ _ _ _ h ⟨z,q⟩=>⟨z,fun p n=>h _ _ (q p n)⟩
theorem cY {K:Frag} {M:Mem} {H:Hp} {Q:VK} {ds:List D} {vs:List V} {p:Addr} (rm:RM K M H) (rd:RDs K H ds vs) (q:KE' K M H Q (.tup ds) M) (n:H p=none):Q (.ref p) (upd H p (.tup vs)):=by
 have x:Ext M H M (upd H p (.tup vs)):=Nw n;exact q (.ref p) _ x (rm.new n) (Nx ⟨p,vs,rfl,av,rd.mono (x.stab rm)⟩)
theorem cr {K:Frag} {M:Mem} {H:Hp} {Q:VK} {ds:List D} {vs:List V} {p:Addr} (rm:RM K M H) (rd:RDs K H ds vs) (q:∀ p,M p=none->KE' K M H Q (.ref p) (ag M p (.lst ds))) (n:H p=none):Q (.ref p) (upd H p (.lst vs)):=by
 have x:Ext M H (ag M p (.lst ds)) (upd H p (.lst vs)):=Ext.lay n;have x0:Ext M H M (upd H p (.lst vs)):=Nw n;exact q p (rm.out n) (.ref p) _ x (rm.lay n ⟨vs,av,rd.mono (x0.stab rm)⟩) (Nl.mpr rfl)
theorem zt {es:List Expr} {t:TAd} {k:Nat} (mt:aV t) (h:PA X es (lA X.K t)):PE X (.Tuple es k pos) (lE X.K (wAr kN t)) :=
 PE.imp (zb h) fun σ H Q ⟨ρ,M,rs,rm,q⟩=>⟨ρ,M,rs,rm,mt _ _ _ _ (fun ds J ⟨z,F⟩ vs H1 G B j=>⟨by rw [j.length];exact z,fun p n=>cY B j (F.ext G) n⟩) q⟩
theorem zu {es:List Expr} {t:TAd} (mt:aV t) (h:PA X es (lA X.K t)):PE X (.List es pos) (lE X.K (wAr kP t)) :=
 PE.imp (zc h) fun σ H Q ⟨ρ,M,rs,rm,q⟩=>⟨ρ,M,rs,rm,mt _ _ _ _ (fun ds J ⟨z,F⟩ vs H1 G B j=>⟨by rw [j.length];exact z,fun p n=>cr B j (fun p' n'=>(F p' n').ext G) n⟩) q⟩
end
end
end Mi
end L2
namespace L2
open PySem PySem.Spec PyProof.Rows
namespace Mi
end Mi
end L2
namespace L2
open PySem PySem.Spec PyProof.Rows
section
theorem gF:fillsNumberSlot (.type "tuple") "mul" = pure false :=
 PyProof.Rows.fillsNumberSlot_seq (id := "tuple.__mul__") (r:=some (.builtin "tuple.__rmul__")) F.slot_tuple_mul.lookup (by decide +kernel) F.slot_tuple_rmul.lookup (by decide +kernel)
theorem kQ:seqRepeat? (.type "tuple")=pure (some (.builtin "tuple.__mul__")):=by
 unfold seqRepeat?;rw [JJ (T := "tuple") (name := "__mul__") (id := "tuple.__mul__") F.slot_tuple_mul.lookup (by decide +kernel),JJ (T := "tuple") (name := "__rmul__") (id := "tuple.__rmul__") F.slot_tuple_rmul.lookup (by decide +kernel)]
 rfl
theorem jb (a:Int) (t:Tok) (l:Addr) (items:Array h6) (n:Nat) (d:Option Addr) (sl:Array (Option h6)) :
 Meets (G8.«int.__rmul__» ⟨[.int a t, .ref l],[]⟩) (fun _ R s=>s.heap.get? l=some { cls := .type "tuple",dict:=d,data := .seq items n,slots:=sl }/\R (.ok (.ret Value.notImplemented)) s) :=
 .of_wp fun prog w A R s h=>by obtain ⟨j,g,d,tk,os⟩:=s;obtain ⟨q,h⟩:=h;wp_walk;exact ⟨_,rfl,h⟩
open AutoSeq1 (wpAny_loadPart') in
theorem qZ (l:Addr) (items:Array h6) (n:Nat) (dd:Option Addr) (sl:Array (Option h6)) (x:Int) (u:Tok) (h1 : -(2 ^ 63)<=x) (h2:x < 2 ^ 63) (B:items.size*x.toNat<=DY) :
 Meets (G8.«tuple.__mul__» ⟨[.ref l, .int x u],[]⟩) (fun _ R s=>s.heap.get? l=some { cls := .type "tuple",dict:=dd,data := .seq items n,slots:=sl } /\
  (if items.isEmpty || x==1 then R (.ok (.ret (.ref l))) s else R (.ok (.ret (.ref s.heap.objs.size))) { s with heap:=s.heap.push { cls := .type "tuple",data := .seq ((DU x.toNat items).foldl (· ++ ·) #[]) } })) :=
 .of_wp fun prog w A R s h=>by
  obtain ⟨U,g,d,tk,os⟩:=s;obtain ⟨q,h⟩:=h;have f1:=AutoSeq1.idx_int;have F:(decide (x < -(2 ^ 63)) || decide (x≥2 ^ 63))=false:=by
   rw [decide_eq_false (by lia),decide_eq_false (by lia)];rfl
  wp_walk using Hk q
  refine Ka (decide_eq_false (by rw [F];decide)) ?_
  dsimp only
  by_cases j:(items.isEmpty || x==1)=true
  ·rw [if_pos j] at h
   wp_walk using Hk q
   exact ⟨_,rfl,h⟩
  ·rw [if_neg j] at h
   wp_walk using Hk q
   simp only [Kb,not_or] at j
   by_cases e2:x<=0
   ·have z:(decide (x<=0) || items.isEmpty)=true:=by rw [decide_eq_true e2];rfl
    rw [if_pos z];have G:x.toNat=0:=by lia
    rw [G] at h
    wp_walk
    exact ⟨_,rfl,h⟩
   ·have z : ¬ (decide (x<=0) || items.isEmpty)=true:=by simp;exact ⟨by lia,by simpa using j.1⟩
    rw [if_neg z];have hx:((items.size:Nat):Int)*x=((items.size*x.toNat:Nat):Int):=by
     rw [HN,KR (by lia)]
    have hs:DY=16777216:=D1;have J : ¬ ((items.size:Nat):Int)*x > (2 ^ 63 - 1) / 8:=by rw [hx];lia
    rw [if_neg J];have L : ¬ Jh (((items.size:Nat):Int)*x)=true:=by
     rw [hx];unfold Jh;intro O;have Y:=of_decide_eq_true O;lia
    rw [if_neg L]
    wp_walk
    have hsz:((DU x.toNat items).foldl (· ++ ·) #[]).size<=DY:=by
     have:∀ (k:Nat) (a:Array h6),((DU k items).foldl (· ++ ·) a).size=a.size+items.size*k:=by
      intro k;induction k with
      | zero=>intro a;simp
      | succ k ih=>intro a;rw [Fd,Gc,ih,Ht,Nat.mul_succ];lia
     rw [this];simpa using B
    refine Ka (decide_eq_false (N3.mpr hsz)) ?_
    wp_walk
    exact ⟨_,rfl,h⟩
end
section
section
variable {X:Cx}
noncomputable def vZ (K:Frag):R2:=fun x y H Q => ∃ l k xs,x = .ref l/\y = .int k/\SqT K H l xs /\ -(2 ^ 63)<=k/\k < 2 ^ 63/\xs.length*k.toNat<=DY /\
 ((xs=[]∨k=1)->Q (.ref l) H)/\(¬ (xs=[]∨k=1) -> ∀ p,H p=none->Q (.ref p) (upd H p (.tup (DU k.toNat xs).flatten)))
theorem wX:OpR X (Fy .Mult) (vZ X.K):=by
 intro pins s σ H x y v u Q I rx ry h;obtain ⟨l,k,xs,rfl,rfl,G,h1,h2,j,J,L⟩:=h
 cases rx
 obtain ⟨t,rfl⟩:=ry;obtain ⟨its,r,O,_⟩:=I.tuple G;have Y:=r.length;obtain ⟨⟨cls,dd,dat,sl⟩,e,B,n,hd⟩:=O;dsimp only at B hd;subst B hd;have hlen:its.toArray.size*k.toNat<=DY:=by rw [E4, <- Y];exact j
 have f0:∀ m:Nat,Ir (fun Z x2=>Z++x2) #[] (DU m its.toArray)=(DU m its).flatten.toArray:=fun m=>by
  have:=eV its m [];rw [IS] at this;exact this
 refine Jl (T := "tuple") (U := "int") (by decide) ⟨_,e,rfl⟩ (fun s'=>JX s' k t) gF MJ IT kQ F.slot_int_index.lookup
  (Je IT (JX s k t) LU (LC _ _) (jb k t l its.toArray n dd sl)
    ⟨e,rfl,⟨_,e,rfl⟩,Je F.slot_tuple_mul ⟨_,e,rfl⟩ F.entry_tuple_mul (F.args_tuple_mul_2 _ _) (qZ l its.toArray n dd sl k t h1 h2 hlen) ⟨e, ?_⟩⟩)
 have hi:(its.toArray.isEmpty || k==1)=true↔(xs=[]∨k=1):=by
  rw [<- r.nil_iff];simp
 split
 ·next c=>exact ⟨.ref l,H,I,rfl,J (hi.mp c)⟩
 ·next c =>
  rw [f0];refine ⟨.ref s.heap.objs.size,_,I.laid (t':=s.toks) (o := .tup (DU k.toNat xs).flatten) (fun b ob q=>h7 _ q) (E3 _) ?_,rfl,L (fun z=>c (hi.mpr z)) _ (I.hok.fresh (E3 _))⟩;exact ⟨by rw [nS,Nat.mul_comm];exact j,_,r.rep k.toNat,J7 _ _⟩
end
end
section
section
variable {X:Cx}
theorem wY:OpR X (Fy .Add) (fun x y H Q => ∃ a b ys,x = .ref a/\y = .ref b/\SqT X.K H a []/\SqT X.K H b ys/\Q (.ref b) H):=by
 intro pins s σ H x y v u Q I rx ry h;obtain ⟨a,b,ys,rfl,rfl,U,Y,q⟩:=h
 cases rx
 cases ry
 obtain ⟨its,Z,p1,_⟩:=I.tuple U;obtain ⟨j,r2,p2,_⟩:=I.tuple Y;have e0:its=[]:=Z.nil_iff.mpr rfl;obtain ⟨⟨cls,dd,data,sl⟩,ho,L,n,hd⟩:=id p1;obtain ⟨⟨O,G,data2,J⟩,z,B,n2,hd2⟩:=id p2;simp only at L hd B hd2;subst L hd B hd2;exact Lz ⟨_,ho,rfl⟩ ⟨_,z,rfl⟩ JF L3 Ib HZ (HI _ _)
  (tuple_addW0 a b its.toArray j.toArray n n2 dd G sl J (by simp [e0])) ⟨ho,z,⟨.ref b,H,I,rfl,q⟩⟩
end
end
end L2
namespace L2
namespace Mi
open PySem PySem.Spec PyProof.Rows
section
def MulOk (i j:Int):Prop:=(-(2 ^ 64) < i/\i < 2 ^ 64)∨(-(2 ^ 64) < j/\j < 2 ^ 64)∨(KS i<=2 ^ 20/\KS j<=2 ^ 20)
theorem MulOk.ok {i j:Int} (h:MulOk i j):IntMulOk i j:=by
 rcases h with h | h | h
 ·exact IntMulOk.of_left (intBits_le_64 h.1 h.2)
 ·exact IntMulOk.of_right (intBits_le_64 h.1 h.2)
 ·exact IntMulOk.of_bits h.1 h.2
noncomputable def eY:R2d
 | .int i, .int j,M,Q=>Q (.int (i+j)) M
 | .tup a, .tup b,M,Q=>(a≠[]∨True)/\a.length+b.length<=DY/\Q (.tup (a++b)) M
 | .ref a, .ref b,M,Q => ∃ xs ys,M a=some (.lst xs)/\M b=some (.lst ys)/\xs.length+ys.length<=DY /\ ∀ p,M p=none->Q (.ref p) (ag M p (.lst (xs++ys)))
 | .str x, .str y,M,Q=>x.length+y.length<=DY/\Q (.str (x++y)) M
 | _,_,_,_=>False
noncomputable def kR:R2d
 | .int i, .int j,M,Q=>Q (.int (i - j)) M
 | _,_,_,_=>False
noncomputable def eB:R2d
 | .int i, .int j,M,Q=>MulOk i j/\Q (.int (i*j)) M
 | .ref a, .int k,M,Q => ∃ xs,M a=some (.lst xs) /\ -(2 ^ 63)<=k/\k < 2 ^ 63/\xs.length*k.toNat<=DY /\ ∀ p,M p=none->Q (.ref p) (ag M p (.lst (DU k.toNat xs).flatten))
 | .tup ds, .int k,M,Q => -(2 ^ 63)<=k/\k < 2 ^ 63/\ds.length*k.toNat<=DY/\Q (.tup (DU k.toNat ds).flatten) M
 | _,_,_,_=>False
noncomputable def kx:R2d
 | .int i, .int j,M,Q => 0 < j/\j < 2 ^ 256/\Q (.int (i / j)) M
 | _,_,_,_=>False
noncomputable def gG:R2d
 | .int i, .int j,M,Q => 0 < j/\Q (.int (i % j)) M
 | _,_,_,_=>False
noncomputable def pB:R2d
 | .int i, .int j,M,Q => 0<=j/\j<=1000000/\i.natAbs < 2 ^ 64/\Q (.int (i ^ j.toNat)) M
 | _,_,_,_=>False
theorem ug:aR eY:=by
 intro x y M Q Q' h q
 cases x <;> cases y <;> first
  | exact q.elim
  | exact h _ _ q
  | exact ⟨q.1,h _ _ q.2⟩
  | exact ⟨q.1,q.2.1,h _ _ q.2.2⟩
  | (obtain ⟨xs,ys,j,B,z,q⟩:=q;exact ⟨xs,ys,j,B,z,fun p n=>h _ _ (q p n)⟩)
theorem uh:aR kR:=by
 intro x y M Q Q' h q
 cases x <;> cases y <;> first | exact q.elim | exact h _ _ q
theorem ui:aR eB:=by
 intro x y M Q Q' h q
 cases x <;> cases y <;> first
  | exact q.elim
  | exact ⟨q.1,h _ _ q.2⟩
  | exact ⟨q.1,q.2.1,q.2.2.1,h _ _ q.2.2.2⟩
  | (obtain ⟨xs,j,z,B,F,q⟩:=q;exact ⟨xs,j,z,B,F,fun p n=>h _ _ (q p n)⟩)
theorem r6:aR kx:=by
 intro x y M Q Q' h q
 cases x <;> cases y <;> first | exact q.elim | exact ⟨q.1,q.2.1,h _ _ q.2.2⟩
theorem uj:aR gG:=by
 intro x y M Q Q' h q
 cases x <;> cases y <;> first | exact q.elim | exact ⟨q.1,h _ _ q.2⟩
theorem uk:aR pB:=by
 intro x y M Q Q' h q
 cases x <;> cases y <;> first | exact q.elim | exact ⟨q.1,q.2.1,q.2.2.1,h _ _ q.2.2.2⟩
section
variable {X:Cx}
theorem OpR.of {f:h6->h6->Sem h6} {r r':R2} (h:OpR X f r) (i:∀ v u H Q,r' v u H Q->r v u H Q):OpR X f r':=fun pins s σ H x y v u Q I rx ry q=>h pins s σ H x y v u Q I rx ry (i _ _ _ _ q)
theorem IxR.of {r r':R2} (h:IxR X r) (i:∀ v u H Q,r' v u H Q->r v u H Q):IxR X r':=fun a b pins s σ H x y v u Q I rx ry q=>h a b pins s σ H x y v u Q I rx ry (i _ _ _ _ q)
theorem CallR.of {f:h6} {r r':List V->Hp->VK->Prop} (h:CallR X f r) (i:∀ vs H Q,r' vs H Q->r vs H Q):CallR X f r':=fun pins s σ H xs us Q I rx q=>h pins s σ H xs us Q I rx (i _ _ _ q)
theorem AR {K:Frag} {M:Mem} {H:Hp} {Q:VK} {a b:List D} {v u:V} (rm:RM K M H) (rx:RD K H (.tup a) v) (ry:RD K H (.tup b) u) (q:eY (.tup a) (.tup b) M (KE' K M H Q)):vS K v u H Q ∨ ∃ a b ys,v = .ref a/\u = .ref b/\SqT K H a []/\SqT K H b ys/\Q (.ref b) H:=by
 obtain ⟨a',vs,rfl,z,j⟩:=Nt rx;obtain ⟨b',us,rfl,B,F⟩:=Nt ry;obtain ⟨_,J,q⟩:=q;have l1:=j.length;have l2:=F.length
 by_cases G:a=[]
 ·subst G;have:vs=[]:=RDs.nil_iff.mp j;subst this;exact .inr ⟨a',b',us,rfl,rfl,z,B,q _ H Ext.refl rm ry⟩
 refine .inl ⟨a',b',vs,us,rfl,rfl,z,B,fun e=>G (EO.mp (by rw [<- l1,e];rfl)),by lia,fun e => ?_,fun _ p n=>cY rm (j.append F) q n⟩
 have eb:b=[]:=EO.mp (by rw [<- l2,e];rfl)
 subst eb;rw [Fe] at q;exact q _ H Ext.refl rm rx
theorem um:OpR X (Fy .Add) (l2 X.K eY):=by
 refine OpR.of (op_add.or ((op_catT.or wY).or (op_cat.or p8))) fun v u H Q h => ?_;obtain ⟨x,y,M,rm,rx,ry,q⟩:=h
 cases x <;> cases y <;> first
  | exact q.elim
  | (cases Nk.mp rx;cases Nk.mp ry;exact .inl ⟨_,_,rfl,rfl,q _ H Ext.refl rm (Nk.mpr rfl)⟩)
  | exact .inr (.inl (AR rm rx ry q))
  | (cases Nl.mp rx;cases Nl.mp ry
     obtain ⟨xs,ys,F,G,z,q⟩:=q;obtain ⟨vs,h1,j⟩:=rm _ _ F;obtain ⟨us,h2,B⟩:=rm _ _ G;have l1:=j.length;have l2:=B.length;refine .inr (.inr (.inl ⟨_,_,vs,us,rfl,rfl,h1,h2,by lia,fun p n=>cr rm (j.append B) q n⟩)))
  | (cases Nv.mp rx;cases Nv.mp ry;exact .inr (.inr (.inr ⟨_,_,rfl,rfl,q.1,q.2 _ H Ext.refl rm (Nv.mpr rfl)⟩)))
theorem uo:OpR X (Fy .Sub) (l2 X.K kR):=by
 refine OpR.of yW fun v u H Q h => ?_;obtain ⟨x,y,M,rm,rx,ry,q⟩:=h
 cases x <;> cases y <;> first
  | exact q.elim
  | (cases Nk.mp rx;cases Nk.mp ry;exact ⟨_,_,rfl,rfl,q _ H Ext.refl rm (Nk.mpr rfl)⟩)
theorem op_mul_i:OpR X (Fy .Mult) (rI MulOk fun i j => .int (i*j)):=opI fun _ _ _ _ _ _ _ z q=>mul_int q z.ok
theorem AS {K:Frag} {M:Mem} {H:Hp} {Q:VK} {a:List D} {k:Int} {v u:V} (rm:RM K M H) (rx:RD K H (.tup a) v) (ry:RD K H (.int k) u) (q:eB (.tup a) (.int k) M (KE' K M H Q)):vZ K v u H Q:=by
 obtain ⟨a',vs,rfl,z,j⟩:=Nt rx
 cases Nk.mp ry
 obtain ⟨B,F,G,q⟩:=q;have l1:=j.length;refine ⟨a',k,vs,rfl,rfl,z,B,F,by rw [l1];exact G,fun e => ?_,fun _ p n=>cY rm (j.rep _) q n⟩
 have ea:(DU k.toNat a).flatten=a:=by
  rcases e with e | e
  ·have:a=[]:=EO.mp (by rw [<- l1,e];rfl)
   subst this;simp
  ·subst e;simp
 rw [ea] at q;exact q _ H Ext.refl rm rx
theorem uq:OpR X (Fy .Mult) (l2 X.K eB):=by
 refine OpR.of (op_mul_i.or (op_rep.or wX)) fun v u H Q h => ?_;obtain ⟨x,y,M,rm,rx,ry,q⟩:=h
 cases x <;> cases y <;> first
  | exact q.elim
  | (cases Nk.mp rx;cases Nk.mp ry;exact .inl ⟨_,_,rfl,rfl,q.1,q.2 _ H Ext.refl rm (Nk.mpr rfl)⟩)
  | (cases Nl.mp rx;cases Nk.mp ry
     obtain ⟨xs,z,B,F,G,q⟩:=q;obtain ⟨vs,h1,j⟩:=rm _ _ z;have l1:=j.length;exact .inr (.inl ⟨_,_,vs,rfl,rfl,h1,B,F,by rw [l1];exact G,fun p n=>cr rm (j.rep _) q n⟩))
  | exact .inr (.inr (AS rm rx ry q))
theorem ut:OpR X (Fy .FloorDiv) (rI (fun _ j => 0 < j/\j < 2 ^ 256) fun i j => .int (i / j)):=L2.opI fun i j _ _ _ _ _ z q=>by
 have h1:(0:Int) < j:=z.1;have h2:j < 2 ^ 256:=z.2;have B:j.natAbs.log2 < 256:=(Nat.log2_lt (by lia)).mpr (by lia)
 exact floordiv_int (by lia) (by rw [Int.fdiv_eq_ediv_of_nonneg i (by lia)];exact q) (.inl (PyProof.noPylong_of_log2 (by lia)))
theorem r8:OpR X (Fy .FloorDiv) (l2 X.K kx):=by
 refine OpR.of ut fun v u H Q h => ?_;obtain ⟨x,y,M,rm,rx,ry,q⟩:=h
 cases x <;> cases y <;> first
  | exact q.elim
  | (cases Nk.mp rx;cases Nk.mp ry;exact ⟨_,_,rfl,rfl,⟨q.1,q.2.1⟩,q.2.2 _ H Ext.refl rm (Nk.mpr rfl)⟩)
theorem uu:OpR X (Fy .Mod) (l2 X.K gG):=by
 refine OpR.of yX fun v u H Q h => ?_;obtain ⟨x,y,M,rm,rx,ry,q⟩:=h
 cases x <;> cases y <;> first
  | exact q.elim
  | (cases Nk.mp rx;cases Nk.mp ry;exact ⟨_,_,rfl,rfl,q.1,q.2 _ H Ext.refl rm (Nk.mpr rfl)⟩)
theorem uw:OpR X (Fy .Pow) (l2 X.K pB):=by
 refine OpR.of yY fun v u H Q h => ?_;obtain ⟨x,y,M,rm,rx,ry,q⟩:=h
 cases x <;> cases y <;> first
  | exact q.elim
  | (cases Nk.mp rx;cases Nk.mp ry;exact ⟨_,_,rfl,rfl,⟨q.1,q.2.1,q.2.2.1⟩,q.2.2.2 _ H Ext.refl rm (Nk.mpr rfl)⟩)
noncomputable def pC:R1d
 | .int i,M,Q=>Q (.int (-i)) M
 | _,_,_=>False
theorem kS:pA pC:=by
 intro x M Q Q' h q
 cases x <;> first | exact q.elim | exact h _ _ q
theorem UnR.of {f:h6->Sem h6} {r r':V->Hp->VK->Prop} (h:UnR X f r) (i:∀ v H Q,r' v H Q->r v H Q):UnR X f r':=fun pins s σ H x v Q I rx q=>h pins s σ H x v Q I rx (i _ _ _ q)
theorem uz:UnR X (unaryOp .USub) (l1 X.K pC):=by
 refine UnR.of yZ fun v H Q h => ?_;obtain ⟨x,M,rm,rx,q⟩:=h
 cases x <;> first
  | exact q.elim
  | (cases Nk.mp rx;exact ⟨_,rfl,q _ H Ext.refl rm (Nk.mpr rfl)⟩)
noncomputable def aC {α β:Type} (f : α -> Option β):List α -> Option (List β)
 | [] => some []
 | x::xs=>(f x).bind fun y=>(aC f xs).map (y :: ·)
noncomputable def rb:Nat->Mem->D->Option Fi
 | _,_, .non=>some .none
 | _,_, .bl b=>some (.bool b)
 | _,_, .int i=>some (.int i)
 | _,_, .str x=>if PyData.strOk x=true then some (.str x) else none
 | n+1,M, .tup ds=>(aC (rb n M) ds).map PyData.tuple
 | n+1,M, .con ds=>(aC (rb n M) ds).map Mu
 | n+1,M, .ref a=>match M a with
   | some (.lst ds)=>(aC (rb n M) ds).map Mu
   | _=>none
 | 0,_, .tup _=>none
 | 0,_, .con _=>none
 | 0,_, .ref _=>none
 | _,_, .fn _=>none
theorem cQ {n:Nat} {M:Mem} (ih:∀ d p,rb n M d=some p->p.depth<=n/\p.canLay0=true):∀ {ds:List D} {ps:List Fi},aC (rb n M) ds=some ps->Gf ps<=n/\Fl ps=true
 | [],ps,h=>by
  simp [aC] at h;subst h;exact ⟨G2 _,rfl⟩
 | d::ds,ps,h=>by
   simp only [aC] at h
   cases e1:rb n M d with
   | none=>rw [e1] at h;cases h
   | some p =>
     rw [e1] at h
     cases e2:aC (rb n M) ds with
     | none=>simp [e2] at h
     | some qs =>
       simp [e2] at h;subst h;obtain ⟨a1,a2⟩:=ih d p e1;obtain ⟨b1,b2⟩:=cQ ih e2;refine ⟨?_, ?_⟩
       ·show max p.depth (Gf qs)<=n;lia
       ·show (p.canLay0&&Fl qs)=true;rw [a2,b2];rfl
theorem cc {M:Mem}:∀ (n:Nat) (d:D) (p:Fi),rb n M d=some p->p.depth<=n/\p.canLay0=true
 | n, .non,p,h=>by simp [rb] at h;subst h;exact ⟨G2 _,rfl⟩
 | n, .bl b,p,h=>by simp [rb] at h;subst h;exact ⟨G2 _,rfl⟩
 | n, .int b,p,h=>by simp [rb] at h;subst h;exact ⟨G2 _,rfl⟩
 | n, .str x,p,h=>by
   simp [rb] at h;obtain ⟨h1,h2⟩:=h;subst h2;exact ⟨G2 _,h1⟩
 | 0, .tup _,p,h=>by simp [rb] at h
 | 0, .con _,p,h=>by simp [rb] at h
 | 0, .ref _,p,h=>by simp [rb] at h
 | n, .fn _,p,h=>by simp [rb] at h
 | n+1, .tup ds,p,h=>by
   simp only [rb] at h
   cases e:aC (rb n M) ds with
   | none=>rw [e] at h;cases h
   | some ps =>
     rw [e] at h;cases h;obtain ⟨a,b⟩:=cQ (cc n) e;exact ⟨JK a,b⟩
 | n+1, .con ds,p,h=>by
   simp only [rb] at h
   cases e:aC (rb n M) ds with
   | none=>rw [e] at h;cases h
   | some ps =>
     rw [e] at h;cases h;obtain ⟨a,b⟩:=cQ (cc n) e;exact ⟨JK a,b⟩
 | n+1, .ref a,p,h=>by
   simp only [rb] at h
   cases e0:M a with
   | none=>rw [e0] at h;cases h
   | some o =>
     rw [e0] at h
     cases o with
     | dct _ _=>cases h
     | fdc _=>cases h
     | lst ds =>
       simp only at h
       cases e:aC (rb n M) ds with
       | none=>rw [e] at h;cases h
       | some ps =>
         rw [e] at h;cases h;obtain ⟨a,b⟩:=cQ (cc n) e;exact ⟨JK a,b⟩
theorem cR {K:Frag} {H:Hp} {n:Nat} {M:Mem} {h:Heap} (ih:∀ d p v u,rb n M d=some p->RD K H d v->RelV v u -> ∃ as,Ic h u p as) :
 ∀ {ds:List D} {ps:List Fi} {vs:List V} {us:List h6},aC (rb n M) ds=some ps->RDs K H ds vs->Vals vs us -> ∃ as,Kv h us ps as
 | [],ps,vs,us,hm,r,rv=>by
  simp [aC] at hm;subst hm;rw [RDs.nil_iff.mp r] at rv
  cases rv
  exact ⟨_, .nil⟩
 | d::ds,ps,vs,us,hm,r,rv=>by
   obtain ⟨v,vr,rfl,j,q⟩:=Nm.mp r
   cases rv with
   | cons z B =>
     simp only [aC] at hm
     cases e1:rb n M d with
     | none=>rw [e1] at hm;cases hm
     | some p =>
       rw [e1] at hm
       cases e2:aC (rb n M) ds with
       | none=>simp [e2] at hm
       | some qs =>
         simp [e2] at hm;subst hm;obtain ⟨as,ra⟩:=ih d p v _ e1 j z;obtain ⟨bs,rbs⟩:=cR ih e2 q B;exact ⟨_, .cons ra rbs⟩
theorem bN {pins:List (Addr×Obj)} {σ:St} {H:Hp} {s:hH} {M:Mem} (I:Inv X pins σ H s) (rm:RM X.K M H):∀ (n:Nat) (d:D) (p:Fi) (v:V) (u:h6),rb n M d=some p->RD X.K H d v->RelV v u -> ∃ as,Ic s.heap u p as
 | n, .non,p,v,u,h,r,q=>by simp [rb] at h;subst h;cases Nu.mp r;cases q;exact ⟨_, .none⟩
 | n, .bl b,p,v,u,h,r,q=>by simp [rb] at h;subst h;cases Np.mp r;cases q;exact ⟨_, .bool b⟩
 | n, .int b,p,v,u,h,r,q=>by simp [rb] at h;subst h;cases Nk.mp r;obtain ⟨t,rfl⟩:=q;exact ⟨_, .int b t⟩
 | n, .str x,p,v,u,h,r,q=>by
   simp [rb] at h;obtain ⟨_,h2⟩:=h;subst h2;cases Nv.mp r;obtain ⟨t,rfl⟩:=q;exact ⟨_, .str x t⟩
 | 0, .tup _,p,_,_,h,_,_=>by simp [rb] at h
 | 0, .con _,p,_,_,h,_,_=>by simp [rb] at h
 | 0, .ref _,p,_,_,h,_,_=>by simp [rb] at h
 | n, .fn _,p,_,_,h,_,_=>by simp [rb] at h
 | n+1, .tup ds,p,v,u,h,r,q=>by
   simp only [rb] at h
   cases e:aC (rb n M) ds with
   | none=>rw [e] at h;cases h
   | some ps =>
     rw [e] at h;cases h;obtain ⟨a,vs,rfl,j,rs⟩:=Nt r
     cases q
     obtain ⟨its,rv,⟨o,ho,z,k,hd⟩,_⟩:=I.tuple j;obtain ⟨as,ra⟩:=cR (bN I rm n) e rs rv;exact ⟨_, .tuple ho z hd (by simpa using ra)⟩
 | n+1, .con ds,p,v,u,h,r,q=>by
   simp only [rb] at h
   cases e:aC (rb n M) ds with
   | none=>rw [e] at h;cases h
   | some ps =>
     rw [e] at h;cases h;obtain ⟨a,vs,rfl,j,rs⟩:=Nr.mp r
     cases q
     obtain ⟨its,rv,⟨o,k,ho,z,_,hd⟩,_⟩:=I.list j.sq;obtain ⟨as,ra⟩:=cR (bN I rm n) e rs rv;exact ⟨_, .list ho z hd (by simpa using ra)⟩
 | n+1, .ref a,p,v,u,h,r,q=>by
   simp only [rb] at h
   cases e0:M a with
   | none=>rw [e0] at h;cases h
   | some o =>
     rw [e0] at h
     cases o with
     | dct _ _=>cases h
     | fdc _=>cases h
     | lst ds =>
       simp only at h
       cases e:aC (rb n M) ds with
       | none=>rw [e] at h;cases h
       | some ps =>
         rw [e] at h;cases h
         cases Nl.mp r
         cases q
         obtain ⟨vs,j,rs⟩:=rm _ _ e0;obtain ⟨its,rv,⟨o,k,ho,z,_,hd⟩,_⟩:=I.list (SqL.of j);obtain ⟨as,ra⟩:=cR (bN I rm n) e rs rv;exact ⟨_, .list ho z hd (by simpa using ra)⟩
noncomputable def wEq:R2d:=fun x y M Q => ∃ p q,rb 16 M x=some p/\rb 16 M y=some q/\Q (.bl (Fb p q)) M
noncomputable def wNe:R2d:=fun x y M Q => ∃ p q,rb 16 M x=some p/\rb 16 M y=some q/\Q (.bl (!PyData.eqv p q)) M
theorem wZ:aR wEq:=fun _ _ _ _ _ h ⟨p,q,a,b,c⟩=>⟨p,q,a,b,h _ _ c⟩
theorem xa:aR wNe:=fun _ _ _ _ _ h ⟨p,q,a,b,c⟩=>⟨p,q,a,b,h _ _ c⟩
theorem xb (F:X.A.units+16 < Gv):OpR X (FL .Eq) (l2 X.K wEq):=by
 intro pins s σ H x y v u Q I rx ry h;obtain ⟨d,e,M,rm,rd,re,p,q,j,z,k⟩:=h;obtain ⟨as,ra⟩:=bN I rm _ _ _ _ _ j rd rx;obtain ⟨bs,rb'⟩:=bN I rm _ _ _ _ _ z re ry;obtain ⟨G,p2⟩:=cc _ _ _ j;obtain ⟨J,B⟩:=cc _ _ _ z;exact SeqAt.compareEq_reads ra rb' p2 B (by lia) ⟨.bl _,H,I,rfl,k _ H Ext.refl rm (Np.mpr rfl)⟩
theorem xc (F:X.A.units+16 < Gv):OpR X (FL .NotEq) (l2 X.K wNe):=by
 intro pins s σ H x y v u Q I rx ry h;obtain ⟨d,e,M,rm,rd,re,p,q,j,z,k⟩:=h;obtain ⟨as,ra⟩:=bN I rm _ _ _ _ _ j rd rx;obtain ⟨bs,rb'⟩:=bN I rm _ _ _ _ _ z re ry;obtain ⟨G,p2⟩:=cc _ _ _ j;obtain ⟨J,B⟩:=cc _ _ _ z;exact SeqAt.compareNe_reads ra rb' p2 B (by lia) ⟨.bl _,H,I,rfl,k _ H Ext.refl rm (Np.mpr rfl)⟩
noncomputable def wLt:R2d
 | .int i, .int j,M,Q=>Q (.bl (decide (i < j))) M
 | _,_,_,_=>False
noncomputable def wLe:R2d
 | .int i, .int j,M,Q=>Q (.bl (decide (i<=j))) M
 | _,_,_,_=>False
noncomputable def wGt:R2d
 | .int i, .int j,M,Q=>Q (.bl (decide (j < i))) M
 | _,_,_,_=>False
noncomputable def wGe:R2d
 | .int i, .int j,M,Q=>Q (.bl (decide (j<=i))) M
 | _,_,_,_=>False
theorem xf:aR wLt:=by
 intro x y M Q Q' h q
 cases x <;> cases y <;> first | exact q.elim | exact h _ _ q
theorem xg:aR wLe:=by
 intro x y M Q Q' h q
 cases x <;> cases y <;> first | exact q.elim | exact h _ _ q
theorem xh:aR wGt:=by
 intro x y M Q Q' h q
 cases x <;> cases y <;> first | exact q.elim | exact h _ _ q
theorem xi:aR wGe:=by
 intro x y M Q Q' h q
 cases x <;> cases y <;> first | exact q.elim | exact h _ _ q
theorem xj:OpR X (FL .Lt) (l2 X.K wLt):=by
 refine OpR.of AC fun v u H Q h => ?_;obtain ⟨x,y,M,rm,rx,ry,q⟩:=h
 cases x <;> cases y <;> first
  | exact q.elim
  | (cases Nk.mp rx;cases Nk.mp ry;exact ⟨_,_,rfl,rfl,q _ H Ext.refl rm (Np.mpr rfl)⟩)
theorem xk:OpR X (FL .LtE) (l2 X.K wLe):=by
 refine OpR.of AD fun v u H Q h => ?_;obtain ⟨x,y,M,rm,rx,ry,q⟩:=h
 cases x <;> cases y <;> first
  | exact q.elim
  | (cases Nk.mp rx;cases Nk.mp ry;exact ⟨_,_,rfl,rfl,q _ H Ext.refl rm (Np.mpr rfl)⟩)
theorem xm:OpR X (FL .Gt) (l2 X.K wGt):=by
 refine OpR.of AE fun v u H Q h => ?_;obtain ⟨x,y,M,rm,rx,ry,q⟩:=h
 cases x <;> cases y <;> first
  | exact q.elim
  | (cases Nk.mp rx;cases Nk.mp ry;exact ⟨_,_,rfl,rfl,q _ H Ext.refl rm (Np.mpr rfl)⟩)
theorem xo:OpR X (FL .GtE) (l2 X.K wGe):=by
 refine OpR.of AF fun v u H Q h => ?_;obtain ⟨x,y,M,rm,rx,ry,q⟩:=h
 cases x <;> cases y <;> first
  | exact q.elim
  | (cases Nk.mp rx;cases Nk.mp ry;exact ⟨_,_,rfl,rfl,q _ H Ext.refl rm (Np.mpr rfl)⟩)
end
end
section
noncomputable def wIx:R2d:=fun x y M Q=>match x with
 | .tup ds => ∃ i d,y = .int i/\atI ds i=some d/\Q d M
 | .con ds => ∃ i d,y = .int i/\atI ds i=some d/\Q d M
 | .ref a=>(∃ ds i d,M a=some (.lst ds)/\y = .int i/\atI ds i=some d/\Q d M)∨(∃ t kvs d,M a=some (.dct t kvs)/\eA t y=true/\dget kvs y=some d/\Q d M) ∨ ∃ kvs d,M a=some (.fdc kvs)/\bu y=true/\dget kvs y=some d/\Q d M
 | _=>False
theorem nU:aR wIx:=by
 intro x y M Q Q' h q
 cases x with
 | tup ds=>obtain ⟨i,d,e,j,q⟩:=q;exact ⟨i,d,e,j,h _ _ q⟩
 | con ds=>obtain ⟨i,d,e,j,q⟩:=q;exact ⟨i,d,e,j,h _ _ q⟩
 | ref a =>
   rcases q with ⟨ds,i,d,z,j,B,q⟩ | ⟨t,kvs,d,z,j,B,q⟩ | ⟨kvs,d,z,j,B,q⟩
   ·exact .inl ⟨ds,i,d,z,j,B,h _ _ q⟩
   ·exact .inr (.inl ⟨t,kvs,d,z,j,B,h _ _ q⟩)
   ·exact .inr (.inr ⟨kvs,d,z,j,B,h _ _ q⟩)
 | _=>exact q.elim
theorem kT {K:Frag} {H:Hp} {ds:List D} {vs:List V} {i:Int} {d:D} (r:RDs K H ds vs) (e:atI ds i=some d):∃ v,atI vs i=some v/\RD K H d v:=by
 unfold atI at e ⊢;rw [r.length]
 cases q:ixN ds.length i with
 | none=>rw [q] at e;cases e
 | some j =>
   rw [q] at e;exact r.get e
theorem jc {K:Frag} {H:Hp} {k:D} {q:Key} {v:V} (r:RKey k q) (h:RD K H k v):v=kV q:=by
 cases k <;> first
  | exact r.elim
  | (cases (show q=_ from r);first | exact Nk.mp h | exact Nv.mp h)
theorem dr {K:Frag} {H:Hp}:∀ {ds:List D} {ks:List Key} {vs:List V},ES RKey ds ks->RDs K H ds vs->vs=ks.map kV
 | _,_,vs, .nil,h=>by rw [RDs.nil_iff.mp h];rfl
 | _,_,vs, .cons r t,h=>by
   obtain ⟨v,vr,rfl,h1,h2⟩:=Nm.mp h;rw [jc r h1,dr t h2];rfl
theorem RKey.inj {d e:D} {k:Key} (a:RKey d k) (b:RKey e k):d=e:=by
 cases d <;> first
  | exact a.elim
  | (cases e <;> first | exact b.elim | (cases (show k=_ from a);injection (show _=_ from b) with z;rw [z]) | (cases (show k=_ from a);cases (show _=_ from b)))
theorem RKeysP.inj:∀ {d e:List D} {k:List Key},ES RKey d k->ES RKey e k->d=e
 | _,_,_, .nil, .nil=>rfl
 | _,_,_, .cons r t, .cons r' t'=>by rw [r.inj r',RKeysP.inj t t']
theorem RKeys.inj {d e:D} {k:List Key} (a:RKeys d k) (b:RKeys e k):d=e:=by
 cases d <;> first
  | exact a.elim
  | (cases e <;> first | exact b.elim | exact congrArg D.tup (RKeysP.inj a b))
theorem RKey.fun {d:D} {k k':Key} (a:RKey d k) (b:RKey d k'):k=k':=by
 cases d <;> first
  | exact a.elim
  | (cases (show k=_ from a);cases (show k'=_ from b);rfl)
theorem RKeysP.fun:∀ {d:List D} {k k':List Key},ES RKey d k->ES RKey d k'->k=k'
 | _,_,_, .nil, .nil=>rfl
 | _,_,_, .cons r t, .cons r' t'=>by rw [r.fun r',RKeysP.fun t t']
theorem RKeys.fun {d:D} {k k':List Key} (a:RKeys d k) (b:RKeys d k'):k=k':=by
 cases d <;> first
  | exact a.elim
  | exact RKeysP.fun a b
section
variable {κ:Type} [DecidableEq κ] {K:Frag} {H:Hp} {RK:D -> κ -> Prop} (inj:∀ {d e:D} {k : κ},RK d k->RK e k->d=e) (fn:∀ {d:D} {k k' : κ},RK d k->RK d k'->k=k')
include inj fn
theorem gH {k:D} {q : κ} (j:RK k q):∀ {kvs:List (D×D)} {ps:List (κ × V)},ES (fun p r=>RK p.1 r.1/\RD K H p.2 r.2) kvs ps ->
 (∀ d,dget kvs k=some d -> ∃ v,bK ps q=some v/\RD K H d v)/\(dget kvs k=none->bK ps q=none)
 | _,_, .nil=>⟨fun d e=>by simp [dget] at e,fun _=>rfl⟩
 | _,_, .cons (a:=p) (b:=r) (l₂ := ps) B t=>by
   obtain ⟨F,G⟩:=gH j t
   by_cases e:p.1=k
   ·have e':r.1=q:=by
     have h1:=B.1;rw [e] at h1;exact fn h1 j
    refine ⟨fun d he => ?_,fun he => ?_⟩
    ·simp [dget,FQ,e] at he;subst he;exact ⟨r.2,eh e',B.2⟩
    ·simp [dget,FQ,e] at he
   ·have e' : ¬ r.1=q:=fun z=>e (by
     have h1:=B.1;rw [z] at h1;exact inj h1 j)
    have eq1:∀ l:List (D×D),dget (p::l) k=dget l k:=fun l=>by simp [dget,FQ,e]
    have eq2:bK (r::ps) q=bK ps q:=el e';refine ⟨fun d he => ?_,fun he => ?_⟩
    ·rw [eq1] at he;rw [eq2];exact F d he
    ·rw [eq1] at he;rw [eq2];exact G he
end
section
variable {X:Cx}
theorem r9 {K:Frag} {H:Hp} {a:Addr} {ps:List (List Key×V)} {kvs:List (D×D)} {k:D} {v:V} (B:Rd H a (.dT ps)) (pr:ES (fun (p:D×D) (q:List Key×V)=>RKeys p.1 q.1/\RD K H p.2 q.2) kvs ps) (ok:bu k=true) (rk:RD K H k v) :
 ∃ o,DGet H a v o/\(∀ d,dget kvs k=some d -> ∃ w,o=some w/\RD K H d w)/\(dget kvs k=none->o=none):=by
 obtain ⟨q,j⟩:=fH ok;obtain ⟨g1,g2⟩:=gH (RK:=RKeys) RKeys.inj RKeys.fun j pr;refine ⟨bK ps q, ?_,g1,g2⟩
 cases k <;> first
  | exact j.elim
  | (obtain ⟨b,us,rfl,z,ru⟩:=Nz (fI ok) rk
     rw [dr j ru] at z;exact .inr ⟨ps,q,b,B,rfl,z,rfl⟩)
theorem jd {K:Frag} {M:Mem} {H:Hp} {a:Addr} {t:Bool} {kvs:List (D×D)} {k:D} {v:V} (rm:RM K M H) (e:M a=some (.dct t kvs)) (ok:eA t k=true) (rk:RD K H k v) :
 ∃ o,DGet H a v o/\(∀ d,dget kvs k=some d -> ∃ w,o=some w/\RD K H d w)/\(dget kvs k=none->o=none):=by
 have ro:=rm a _ e
 cases t with
 | false =>
   obtain ⟨ps,j,pr⟩:=ro;obtain ⟨q,z⟩:=kL (show cP k=true from ok);obtain ⟨g1,g2⟩:=gH (RK:=RKey) RKey.inj RKey.fun z pr;refine ⟨bK ps q, ?_,g1,g2⟩;rw [jc z rk];exact DGet.k j
 | true =>
   obtain ⟨ps,j,pr⟩:=ro;exact r9 (.inl j) pr ok rk
theorem xp (j:X.A.units+1 < Gv):IxR X (fun x y H Q => ∃ a v,x = .ref a/\DGet H a y (some v)/\Q v H):=by
 intro value slice pins s σ H x y v u Q I rx ry h hs;obtain ⟨a,w,rfl,g,q⟩:=h
 cases rx
 have hd:IsD H a:=by
  rcases g with ⟨kvs,k,e,_⟩ | ⟨kvs,k,b,e,_⟩
  ·exact .inl ⟨kvs,e⟩
  ·exact .inr ⟨kvs,e⟩
 obtain ⟨z,_⟩:=ig I hd;exact tail_any z PySem.F.slot_dict_getitem.lookup (qR j I g ry fun w' s' I' r'=>⟨w,H,I',r',q⟩) hs
theorem BB (G:X.A.units+1 < Gv):IxR X (l2 X.K wIx):=by
 refine IxR.of (ix_list.or (ix_tup.or (xp G))) fun v u H Q h => ?_;obtain ⟨x,y,M,rm,rx,ry,q⟩:=h
 cases x with
 | tup ds =>
   obtain ⟨i,d,rfl,e,q⟩:=q;obtain ⟨a,vs,rfl,j,rs⟩:=Nt rx
   cases Nk.mp ry
   obtain ⟨w,hw,rw'⟩:=kT rs e;exact .inr (.inl ⟨a,vs,i,w,rfl,rfl,j,hw,q w H Ext.refl rm rw'⟩)
 | con ds =>
   obtain ⟨i,d,rfl,e,q⟩:=q;obtain ⟨a,vs,rfl,j,rs⟩:=Nr.mp rx
   cases Nk.mp ry
   obtain ⟨w,hw,rw'⟩:=kT rs e;exact .inl ⟨a,vs,i,w,rfl,rfl,j.sq,hw,q w H Ext.refl rm rw'⟩
 | ref a =>
   cases Nl.mp rx
   rcases q with ⟨ds,i,d,z,rfl,B,q⟩ | ⟨t,kvs,d,z,F,B,q⟩ | ⟨kvs,d,z,F,B,q⟩
   ·cases Nk.mp ry
    obtain ⟨vs,j,rs⟩:=rm _ _ z;obtain ⟨w,hw,rw'⟩:=kT rs B;exact .inl ⟨a,vs,i,w,rfl,rfl,SqL.of j,hw,q w H Ext.refl rm rw'⟩
   ·obtain ⟨o,g,g1,_⟩:=jd rm z F ry;obtain ⟨w,rfl,rw'⟩:=g1 d B;exact .inr (.inr ⟨a,w,rfl,g,q w H Ext.refl rm rw'⟩)
   ·obtain ⟨ob,ps,J,pr⟩:=rm _ _ z;obtain ⟨o,g,g1,_⟩:=r9 (.inr ⟨ob,J⟩) pr F ry;obtain ⟨w,rfl,rw'⟩:=g1 d B;exact .inr (.inr ⟨a,w,rfl,g,q w H Ext.refl rm rw'⟩)
 | _=>exact q.elim
noncomputable def gI (M:Mem):D->Option Nat
 | .tup ds=>some ds.length
 | .con ds=>some ds.length
 | .ref a=>match M a with
  | some (.lst ds)=>some ds.length
  | _=>none
 | _=>none
noncomputable def eZ:RAd:=fun xs M Q => ∃ x n,xs=[x]/\gI M x=some n/\Q (.int n) M
theorem kU:aM eZ:=fun _ _ _ _ h ⟨x,n,e,l,q⟩=>⟨x,n,e,l,h _ _ q⟩
theorem RDs.one {K:Frag} {H:Hp} {d:D} {vs:List V} (h:RDs K H [d] vs):∃ v,vs=[v]/\RD K H d v:=by
 obtain ⟨v,r,rfl,h1,h2⟩:=Nm.mp h;rw [RDs.nil_iff.mp h2];exact ⟨v,rfl,h1⟩
theorem RDs.two {K:Frag} {H:Hp} {d e:D} {vs:List V} (h:RDs K H [d,e] vs):∃ v u,vs=[v,u]/\RD K H d v/\RD K H e u:=by
 obtain ⟨v,r,rfl,h1,h2⟩:=Nm.mp h;obtain ⟨u,rfl,j⟩:=RDs.one h2;exact ⟨v,u,rfl,h1,j⟩
theorem pD:CallR X (.builtin "len") (lR X.K eZ):=by
 refine CallR.of tV fun vs H Q h => ?_;obtain ⟨ds,M,rm,rs,x,n,rfl,l,q⟩:=h;obtain ⟨v,rfl,r⟩:=rs.one;refine ⟨v,n,rfl, ?_,q _ H Ext.refl rm (Nk.mpr rfl)⟩
 cases x with
 | tup ds =>
   cases l
   obtain ⟨a,us,rfl,j,ru⟩:=Nt r;exact .inr ⟨us,j,ru.length.symm⟩
 | con ds =>
   cases l
   obtain ⟨a,us,rfl,j,ru⟩:=Nr.mp r;exact .inl ⟨us,j.sq,ru.length.symm⟩
 | ref a =>
   cases Nl.mp r
   simp only [gI] at l
   cases e:M a with
   | none=>rw [e] at l;cases l
   | some o =>
     rw [e] at l
     cases o with
     | dct _ _=>cases l
     | fdc _=>cases l
     | lst ds =>
       cases l
       obtain ⟨us,j,ru⟩:=rm _ _ e;exact .inl ⟨us,SqL.of j,ru.length.symm⟩
 | _=>cases l
noncomputable def kW:RAd:=fun xs M Q => ∃ i,xs=[.int i]/\Q (.int (if i < 0 then -i else i)) M
noncomputable def ky:RAd:=fun xs M Q => ∃ i j,xs=[.int i, .int j]/\Q (.int (if j > i then j else i)) M
noncomputable def kz:RAd:=fun xs M Q => ∃ i j,xs=[.int i, .int j]/\Q (.int (if j < i then j else i)) M
noncomputable def kX:RAd:=fun xs M Q=>(∃ i,xs=[.int i]/\Q (.int i) M) ∨ ∃ k,xs=[.bl k]/\Q (.int (if k then 1 else 0)) M
theorem kY:aM kW:=fun _ _ _ _ h ⟨i,e,q⟩=>⟨i,e,h _ _ q⟩
theorem jL:aM ky:=fun _ _ _ _ h ⟨i,j,e,q⟩=>⟨i,j,e,h _ _ q⟩
theorem jM:aM kz:=fun _ _ _ _ h ⟨i,j,e,q⟩=>⟨i,j,e,h _ _ q⟩
theorem kZ:aM kX:=fun _ _ _ _ h q=>q.elim (fun ⟨i,e,q⟩ => .inl ⟨i,e,h _ _ q⟩) fun ⟨i,e,q⟩ => .inr ⟨i,e,h _ _ q⟩
theorem pE:CallR X (.builtin "abs") (lR X.K kW):=by
 refine CallR.of tU fun vs H Q h => ?_;obtain ⟨ds,M,rm,rs,i,rfl,q⟩:=h;obtain ⟨v,rfl,r⟩:=rs.one
 cases Nk.mp r
 exact ⟨i,rfl,q _ H Ext.refl rm (Nk.mpr rfl)⟩
theorem ny (z:X.calm=true):CallR X (.builtin "max") (lR X.K ky):=by
 refine CallR.of (qG z) fun vs H Q h => ?_;obtain ⟨ds,M,rm,rs,i,j,rfl,q⟩:=h;obtain ⟨v,u,rfl,B,F⟩:=rs.two
 cases Nk.mp B
 cases Nk.mp F
 exact ⟨i,j,rfl,q _ H Ext.refl rm (Nk.mpr rfl)⟩
theorem nA (z:X.calm=true):CallR X (.builtin "min") (lR X.K kz):=by
 refine CallR.of (qH z) fun vs H Q h => ?_;obtain ⟨ds,M,rm,rs,i,j,rfl,q⟩:=h;obtain ⟨v,u,rfl,B,F⟩:=rs.two
 cases Nk.mp B
 cases Nk.mp F
 exact ⟨i,j,rfl,q _ H Ext.refl rm (Nk.mpr rfl)⟩
theorem pF:CallR X (.type "int") (lR X.K kX):=by
 refine CallR.of qI fun vs H Q h => ?_;obtain ⟨ds,M,rm,rs,⟨i,rfl,q⟩ | ⟨i,rfl,q⟩⟩:=h
 ·obtain ⟨v,rfl,r⟩:=rs.one
  cases Nk.mp r
  exact .inl ⟨i,rfl,q _ H Ext.refl rm (Nk.mpr rfl)⟩
 ·obtain ⟨v,rfl,r⟩:=rs.one
  cases Np.mp r
  exact .inr ⟨i,rfl,q _ H Ext.refl rm (Nk.mpr rfl)⟩
noncomputable def aJ (M:Mem):D->Option (List D)
 | .tup ds=>some ds
 | .con ds=>some ds
 | .ref a=>match M a with
  | some (.lst ds)=>some ds
  | _=>none
 | _=>none
theorem rf {K:Frag} {M:Mem} {H:Hp} {x:D} {ds:List D} {v:V} (rm:RM K M H) (r:RD K H x v) (e:aJ M x=some ds):∃ p vs,v = .ref p/\(SqL K H p vs∨SqT K H p vs)/\RDs K H ds vs:=by
 cases x with
 | tup es =>
   cases e
   obtain ⟨a,us,rfl,j,ru⟩:=Nt r;exact ⟨a,us,rfl, .inr j,ru⟩
 | con es =>
   cases e
   obtain ⟨a,us,rfl,j,ru⟩:=Nr.mp r;exact ⟨a,us,rfl, .inl j.sq,ru⟩
 | ref a =>
   cases Nl.mp r
   simp only [aJ] at e
   cases e0:M a with
   | none=>rw [e0] at e;cases e
   | some o =>
     rw [e0] at e
     cases o with
     | dct _ _=>cases e
     | fdc _=>cases e
     | lst es =>
       cases e
       obtain ⟨us,j,ru⟩:=rm _ _ e0;exact ⟨a,us,rfl, .inl (SqL.of j),ru⟩
 | _=>cases e
noncomputable def pG:RAd:=fun xs M Q => ∃ x ds,xs=[x]/\aJ M x=some ds /\ ∀ p,M p=none->Q (.ref p) (ag M p (.lst ds))
noncomputable def ir:RAd:=fun xs M Q => ∃ x ds,xs=[x]/\aJ M x=some ds/\Q (.tup ds) M
theorem jN:aM pG:=fun _ _ _ _ h ⟨x,ds,e,l,q⟩=>⟨x,ds,e,l,fun p n=>h _ _ (q p n)⟩
theorem iu:aM ir:=fun _ _ _ _ h ⟨x,ds,e,l,q⟩=>⟨x,ds,e,l,h _ _ q⟩
theorem nB:CallR X (.type "list") (lR X.K pG):=by
 refine CallR.of kE fun vs H Q h => ?_;obtain ⟨ds,M,rm,rs,x,es,rfl,l,q⟩:=h;obtain ⟨v,rfl,r⟩:=rs.one;obtain ⟨p,us,rfl,sq,ru⟩:=rf rm r l;exact ⟨p,us,rfl,sq,fun l' n=>cr rm ru q n⟩
theorem lc:CallR X (.type "tuple") (lR X.K ir):=by
 refine CallR.of ko fun vs H Q h => ?_;obtain ⟨ds,M,rm,rs,x,es,rfl,l,q⟩:=h;obtain ⟨v,rfl,r⟩:=rs.one
 cases x with
 | tup ds' =>
   cases l
   obtain ⟨a,us,rfl,j,ru⟩:=Nt r;exact ⟨a,us,rfl, .inr ⟨j,q _ H Ext.refl rm r⟩⟩
 | con ds' =>
   cases l
   obtain ⟨a,us,rfl,j,ru⟩:=Nr.mp r;exact ⟨a,us,rfl, .inl ⟨j.sq,fun l' n=>cY rm ru q n⟩⟩
 | ref a =>
   cases Nl.mp r
   simp only [aJ] at l
   cases e0:M a with
   | none=>rw [e0] at l;cases l
   | some o =>
     rw [e0] at l
     cases o with
     | dct _ _=>cases l
     | fdc _=>cases l
     | lst es' =>
       cases l
       obtain ⟨us,j,ru⟩:=rm _ _ e0;exact ⟨a,us,rfl, .inl ⟨SqL.of j,fun l' n=>cY rm ru q n⟩⟩
 | _=>cases l
end
end
section
section
variable {X:Cx}
noncomputable def uA (M:Mem):D->Option Bool
 | .non=>some false
 | .bl b=>some b
 | .int i=>some (i != 0)
 | .tup ds=>some (!ds.isEmpty)
 | .con ds=>some (!ds.isEmpty)
 | .ref a=>match M a with
  | some (.lst ds)=>some (!ds.isEmpty)
  | _=>none
 | _=>none
noncomputable def lf (t:TEd):TTd:=fun ρ M Q=>t ρ M fun x M1 => ∃ b,uA M1 x=some b/\Q b M1
theorem uB {t:TEd} (h:ad t):aF (lf t):=fun ρ M Q Q' i q=>h _ _ _ _ (fun x z ⟨k,e,j⟩=>⟨k,e,i _ _ j⟩) q
theorem zv {K:Frag} {M:Mem} {H:Hp} {x:D} {b:Bool} {v:V} (rm:RM K M H) (r:RD K H x v) (e:uA M x=some b):tS K v H b:=by
 have emp:∀ {ds:List D} {vs:List V},RDs K H ds vs->(!ds.isEmpty) = !vs.isEmpty:=fun {ds vs} h=>by
  have l:=h.length
  cases ds <;> cases vs <;> first | rfl | (simp at l)
 cases x with
 | non=>cases e;cases Nu.mp r;rfl
 | bl k=>cases e;cases Np.mp r;rfl
 | int i=>cases e;cases Nk.mp r;rfl
 | tup ds =>
   cases e
   obtain ⟨a,vs,rfl,j,rs⟩:=Nt r;exact .inr (.inl ⟨vs,j,emp rs⟩)
 | con ds =>
   cases e
   obtain ⟨a,vs,rfl,j,rs⟩:=Nr.mp r;exact .inl ⟨vs,j.sq,emp rs⟩
 | ref a =>
   cases Nl.mp r
   simp only [uA] at e
   cases e0:M a with
   | none=>rw [e0] at e;cases e
   | some o =>
     rw [e0] at e
     cases o with
     | dct _ _=>cases e
     | fdc _=>cases e
     | lst ds =>
       cases e
       obtain ⟨vs,j,rs⟩:=rm _ _ e0;exact .inl ⟨vs,SqL.of j,emp rs⟩
 | str _=>cases e
 | fn _=>cases e
variable {a b:Expr} {ta tb:TEd} {pos:Pos}
theorem zw (m:ad ta) (B:PE X a (lE X.K ta)) (he:∀ whole,isTrue a X.env whole=(do let v <- whole;Jr a.pos;holding [v] (truthy v))):PT X a (lT X.K (lf ta)):=by
 refine PT.imp (tT B he) fun σ H Q h => ?_;obtain ⟨ρ,M,rs,rm,q⟩:=h;exact ⟨ρ,M,rs,rm,m _ _ _ _ (fun x J ⟨k,e,F⟩ v H1 G j z=>⟨k,zv j z e,F H1 G j⟩) q⟩
noncomputable def iw (t:TTd):TTd:=fun ρ M Q=>t ρ M fun c M1=>Q (!c) M1
theorem rg {t:TTd} (h:aF t):aF (iw t):=fun ρ M Q Q' i q=>h _ _ _ _ (fun c z j=>i _ _ j) q
theorem zx {tA:TTd} (m:aF tA) (j:PT X a (lT X.K tA)):PT X (.UnaryOp .Not a pos) (lT X.K (iw tA)):=by
 refine PT.imp (yH j) fun σ H Q h => ?_;obtain ⟨ρ,M,rs,rm,q⟩:=h;exact ⟨ρ,M,rs,rm,m _ _ _ _ (fun c B z=>z) q⟩
noncomputable def iy (t u:TTd):TTd:=fun ρ M Q=>t ρ M fun c M1=>if c=true then u ρ M1 Q else Q false M1
noncomputable def lg (t u:TTd):TTd:=fun ρ M Q=>t ρ M fun c M1=>if c=true then Q true M1 else u ρ M1 Q
theorem rh {t u:TTd} (h:aF t) (k:aF u):aF (iy t u):=fun ρ M Q Q' i q=>h _ _ _ _ (fun c z j=>by
 cases c with
 | true=>rw [if_pos rfl] at j ⊢;exact k _ _ _ _ i j
 | false=>rw [if_neg E2] at j ⊢;exact i _ _ j) q
theorem uC {t u:TTd} (h:aF t) (k:aF u):aF (lg t u):=fun ρ M Q Q' i q=>h _ _ _ _ (fun c z j=>by
 cases c with
 | true=>rw [if_pos rfl] at j ⊢;exact i _ _ j
 | false=>rw [if_neg E2] at j ⊢;exact k _ _ _ _ i j) q
theorem xq {tA:TTd} (j:PT X a (lT X.K tA)):PW X (.BoolOp .And [a] pos) (lT X.K tA):=wy j
theorem zy {tA:TTd} (j:PT X a (lT X.K tA)):PW X (.BoolOp .Or [a] pos) (lT X.K tA):=yF j
theorem zz {tA tB:TTd} {rest:List Expr} (mA:aF tA) (mB:aF tB) (F:PT X a (lT X.K tA)) (G:PW X (.BoolOp .And (b::rest) pos) (lT X.K tB)):PW X (.BoolOp .And (a::b::rest) pos) (lT X.K (iy tA tB)):=by
 refine PW.imp (yG F G) fun σ H Q h => ?_;obtain ⟨ρ,M,rs,rm,q⟩:=h;refine ⟨ρ,M,rs,rm,mA _ _ _ _ (fun c J z H1 B j => ?_) q⟩
 cases c with
 | true=>rw [if_pos rfl] at z ⊢;exact ⟨ρ,J,rs.mono (B.stab rm),j,mB _ _ _ _ (fun d M2 k=>k.ext B) z⟩
 | false=>rw [if_neg E2] at z ⊢;exact z H1 B j
theorem AT {tA tB:TTd} {rest:List Expr} (mA:aF tA) (mB:aF tB) (F:PT X a (lT X.K tA)) (G:PW X (.BoolOp .Or (b::rest) pos) (lT X.K tB)):PW X (.BoolOp .Or (a::b::rest) pos) (lT X.K (lg tA tB)):=by
 refine PW.imp (Ar F G) fun σ H Q h => ?_;obtain ⟨ρ,M,rs,rm,q⟩:=h;refine ⟨ρ,M,rs,rm,mA _ _ _ _ (fun c J z H1 B j => ?_) q⟩
 cases c with
 | true=>rw [if_pos rfl] at z ⊢;exact z H1 B j
 | false=>rw [if_neg E2] at z ⊢;exact ⟨ρ,J,rs.mono (B.stab rm),j,mB _ _ _ _ (fun d M2 k=>k.ext B) z⟩
noncomputable def iz (ta tb:TEd):TEd:=fun ρ M Q=>ta ρ M fun x M1 => ∃ c,x = .bl c/\if c=true then tb ρ M1 Q else Q (.bl false) M1
noncomputable def lh (ta tb:TEd):TEd:=fun ρ M Q=>ta ρ M fun x M1 => ∃ c,x = .bl c/\if c=true then Q (.bl true) M1 else tb ρ M1 Q
noncomputable def iA (ta:TEd):TEd:=fun ρ M Q=>ta ρ M fun x M1 => ∃ c,x = .bl c/\Q (.bl (!c)) M1
theorem rj (h:ad ta) (k:ad tb):ad (iz ta tb):=fun ρ M Q Q' i q=>h _ _ _ _ (fun x z ⟨c,e,j⟩=>⟨c,e,by
 cases c with
 | true=>rw [if_pos rfl] at j ⊢;exact k _ _ _ _ i j
 | false=>rw [if_neg E2] at j ⊢;exact i _ _ j⟩) q
theorem uD (h:ad ta) (k:ad tb):ad (lh ta tb):=fun ρ M Q Q' i q=>h _ _ _ _ (fun x z ⟨c,e,j⟩=>⟨c,e,by
 cases c with
 | true=>rw [if_pos rfl] at j ⊢;exact i _ _ j
 | false=>rw [if_neg E2] at j ⊢;exact k _ _ _ _ i j⟩) q
theorem rl (h:ad ta):ad (iA ta):=fun ρ M Q Q' i q=>h _ _ _ _ (fun x z ⟨c,e,j⟩=>⟨c,e,i _ _ j⟩) q
theorem rn {op:BoolOp} {t:TEd} (h:PE X a (lE X.K t)):PE X (.BoolOp op [a] pos) (lE X.K t):=yI h
theorem zA {rest:List Expr} (ma:ad ta) (mb:ad tb) (G:PE X a (lE X.K ta)) (J:PE X (.BoolOp .And (b::rest) pos) (lE X.K tb)):PE X (.BoolOp .And (a::b::rest) pos) (lE X.K (iz ta tb)):=by
 refine PE.imp (yJ G J) fun σ H Q h => ?_;obtain ⟨ρ,M,rs,rm,q⟩:=h;refine ⟨ρ,M,rs,rm,ma _ _ _ _ (fun x L ⟨c,e,z⟩ v H1 B j F => ?_) q⟩;subst e;refine ⟨c,Np.mp F, ?_⟩
 cases c with
 | true=>rw [if_pos rfl] at z ⊢;exact ⟨ρ,L,rs.mono (B.stab rm),j,mb _ _ _ _ (fun d M2 k=>k.ext B) z⟩
 | false=>rw [if_neg E2] at z ⊢;exact z _ H1 B j (Np.mpr rfl)
theorem AU {rest:List Expr} (ma:ad ta) (mb:ad tb) (G:PE X a (lE X.K ta)) (J:PE X (.BoolOp .Or (b::rest) pos) (lE X.K tb)):PE X (.BoolOp .Or (a::b::rest) pos) (lE X.K (lh ta tb)):=by
 refine PE.imp (Av G J) fun σ H Q h => ?_;obtain ⟨ρ,M,rs,rm,q⟩:=h;refine ⟨ρ,M,rs,rm,ma _ _ _ _ (fun x L ⟨c,e,z⟩ v H1 B j F => ?_) q⟩;subst e;refine ⟨c,Np.mp F, ?_⟩
 cases c with
 | true=>rw [if_pos rfl] at z ⊢;exact z _ H1 B j (Np.mpr rfl)
 | false=>rw [if_neg E2] at z ⊢;exact ⟨ρ,L,rs.mono (B.stab rm),j,mb _ _ _ _ (fun d M2 k=>k.ext B) z⟩
theorem zB (ma:ad ta) (B:PE X a (lE X.K ta)):PE X (.UnaryOp .Not a pos) (lE X.K (iA ta)):=by
 refine PE.imp (yK B) fun σ H Q h => ?_;obtain ⟨ρ,M,rs,rm,q⟩:=h;refine ⟨ρ,M,rs,rm,ma _ _ _ _ (fun x J ⟨c,e,F⟩ v H1 G j z => ?_) q⟩;subst e;exact ⟨c,Np.mp z,F _ H1 G j (Np.mpr rfl)⟩
noncomputable def wIf (t:TTd) (ta tb:TEd):TEd:=fun ρ M Q=>t ρ M fun c M1=>if c=true then ta ρ M1 Q else tb ρ M1 Q
theorem xr {t:TTd} (h:aF t) (z:ad ta) (B:ad tb):ad (wIf t ta tb):=fun ρ M Q Q' i q=>h _ _ _ _ (fun c F j=>by
 cases c with
 | true=>rw [if_pos rfl] at j ⊢;exact z _ _ _ _ i j
 | false=>rw [if_neg E2] at j ⊢;exact B _ _ _ _ i j) q
theorem AV {c:Expr} {t:TTd} (mt:aF t) (ma:ad ta) (mb:ad tb) (G:PT X c (lT X.K t)) (J:PE X a (lE X.K ta)) (L:PE X b (lE X.K tb)):PE X (.IfExp c a b pos) (lE X.K (wIf t ta tb)):=by
 refine PE.imp (tM G J L) fun σ H Q h => ?_;obtain ⟨ρ,M,rs,rm,q⟩:=h;refine ⟨ρ,M,rs,rm,mt _ _ _ _ (fun x F z H1 B j => ?_) q⟩
 cases x with
 | true=>rw [if_pos rfl] at z ⊢;exact ⟨ρ,F,rs.mono (B.stab rm),j,ma _ _ _ _ (fun d M2 k=>k.ext B) z⟩
 | false=>rw [if_neg E2] at z ⊢;exact ⟨ρ,F,rs.mono (B.stab rm),j,mb _ _ _ _ (fun d M2 k=>k.ext B) z⟩
noncomputable def eC (xs:List D) (lo hi:Option Int):List D:=(xs.drop (HT.sIx xs.length 0 lo)).take (HT.sIx xs.length xs.length hi - HT.sIx xs.length 0 lo)
theorem lj {K:Frag} {H:Hp} {ds:List D} {vs:List V} (r:RDs K H ds vs) (lo hi:Option Int):RDs K H (eC ds lo hi) (eU vs lo hi):=by
 unfold eC eU;rw [r.length];exact (r.drop _).take _
noncomputable abbrev TOd:=ao->Mem->(Option Int->Mem->Prop)->Prop
def eE (T:TOd):Prop := ∀ ρ M Q Q',(∀ d M',Q d M'->Q' d M')->T ρ M Q->T ρ M Q'
noncomputable def dO:TOd:=fun _ M Q=>Q none M
noncomputable def iB (t:TEd):TOd:=fun ρ M Q=>t ρ M fun x M1 => ∃ i,x = .int i/\Q (some i) M1
theorem nC:eE dO:=fun _ _ _ _ h q=>h _ _ q
theorem rp (h:ad ta):eE (iB ta):=fun ρ M Q Q' i q=>h _ _ _ _ (fun x z ⟨c,e,j⟩=>⟨c,e,i _ _ j⟩) q
noncomputable def lO (K:Frag) (T:TOd):TO:=fun σ H Q => ∃ ρ M,RS K H σ ρ /\ RM K M H/\T ρ M (fun o M' => ∀ H',Ext M H M' H'->RM K M' H'->Q o H')
theorem xt:PO X none (lO X.K dO):=fun pins s σ H Q I h=>by
 obtain ⟨ρ,M,rs,rm,q⟩:=h;exact wM pins s σ H Q I (q H Ext.refl rm)
theorem xu {e:Expr} (m:ad ta) (h:PE X e (lE X.K ta)):PO X (some e) (lO X.K (iB ta)):=fun pins s σ H Q I hq=>by
 obtain ⟨ρ,M,rs,rm,q⟩:=hq;refine wN h pins s σ H Q I ⟨ρ,M,rs,rm,m _ _ _ _ (fun x G ⟨i,e,B⟩ v H1 F j z => ?_) q⟩;subst e;exact ⟨i,Nk.mp z,B H1 F j⟩
noncomputable def fb:D->Option Int->Option Int->Mem->QD->Prop:=fun x lo hi M Q=>match x with
 | .tup ds=>Q (.tup (eC ds lo hi)) M
 | .ref a => ∃ ds,M a=some (.lst ds) /\ ∀ p,M p=none->Q (.ref p) (ag M p (.lst (eC ds lo hi)))
 | .con ds => ∀ p,M p=none->Q (.ref p) (ag M p (.lst (eC ds lo hi)))
 | _=>False
noncomputable def wSl (te:TEd) (tl th:TOd):TEd:=fun ρ M Q=>te ρ M fun x M1=>tl ρ M1 fun l M2=>th ρ M2 fun u M3=>fb x l u M3 Q
theorem pH {x:D} {lo hi:Option Int} {M:Mem} {Q Q':QD} (h:∀ d M',Q d M'->Q' d M') (q:fb x lo hi M Q):fb x lo hi M Q':=by
 cases x with
 | tup ds=>exact h _ _ q
 | ref a=>obtain ⟨ds,e,q⟩:=q;exact ⟨ds,e,fun p n=>h _ _ (q p n)⟩
 | con ds=>exact fun p n=>h _ _ (q p n)
 | _=>exact q.elim
theorem xv {tl th:TOd} (m:ad ta) (ml:eE tl) (mh:eE th):ad (wSl ta tl th):=fun ρ M Q Q' i q =>
 m _ _ _ _ (fun x F j=>ml _ _ _ _ (fun l M2 z=>mh _ _ _ _ (fun u G B=>pH i B) z) j) q
theorem AW {e:Expr} {lo hi:Option Expr} {tl th:TOd} {p2:Pos} (m:ad ta) (ml:eE tl) (mh:eE th) (he:PE X e (lE X.K ta)) (hl:PO X lo (lO X.K tl)) (hu:PO X hi (lO X.K th)) :
 PE X (.Subscript e (.Slice lo hi none p2) pos) (lE X.K (wSl ta tl th)):=by
 refine PE.imp (tY (sl_tup.or (sl_list.or u4)) he hl hu) fun σ H Q h => ?_;obtain ⟨ρ,M,rs,rm,q⟩:=h;refine ⟨ρ,M,rs,rm,m _ _ _ _ (fun x M1 q1 v H1 O G U => ?_) q⟩;refine ⟨ρ,M1,rs.mono (O.stab rm),G,ml _ _ _ _ (fun l M2 q2 H2 Y L => ?_) q1⟩;refine ⟨ρ,M2,(rs.mono (O.stab rm)).mono (Y.stab G),L,mh _ _ _ _ (fun u M3 z H3 Z j => ?_) q2⟩;have B:=O.trans (Y.trans Z);have F:=(U.mono (Y.stab G)).mono (Z.stab L)
 cases x with
 | tup ds =>
   obtain ⟨a,vs,rfl,J,r⟩:=Nt F
   by_cases hw:HT.sIx vs.length 0 l=0/\HT.sIx vs.length vs.length u=vs.length
   ·refine .inr (.inr ⟨a,vs,rfl,J,hw, ?_⟩);have e:eC ds l u=ds:=by
     unfold eC;rw [<- r.length,hw.1,hw.2,r.length];simp
    simp only [fb] at z;rw [e] at z;exact z.ext B _ H3 Ext.refl j F
   ·simp only [fb] at z;exact .inl ⟨a,vs,rfl,J,hw,fun p n=>cY j (lj r l u) (z.ext B) n⟩
 | ref a =>
   cases Nl.mp F
   obtain ⟨ds,e,z⟩:=z;obtain ⟨vs,J,r⟩:=j _ _ e;exact .inr (.inl ⟨a,vs,rfl,SqL.of J,fun p n=>cr j (lj r l u) (fun p' n'=>(z p' n').ext B) n⟩)
 | con ds =>
   obtain ⟨a,vs,rfl,J,r⟩:=Nr.mp F;exact .inr (.inl ⟨a,vs,rfl,J.sq,fun p n=>cr j (lj r l u) (fun p' n'=>(z p' n').ext B) n⟩)
 | _=>exact z.elim
end
end
section
section
variable {X:Cx}
noncomputable def tyN (M:Mem):D->Option String
 | .non=>some "NoneType"
 | .bl _=>some "bool"
 | .int _=>some "int"
 | .str _=>some "str"
 | .tup _=>some "tuple"
 | .ref a=>match M a with
  | some (.lst _)=>some "list"
  | some (.dct _ _)=>some "dict"
  | _=>none
 | .con _=>none
 | .fn _=>none
noncomputable def uE (T t:String):Bool:=t==T || (t == "bool" && T == "int")
theorem AX {K:Frag} {M:Mem} {H:Hp} {x:D} {t:String} {v:V} (rm:RM K M H) (r:RD K H x v) (e:tyN M x=some t):ci K H v (.type t):=by
 cases x with
 | non=>cases e;cases Nu.mp r;exact .non
 | bl k=>cases e;cases Np.mp r;exact .bl k
 | int i=>cases e;cases Nk.mp r;exact .int i
 | str i=>cases e;cases Nv.mp r;exact .str i
 | tup ds =>
   cases e
   obtain ⟨a,vs,rfl,j,rs⟩:=Nt r;exact .tup j
 | con ds=>cases e
 | fn _=>cases e
 | ref a =>
   cases Nl.mp r
   simp only [tyN] at e
   cases e0:M a with
   | none=>rw [e0] at e;cases e
   | some o =>
     rw [e0] at e
     cases o with
     | lst ds =>
       cases e
       obtain ⟨vs,j,rs⟩:=rm _ _ e0;exact .lst j
     | dct t kvs =>
       cases e
       have ro:=rm _ _ e0
       cases t with
       | false=>obtain ⟨ps,j,_⟩:=ro;exact .dK j
       | true=>obtain ⟨ps,j,_⟩:=ro;exact .dT j
     | fdc kvs=>cases e
noncomputable def cZ:List String := ["NoneType", "bool", "int", "str", "tuple", "list", "dict"]
theorem xw (K:Frag):∀ T∈["bool", "int", "str", "tuple", "list", "dict"], ∀ t∈cZ,PySem.W.kitOne K (.type t) (.type T)=some (uE T t):=by
 intro T j t q;simp only [cZ,Eb,EL,or_false] at j q
 rcases j with rfl | rfl | rfl | rfl | rfl | rfl <;> rcases q with rfl | rfl | rfl | rfl | rfl | rfl | rfl <;> rfl
noncomputable def iC (T:String) (ta:TEd):TEd:=fun ρ M Q=>ta ρ M fun x M1 => ∃ t,tyN M1 x=some t/\Q (.bl (uE T t)) M1
theorem rq {T:String} {ta:TEd} (h:ad ta):ad (iC T ta):=fun ρ M Q Q' i q=>h _ _ _ _ (fun x z ⟨t,e,j⟩=>⟨t,e,i _ _ j⟩) q
theorem xx {M:Mem} {x:D} {t:String} (e:tyN M x=some t):t∈cZ:=by
 cases x with
 | ref a =>
   simp only [tyN] at e
   cases e0:M a with
   | none=>rw [e0] at e;cases e
   | some o=>rw [e0] at e;cases o <;> cases e <;> simp [cZ]
 | con _=>cases e
 | fn _=>cases e
 | _=>cases e;simp [cZ]
theorem rA (T:String) (j:T∈["bool", "int", "str", "tuple", "list", "dict"]):CallR X (.builtin "isinstance") (fun vs H Q => ∃ v t,vs=[v, .ty T]/\ci X.K H v (.type t)/\t∈cZ/\Q (.bl (uE T t)) H):=by
 intro pins s σ H xs us Q I r h;obtain ⟨v,t,rfl,ty,z,q⟩:=h;obtain ⟨u,c,rfl,ru,rc⟩:=p9 r
 cases rc
 exact qK I ru ty (xw X.K T j t z) fun tk=>⟨.bl _,H,I.tok tk,rfl,q⟩
theorem xz {e:Expr} {ta:TEd} {T:String} {y:Str} {p p2 pos:Pos} (L:T∈["bool", "int", "str", "tuple", "list", "dict"]) (m:ad ta) (he:PE X e (lE X.K ta)) (O:Gl X "isinstance") (hm:X.mg "isinstance" = none)
 (z:Gl X y) (B:X.mg y=none) (U:H8 y=some (.type T)) (Y:y ≠ "__name__") (F:(y==("__debug__":Str))=false)
 (hs:Et [e, .Name y p2] X.env=(false,eval e X.env)::Et [.Name y p2] X.env) (G:(HS pos (Et [.Name y p2] X.env)).any (·.1)=false) :
 PE X (.Call (.Name "isinstance" p) [e, .Name y p2] [] pos) (lE X.K (iC T ta)):=by
 have h2:PE X (.Name y p2) (tC (.ty T)):=wx z B U rfl Y F;refine PE.imp (bA (rA T L) O hm (by decide +kernel) (j7 he (j7 h2 qL rfl) hs) (by decide) (by decide) hs G) fun σ H Q h => ?_
 obtain ⟨ρ,M,rs,rm,q⟩:=h;exact ⟨ρ,M,rs,rm,m _ _ _ _ (fun x M1 ⟨t,e,Z⟩ v H1 x1 j J=>⟨v,t,rfl,AX j J e,xx e,Z _ H1 x1 j (Np.mpr rfl)⟩) q⟩
noncomputable def wBM (rd:D->List D->Mem->QD->Prop) (to:TEd) (t:TAd):TEd:=fun ρ M Q=>to ρ M fun x M1=>(∃ a xs,x = .ref a/\M1 a=some (.lst xs))/\t ρ M1 fun ds M2=>rd x ds M2 Q
def iD (rd:D->List D->Mem->QD->Prop):Prop := ∀ x ds M Q Q',(∀ d M',Q d M'->Q' d M')->rd x ds M Q->rd x ds M Q'
theorem xA {rd:D->List D->Mem->QD->Prop} {to:TEd} {t:TAd} (j:iD rd) (mo:ad to) (mt:aV t):ad (wBM rd to t):=fun ρ M Q Q' i q =>
 mo _ _ _ _ (fun x F ⟨e,z⟩=>⟨e,mt _ _ _ _ (fun ds M2 B=>j _ _ _ _ _ i B) z⟩) q
theorem AY {K:Frag} {M:Mem} {H:Hp} {x:D} {v:V} (rm:RM K M H) (r:RD K H x v) (h:∃ a xs,x = .ref a/\M a=some (.lst xs)):tyV K "list" v H:=by
 obtain ⟨a,xs,rfl,e⟩:=h
 cases Nl.mp r
 obtain ⟨vs,j,_⟩:=rm _ _ e;exact .inl ⟨rfl,vs,SqL.of j⟩
theorem nV {K:Frag} {rd:D->List D->Mem->QD->Prop} {r:V->List V->Hp->VK->Prop} {to:TEd} {t:TAd} (L:iD rd) (mo:ad to) (mt:aV t)
 (O:∀ v vs H Q,lMt K rd v vs H Q->r v vs H Q) (σ:St) (H:Hp) (Q:VK) (h:lE K (wBM rd to t) σ H Q):tBM K "list" r (lE K to) (lA K t) σ H Q:=by
 obtain ⟨ρ,M,rs,rm,q⟩:=h;refine ⟨ρ,M,rs,rm,mo _ _ _ _ (fun x U ⟨e,Y⟩ v H1 G j z=>⟨AY j z e, ?_⟩) q⟩;refine ⟨ρ,U,rs.mono (G.stab rm),j,mt _ _ _ _ (fun ds M2 Z vs H2 J B F => ?_) Y⟩;exact O v vs H2 Q ⟨x,ds,M2,B,z.mono (J.stab j),F,L _ _ _ _ _ (fun d M' k=>k.ext (G.trans J)) Z⟩
noncomputable def je:D->List D->Mem->QD->Prop:=fun x ds M Q => ∃ a xs y,x = .ref a/\ds=[y]/\M a=some (.lst xs)/\xs.length < DY/\Q .non (ag M a (.lst (xs++[y])))
noncomputable def jf:D->List D->Mem->QD->Prop:=fun x ds M Q => ∃ a b xs ys,x = .ref a/\ds=[.ref b]/\M a=some (.lst xs)/\M b=some (.lst ys)/\xs.length+ys.length<=DY/\Q .non (ag M a (.lst (xs++ys)))
noncomputable def zC:D->List D->Mem->QD->Prop:=fun x ds M Q => ∃ a xs,x = .ref a/\ds=[]/\M a=some (.lst xs)/\Q .non (ag M a (.lst []))
theorem gv:iD je:=fun _ _ _ _ _ h ⟨a,xs,y,j,B,F,z,q⟩=>⟨a,xs,y,j,B,F,z,h _ _ q⟩
theorem gw:iD jf:=fun _ _ _ _ _ h ⟨a,b,xs,y,j,B,F,G,z,q⟩=>⟨a,b,xs,y,j,B,F,G,z,h _ _ q⟩
theorem nW {K:Frag} {M:Mem} {H:Hp} {Q:VK} {d:D} {v:V} {a:Addr} {o0:O} {ds:List D} {vs:List V} (rm:RM K M H) (m:M a=some o0) (rd:RDs K H ds vs) (r:RD K H d v) (q:KE' K M H Q d (ag M a (.lst ds))) (w:fz (some o0)=false:=by rfl) :
 Q v (upd H a (.lst vs)):=by
 have st:Stab H (upd H a (.lst vs)):=rm.stabPut m w;exact q v _ (Ext.put m w) (rm.put m ⟨vs,av,rd.mono st⟩ w) (r.mono st)
theorem uF {K:Frag} (v:V) (vs:List V) (H:Hp) (Q:VK) (h:lMt K je v vs H Q):nQ v vs H Q:=by
 obtain ⟨x,ds,M,rm,rx,rs,a,xs,y,rfl,rfl,e,z,q⟩:=h
 cases Nl.mp rx
 obtain ⟨w,rfl,rw'⟩:=rs.one;obtain ⟨us,j,ru⟩:=rm _ _ e;exact ⟨a,us,w,rfl,rfl,j,by rw [ru.length];exact z,nW rm e (ru.append (RDs.cons rw' RDs.nil)) (Nu.mpr rfl) q⟩
theorem uG {K:Frag} (v:V) (vs:List V) (H:Hp) (Q:VK) (h:lMt K jf v vs H Q):nR v vs H Q:=by
 obtain ⟨x,ds,M,rm,rx,rs,a,b,xs,y,rfl,rfl,e,B,z,q⟩:=h
 cases Nl.mp rx
 obtain ⟨w,rfl,rw'⟩:=rs.one
 cases Nl.mp rw'
 obtain ⟨us,F,ru⟩:=rm _ _ e;obtain ⟨ws,G,j⟩:=rm _ _ B;have l1:=ru.length;have l2:=j.length;exact ⟨a,b,us,ws,rfl,rfl,F,G,by lia,nW rm e (ru.append j) (Nu.mpr rfl) q⟩
noncomputable abbrev BT:=D->ao->Option ao
noncomputable abbrev BTs:=List D->ao->Option ao
noncomputable def br (i:Nat):BT:=fun d ρ => some (ρ.set i (some d))
noncomputable def eF:BTs:=fun ds ρ => match ds with | [] => some ρ | _=>none
noncomputable def bB (b:BT) (bs:BTs):BTs:=fun ds ρ => match ds with | d::r=>(b d ρ).bind fun ρ'=>bs r ρ' | [] => none
noncomputable def jg (bs:BTs):BT:=fun d ρ => match d with | .tup ds=>bs ds ρ | _=>none
noncomputable def lG (K:Frag) (b:BT):TG:=fun v σ H Q => ∃ d ρ ρ',RD K H d v/\RS K H σ ρ /\ b d ρ = some ρ' /\ ∀ σ',RS K H σ' ρ'->Q σ' H
noncomputable def lGs (K:Frag) (b:BTs):TGs:=fun vs σ H Q => ∃ ds ρ ρ',RDs K H ds vs/\RS K H σ ρ /\ b ds ρ = some ρ' /\ ∀ σ',RS K H σ' ρ'->Q σ' H
theorem PG.imp {e:Expr} {t t':TG} (h:PG X e t) (i:∀ v σ H Q,t' v σ H Q->t v σ H Q):PG X e t':=fun pins s σ H v u Q I r q=>h pins s σ H v u Q I r (i _ _ _ _ q)
theorem PGs.imp {e:List Expr} {t t':TGs} (h:PGs X e t) (i:∀ v σ H Q,t' v σ H Q->t v σ H Q):PGs X e t':=fun pins s σ H v u Q I r q=>h pins s σ H v u Q I r (i _ _ _ _ q)
theorem xB {i:Nat} {x:Str} {pos:Pos} (j:X.N.Nodup) (hi:X.N[i]? = some x) (hx:Loc X.env.scope x) (hf:X.fn x=true∨X.env.scope.names.lookup x=some .local):PG X (.Name x pos) (lG X.K (br i)) :=
 PG.imp (nM j hi hx hf) fun v σ H Q ⟨d, ρ, ρ',r,rs,e,q⟩=>by
  cases e
  exact q _ (rs.set i r)
theorem xC:PGs X [] (lGs X.K eF):=PGs.imp wF fun vs σ H Q ⟨ds, ρ, ρ',r,rs,e,q⟩=>by
 cases ds with
 | nil=>cases e;exact ⟨RDs.nil_iff.mp r,q σ rs⟩
 | cons _ _=>cases e
theorem uH {e:Expr} {es:List Expr} {b:BT} {bs:BTs} (h1:PG X e (lG X.K b)) (h2:PGs X es (lGs X.K bs)) (hs:(FV (e::es) X.env).map (·.2)=assign e X.env::(FV es X.env).map (·.2)) :
 PGs X (e::es) (lGs X.K (bB b bs)):=PGs.imp (tP h1 h2 hs) fun vs σ H Q ⟨ds, ρ, ρ',r,rs,e,q⟩=>by
 cases ds with
 | nil=>cases e
 | cons d ds =>
   obtain ⟨v,vr,rfl,z,B⟩:=Nm.mp r;simp only [bB] at e
   cases j:b d ρ with
   | none=>rw [j] at e;cases e
   | some ρ1 =>
     rw [j] at e;exact ⟨v,vr,rfl,d, ρ, ρ1,z,rs,j,fun σ' rs'=>⟨ds, ρ1, ρ',B,rs',e,q⟩⟩
theorem zD {es:List Expr} {k:Nat} {bs:BTs} {n:Nat} {pos:Pos} (z:X.calm=true) (hlen:∀ ds ρ ρ',bs ds ρ = some ρ'->ds.length=n) (h:PGs X es (lGs X.K bs)) (B:(FV es X.env).length=n) (j:(FV es X.env).findIdx? (·.1)=none) :
 PG X (.Tuple es k pos) (lG X.K (jg bs)):=PG.imp (yP z h B j) fun v σ H Q ⟨d, ρ, ρ',r,rs,e,q⟩=>by
 cases d with
 | tup ds =>
   obtain ⟨a,vs,rfl,F,rv⟩:=Nt r;exact ⟨a,vs,rfl,F,by rw [rv.length];exact hlen _ _ _ e,ds, ρ, ρ',rv,rs,e,q⟩
 | _=>cases e
noncomputable abbrev TId:=ao->Mem->(List D->(Mem->Prop)->Mem->Prop)->Prop
def bQ (T:TId):Prop := ∀ ρ M Q Q',(∀ xs c M',Q xs c M'->Q' xs c M')->T ρ M Q->T ρ M Q'
def Yl (H H':Hp):Prop:=H'=H ∨ ∃ q vs,H q=none/\H'=upd H q (.tup vs)
def fe (K:Frag) (H1:Hp) (xs:List D) (chk:Mem->Prop) (J:It):Prop := ∀ M H,Stab H1 H->RM K M H->chk M -> ∀ i,(xs.length<=i->J.stop i H)/\(i < xs.length->J.go i H /\
 ∀ x H',J.yld i H x H'->Yl H H' /\ ∃ d,xs[i]? = some d/\RD K H' d x)
noncomputable def lI (K:Frag) (T:TId):TI:=fun σ H R => ∃ ρ M,RS K H σ ρ /\ RM K M H/\T ρ M (fun xs chk M1 => ∀ J H1,Ext M H M1 H1->RM K M1 H1->fe K H1 xs chk J->R J H1)
theorem PI.imp {tg e:Expr} {t t':TI} (h:PI X tg e t) (i:∀ σ H Q,t' σ H Q->t σ H Q):PI X tg e t':=fun pins s σ H Q I q=>h pins s σ H Q I (i _ _ _ q)
theorem Yl.ext {K:Frag} {M:Mem} {H H':Hp} (rm:RM K M H) (y:Yl H H'):Ext M H M H'/\RM K M H':=by
 rcases y with rfl | ⟨q,vs,n,rfl⟩
 ·exact ⟨Ext.refl,rm⟩
 ·exact ⟨Nw n,rm.new n⟩
noncomputable def BC (K:Frag) (tl:TE):TI:=fun σ H R=>tl σ H fun x H1 => ∃ a,x = .ref a/\(((∃ xs,SqL K H1 a xs)/\R (Itl K a) H1)∨((∃ xs,SqT K H1 a xs)/\R (Itt K a) H1))
theorem zE {tg l:Expr} {tl:TE} (F:PE X l tl):PI X tg l (BC X.K tl):=by
 intro pins s σ H R I h;refine thn (F pins s σ H _ I h) fun v s1 ⟨x,H1,j,G,J⟩ => ?_;obtain ⟨a,e,q⟩:=J;subst e
 cases G
 rcases q with ⟨⟨xs,z⟩,q⟩ | ⟨⟨xs,z⟩,q⟩
 ·obtain ⟨its,rv,p,L⟩:=j.list z;refine G9 p.isList ?_;refine ⟨s1.heap.objs.size,[s1.heap.objs.size],_,_,H1,rfl,j.kept (t':=s1.toks) fun b o e=>h7 _ e,qC a _,⟨_,E1 _ rfl,rfl,rfl⟩,fun b B => ?_,q⟩;have e:b=s1.heap.objs.size:=by simpa using B
  subst e;exact j.fpOk (E3 _) (j.hok.fresh (E3 _))
 ·obtain ⟨its,rv,p,L⟩:=j.tuple z;refine FA (show s1.heap.IsTuple a its.toArray from p) ?_;refine ⟨s1.heap.objs.size,[s1.heap.objs.size],_,_,H1,rfl,j.kept (t':=s1.toks) fun b o e=>h7 _ e,oV a _,⟨_,E1 _ rfl,rfl,rfl⟩,fun b B => ?_,q⟩;have e:b=s1.heap.objs.size:=by simpa using B
  subst e;exact j.fpOk (E3 _) (j.hok.fresh (E3 _))
noncomputable def ll (ta:TEd):TId:=fun ρ M R=>ta ρ M fun x M1 => ∃ ds,aJ M1 x=some ds/\R ds (fun M=>aJ M x=some ds) M1
theorem uI {ta:TEd} (h:ad ta):bQ (ll ta):=fun ρ M Q Q' i q=>h _ _ _ _ (fun x z ⟨ds,e,j⟩=>⟨ds,e,i _ _ _ j⟩) q
theorem rB {K:Frag} {H1:Hp} {a:Addr} {ds:List D} {chk:Mem->Prop} (h:∀ M H,Stab H1 H->RM K M H->chk M -> ∃ vs,SqL K H a vs/\RDs K H ds vs):fe K H1 ds chk (Itl K a):=fun M H st rm c i=>by
 obtain ⟨vs,sq,r⟩:=h M H st rm c;have l:=r.length;refine ⟨fun hi=>⟨vs,sq,by lia⟩,fun hi=>⟨⟨vs,vs[i]'(by lia),sq,D0 (by lia)⟩,fun x H' y => ?_⟩⟩
 obtain ⟨e,y⟩:=y;subst e;exact ⟨.inl rfl,r.getV (y vs sq)⟩
theorem zF {K:Frag} {H1:Hp} {a:Addr} {ds:List D} {chk:Mem->Prop} (h:∀ M H,Stab H1 H->RM K M H->chk M -> ∃ vs,SqT K H a vs/\RDs K H ds vs):fe K H1 ds chk (Itt K a):=fun M H st rm c i=>by
 obtain ⟨vs,sq,r⟩:=h M H st rm c;have l:=r.length;refine ⟨fun hi=>⟨vs,sq,by lia⟩,fun hi=>⟨⟨vs,vs[i]'(by lia),sq,D0 (by lia)⟩,fun x H' y => ?_⟩⟩
 obtain ⟨e,y⟩:=y;subst e;exact ⟨.inl rfl,r.getV (y vs sq)⟩
theorem zG {tg l:Expr} {ta:TEd} (m:ad ta) (G:PE X l (lE X.K ta)):PI X tg l (lI X.K (ll ta)):=by
 refine PI.imp (zE G) fun σ H R h => ?_;obtain ⟨ρ,M,rs,rm,q⟩:=h;refine ⟨ρ,M,rs,rm,m _ _ _ _ (fun x L ⟨ds,e,B⟩ v H1 F j rd1 => ?_) q⟩
 cases x with
 | tup es =>
   cases e
   obtain ⟨a,vs,rfl,z,rv⟩:=Nt rd1;exact ⟨a,rfl, .inr ⟨⟨vs,z⟩,B _ H1 F j (zF fun M' H' st _ _=>⟨vs,st.sqT z,rv.mono st⟩)⟩⟩
 | con es =>
   cases e
   obtain ⟨a,vs,rfl,z,rv⟩:=Nr.mp rd1;exact ⟨a,rfl, .inl ⟨⟨vs,z.sq⟩,B _ H1 F j (rB fun M' H' st _ _=>⟨vs,(st.sqF z).sq,rv.mono st⟩)⟩⟩
 | ref a =>
   cases Nl.mp rd1
   have get:∀ {M':Mem} {es:List D},aJ M' (.ref a)=some es->M' a=some (.lst es):=fun {M' es} e=>by
    simp only [aJ] at e
    cases e0:M' a with
    | none=>rw [e0] at e;cases e
    | some o =>
      rw [e0] at e
      cases o with
      | dct _ _=>cases e
      | fdc _=>cases e
      | lst es'=>cases e;rfl
   obtain ⟨vs,z,rv⟩:=j _ _ (get e);exact ⟨a,rfl, .inl ⟨⟨vs,SqL.of z⟩,B _ H1 F j (rB fun M' H' st rm' c=>by
    obtain ⟨us,J,ru⟩:=rm' _ _ (get c);exact ⟨us,SqL.of J,ru⟩)⟩⟩
 | _=>cases e
noncomputable def bX (lo:Int) (n:Nat):List D:=(Ei n).map fun i => .int (lo+(i:Nat))
theorem rC {K:Frag} {H1:Hp} {lo:Int} {n:Nat}:fe K H1 (bX lo n) (fun _=>True) (Itr lo n):=fun M H st rm c i=>by
 have l:(bX lo n).length=n:=by simp [bX]
 refine ⟨fun hi=>by show n<=i;lia,fun hi=>⟨by show i < n;lia,fun x H' y => ?_⟩⟩
 obtain ⟨e,y⟩:=y;subst e y;refine ⟨.inl rfl, .int (lo+i), ?_,Nk.mpr rfl⟩;simp only [bX,Eo,KU (show i < n by lia),Hj]
noncomputable def iE (ta:TAd):TId:=fun ρ M R=>ta ρ M fun ds M1 => ∃ j:Int,ds=[.int j] /\ -(2 ^ 62)<=j/\j < 2 ^ 62/\R (bX 0 j.toNat) (fun _=>True) M1
noncomputable def iF (ta:TAd):TId:=fun ρ M R=>ta ρ M fun ds M1 => ∃ i j:Int,ds=[.int i, .int j]/\(-(2 ^ 62)<=i/\i < 2 ^ 62 /\ -(2 ^ 62)<=j/\j < 2 ^ 62)/\R (bX i (j - i).toNat) (fun _=>True) M1
theorem rE {ta:TAd} (h:aV ta):bQ (iE ta):=fun ρ M Q Q' i q=>h _ _ _ _ (fun x B ⟨j,e,a,b,z⟩=>⟨j,e,a,b,i _ _ _ z⟩) q
theorem rF {ta:TAd} (h:aV ta):bQ (iF ta):=fun ρ M Q Q' i q=>h _ _ _ _ (fun x B ⟨k,j,e,a,z⟩=>⟨k,j,e,a,i _ _ _ z⟩) q
theorem xD {tg a:Expr} {ta:TAd} {p pos:Pos} (m:aV ta) (B:Gl X "range") (hm:X.mg "range" = none) (F:PA X [a] (lA X.K ta)) (hs:Et [a] X.env=[(false,eval a X.env)]):PI X tg (.Call (.Name "range" p) [a] [] pos) (lI X.K (iE ta)):=by
 refine PI.imp (qD B hm F hs) fun σ H R h => ?_;obtain ⟨ρ,M,rs,rm,q⟩:=h;refine ⟨ρ,M,rs,rm,m _ _ _ _ (fun ds U ⟨j,e,G,J,L⟩ vs H1 O z rd1 => ?_) q⟩;subst e;obtain ⟨v,rfl,r⟩:=rd1.one
 cases Nk.mp r
 exact ⟨j,rfl,G,J,L _ H1 O z rC⟩
theorem xE {tg a b:Expr} {ta:TAd} {p pos:Pos} (m:aV ta) (G:Gl X "range") (hm:X.mg "range" = none) (J:PA X [a,b] (lA X.K ta)) (hs:Et [a,b] X.env=[(false,eval a X.env),(false,eval b X.env)]) (B:Et [b] X.env=[(false,eval b X.env)]) :
 PI X tg (.Call (.Name "range" p) [a,b] [] pos) (lI X.K (iF ta)):=by
 refine PI.imp (qE G hm J hs B) fun σ H R h => ?_;obtain ⟨ρ,M,rs,rm,q⟩:=h;refine ⟨ρ,M,rs,rm,m _ _ _ _ (fun ds Z ⟨i,j,e,z,L⟩ vs H1 O F rd1 => ?_) q⟩;subst e;obtain ⟨v,u,rfl,U,Y⟩:=rd1.two
 cases Nk.mp U
 cases Nk.mp Y
 exact ⟨i,j,rfl,z,L _ H1 O F rC⟩
end
end
section
section
variable {X:Cx}
noncomputable def isT:D->Bool | .tup _=>true | _=>false
theorem dP {K:Frag} {M:Mem} {H:Hp} {x:D} {ds:List D} {v:V} (rm:RM K M H) (r:RD K H x v) (e:aJ M x=some ds):∃ p vs,v = .ref p/\SqV K (isT x) H p vs/\RDs K H ds vs:=by
 cases x with
 | tup es =>
   cases e
   obtain ⟨a,vs,rfl,j,rv⟩:=Nt r;exact ⟨a,vs,rfl,j,rv⟩
 | con es =>
   cases e
   obtain ⟨a,vs,rfl,j,rv⟩:=Nr.mp r;exact ⟨a,vs,rfl,j.sq,rv⟩
 | ref a =>
   cases Nl.mp r
   simp only [aJ] at e
   cases e0:M a with
   | none=>rw [e0] at e;cases e
   | some o =>
     rw [e0] at e
     cases o with
     | dct _ _=>cases e
     | fdc _=>cases e
     | lst es =>
       cases e
       obtain ⟨vs,j,rv⟩:=rm _ _ e0;exact ⟨a,vs,rfl,SqL.of j,rv⟩
 | _=>cases e
noncomputable def eG (x y:D):D := .tup [x,y]
noncomputable def lm (ta tb:TEd):TId:=fun ρ M R=>aW ta (aW tb bU) ρ M fun ds M1 => ∃ x y xs ys,ds=[x,y]/\aJ M1 x=some xs/\aJ M1 y=some ys/\R (Hc eG xs ys) (fun M=>aJ M x=some xs/\aJ M y=some ys) M1
theorem uJ {ta tb:TEd} (j:ad ta) (z:ad tb):bQ (lm ta tb):=fun ρ M Q Q' i q=>ar j (ar z aw) _ _ _ _ (fun ds J ⟨x,y,xs,ys,e,B,F,G⟩=>⟨x,y,xs,ys,e,B,F,i _ _ _ G⟩) q
theorem ln {H:Hp} {p:Addr} {o:HO} (n:H p=none):Stab H (upd H p o):=⟨fun a xs e=>by rw [aj (fun z=>by rw [z,n] at e;cases e)];exact e,fun a o u e=>by rw [aj (fun z=>by rw [z,n] at e;cases e)];exact e⟩
theorem zH {K:Frag} {H1:Hp} {x y:D} {xs ys:List D} {a b:Addr} (rx:RD K H1 x (.ref a)) (ry:RD K H1 y (.ref b)):fe K H1 (Hc eG xs ys) (fun M=>aJ M x=some xs/\aJ M y=some ys) (Itz K (isT x) (isT y) a b):=fun M H st rm c i=>by
 obtain ⟨Y,vs,L,j,G⟩:=dP rm (rx.mono st) c.1;obtain ⟨p2,us,O,q,J⟩:=dP rm (ry.mono st) c.2
 cases L
 cases O
 have l1:=G.length;have l2:=J.length;have lz:(Hc eG xs ys).length=min xs.length ys.length:=IZ;refine ⟨fun hi=>⟨vs,us,j,q,by lia⟩,fun hi=>⟨⟨vs,us,vs[i]'(by lia),us[i]'(by lia),j,q,D0 (by lia),D0 (by lia)⟩,fun v H' U => ?_⟩⟩
 obtain ⟨p,v1,v2,n,rfl,rfl,g⟩:=U;obtain ⟨g1,g2⟩:=g vs us j q;obtain ⟨d1,z,B⟩:=G.getV g1;obtain ⟨d2,hd2,F⟩:=J.getV g2;have sb:=ln (o := .tup [v1,v2]) n;refine ⟨.inr ⟨p,[v1,v2],n,rfl⟩, .tup [d1,d2], ?_,Nx ⟨p,[v1,v2],rfl,av,RDs.cons (B.mono sb) (RDs.cons (F.mono sb) RDs.nil)⟩⟩;rw [Ke,z,hd2];rfl
theorem zI {elts:List Expr} {cx} {pos p pos':Pos} {a b:Expr} {ta tb:TEd} (ma:ad ta) (mb:ad tb) (G:Gl X "zip") (hm:X.mg "zip" = none) (J:PA X [a,b] (lA X.K (aW ta (aW tb bU)))) (hs:Et [a,b] X.env=[(false,eval a X.env),(false,eval b X.env)]) (z:Et [b] X.env=[(false,eval b X.env)]) :
 PI X (.Tuple elts cx pos) (.Call (.Name "zip" p) [a,b] [] pos') (lI X.K (lm ta tb)):=by
 refine PI.imp (zm G hm J hs z) fun σ H R h => ?_;obtain ⟨ρ,M,rs,rm,q⟩:=h;refine ⟨ρ,M,rs,rm,ar ma (ar mb aw) _ _ _ _ (fun ds M1 ⟨x,y,xs,ys,e,L,O,U⟩ vs H1 Y j rd1 => ?_) q⟩;subst e;obtain ⟨v,u,rfl,B,F⟩:=rd1.two;obtain ⟨Z,vs,rfl,s1,_⟩:=dP j B L;obtain ⟨p2,us,rfl,s2,_⟩:=dP j F O;exact ⟨Z,p2,isT x,isT y,vs,us,rfl,s1,s2,U _ H1 Y j (zH B F)⟩
end
end
section
section
variable {X:Cx}
noncomputable def eI (xs:List D):List D:=xs.mapIdx fun i x => .tup [.int (i:Nat),x]
noncomputable def iG (ta:TEd):TId:=fun ρ M R=>ta ρ M fun x M1 => ∃ xs,aJ M1 x=some xs/\R (eI xs) (fun M=>aJ M x=some xs) M1
theorem rG {ta:TEd} (h:ad ta):bQ (iG ta):=fun ρ M Q Q' i q=>h _ _ _ _ (fun x z ⟨ds,e,j⟩=>⟨ds,e,i _ _ _ j⟩) q
theorem zJ {K:Frag} {H1:Hp} {x:D} {xs:List D} {a:Addr} (rx:RD K H1 x (.ref a)):fe K H1 (eI xs) (fun M=>aJ M x=some xs) (Ite K (isT x) a):=fun M H st rm c i=>by
 obtain ⟨J,vs,F,j,B⟩:=dP rm (rx.mono st) c
 cases F
 have l1:=B.length;have lz:(eI xs).length=xs.length:=by simp [eI]
 refine ⟨fun hi=>⟨vs,j,by lia⟩,fun hi=>⟨⟨vs,vs[i]'(by lia),j,D0 (by lia)⟩,fun v H' G => ?_⟩⟩
 obtain ⟨p,v1,n,rfl,rfl,g⟩:=G;obtain ⟨d1,q,z⟩:=B.getV (g vs j);have sb:=ln (o := .tup [.int (i:Nat),v1]) n;refine ⟨.inr ⟨p,[.int (i:Nat),v1],n,rfl⟩, .tup [.int (i:Nat),d1], ?_,Nx ⟨p,[.int (i:Nat),v1],rfl,av,RDs.cons (Nk.mpr rfl) (RDs.cons (z.mono sb) RDs.nil)⟩⟩;simp [eI,IH,q]
theorem xF {elts:List Expr} {cx} {pos p pos':Pos} {a:Expr} {ta:TEd} (ma:ad ta) (B:Gl X "enumerate") (hm:X.mg "enumerate" = none) (F:PA X [a] (lA X.K (aW ta bU))) (hs:Et [a] X.env=[(false,eval a X.env)]) :
 PI X (.Tuple elts cx pos) (.Call (.Name "enumerate" p) [a] [] pos') (lI X.K (iG ta)):=by
 refine PI.imp (wV B hm F hs) fun σ H R h => ?_;obtain ⟨ρ,M,rs,rm,q⟩:=h;refine ⟨ρ,M,rs,rm,ma _ _ _ _ (fun x U ⟨xs,G,J⟩ vs H1 L j rd1 => ?_) q⟩;obtain ⟨v,rfl,z⟩:=rd1.one;obtain ⟨O,us,rfl,s1,_⟩:=dP j z G;exact ⟨O,isT x,us,rfl,s1,J _ H1 L j (zJ z)⟩
end
end
section
noncomputable abbrev NC:=ao->Mem->List D->Prop
noncomputable abbrev TCd:=ao->Mem->List D->NC->Prop
def bR (T:TCd):Prop := ∀ ρ M acc N N',(∀ ρ' M' acc',N ρ' M' acc'->N' ρ' M' acc')->T ρ M acc N->T ρ M acc N'
structure ExtP (p:Addr) (M:Mem) (H:Hp) (M':Mem) (H':Hp):Prop where
 kp:∀ a o,a≠p->fz (M a)=true->H a=some o->H' a=some o
 nw:∀ a o,fz (M a)=true->H a=some o->M' a=M a
section
variable {K:Frag} {M M' M'':Mem} {H H' H'':Hp} {p:Addr}
theorem ExtP.new (x:ExtP p M H M' H') (a:Addr) (o:HO) (n:M a=none) (e:H a=some o):M' a=none:=(x.nw a o (by rw [n];rfl) e).trans n
theorem Ext.toP (x:Ext M H M' H'):ExtP p M H M' H':=⟨fun a o _=>x.kp a o,x.nw⟩
theorem ExtP.refl:ExtP p M H M H:=⟨fun _ _ _ _ h=>h,fun _ _ _ _=>rfl⟩
theorem ExtP.trans {vs:List V} (a:ExtP p M H M' H') (q:H p=some (.lst vs)) (j:∃ vs',H' p=some (.lst vs')) (b:ExtP p M' H' M'' H''):ExtP p M H M'' H'' :=
 ⟨fun c o ne n h=>b.kp c o ne (by rw [a.nw c o n h];exact n) (a.kp c o ne n h),fun c o n h=>by
   have n':fz (M' c)=true:=by rw [a.nw c o n h];exact n
   refine Eq.trans ?_ (a.nw c o n h)
   by_cases z:c=p
   ·subst z;obtain ⟨vs',e⟩:=j;exact b.nw c _ n' e
   ·exact b.nw c o n' (a.kp c o z n h)⟩
theorem ExtP.stab {vs:List V} (r:RM K M H) (j:H p=some (.lst vs)) (x:ExtP p M H M' H'):Stab H H' where
 tup:=fun a xs e=>x.kp a _ (fun z=>by subst z;rw [j] at e;cases e) (by rw [r.fzT e];rfl) e
 frz:=fun a o u e=>x.kp a _ (fun z=>by subst z;rw [j] at e;cases e) (r.fzF e) e
theorem lp {vs:List V} {ho:HO} (j:H p=some (.lst vs)):Stab H (upd H p ho) :=
 ⟨fun a xs e=>by rw [aj (fun z=>by subst z;rw [j] at e;cases e)];exact e,fun a o u e=>by rw [aj (fun z=>by subst z;rw [j] at e;cases e)];exact e⟩
theorem RM.side {vs:List V} {ho:HO} (r:RM K M H) (n:M p=none) (j:H p=some (.lst vs)):RM K M (upd H p ho):=fun a o e=>by
 have ne:a≠p:=fun z=>by subst z;rw [n] at e;cases e
 exact (r a o e).mono (lp j) fun B q=>by rw [aj ne];exact q
end
def fL (K:Frag) (H:Hp) (p:Addr) (acc:List D):Prop := ∃ vs,H p=some (.lst vs)/\RDs K H acc vs
noncomputable def KC (K:Frag) (p:Addr) (M:Mem) (H:Hp) (N:St->Hp->Prop):NC:=fun ρ' M' acc' => ∀ σ' H',ExtP p M H M' H'->RS K H' σ' ρ'->RM K M' H'->fL K H' p acc'->N σ' H'
noncomputable def lC (K:Frag) (p:Addr) (T:TCd):TC:=fun σ H N => ∃ ρ M acc,RS K H σ ρ /\ RM K M H/\M p=none/\fL K H p acc/\T ρ M acc (KC K p M H N)
theorem KC.ext {K:Frag} {p:Addr} {M M2 M':Mem} {H H2:Hp} {N:St->Hp->Prop} {ρ:ao} {acc:List D} {vs:List V} (q:H p=some (.lst vs)) (j:∃ vs',H2 p=some (.lst vs')) (x:ExtP p M H M2 H2) (h:KC K p M H N ρ M' acc):KC K p M2 H2 N ρ M' acc :=
 fun σ' H' y=>h σ' H' (x.trans q j y)
noncomputable def bZ (te:TEd):TCd:=fun ρ M acc N=>te ρ M fun x M1=>acc.length < DY/\N ρ M1 (acc++[x])
noncomputable def bj:List TTd->TCd->TCd
 | [],tb=>tb
 | t::r,tb=>fun ρ M acc N=>t ρ M fun b M1=>if b=true then bj r tb ρ M1 acc N else N ρ M1 acc
noncomputable def bm (b:BT) (tb:TCd) (chk:Mem->Prop) (N:NC):List D->NC
 | [] => fun ρ M acc=>chk M/\N ρ M acc
 | x::xs=>fun ρ M acc=>chk M /\ ∃ ρ',b x ρ = some ρ'/\tb ρ' M acc (bm b tb chk N xs)
noncomputable def da (src:TId) (b:BT) (tb:TCd):TCd:=fun ρ M acc N=>src ρ M fun xs chk M1=>bm b tb chk N xs ρ M1 acc
noncomputable def fM (fr:List (Option Nat)) (src:TId) (b:BT) (tb:TCd):TEd:=fun ρ M Q=>src ρ M fun xs chk M1=>bm b tb chk (fun _ M' acc => ∀ p,M' p=none->Q (.ref p) (ag M' p (.lst acc))) xs (ja fr ρ) M1 []
theorem bw {te:TEd} (h:ad te):bR (bZ te):=fun ρ M acc N N' i q=>h _ _ _ _ (fun x B ⟨z,j⟩=>⟨z,i _ _ _ j⟩) q
theorem aK {tb:TCd} (z:bR tb):∀ {ts:List TTd},(∀ t∈ts,aF t)->bR (bj ts tb)
 | [],_=>z
 | t::r,h=>fun ρ M acc N N' i q=>h t Ef _ _ _ _ (fun b F j=>by
   cases b with
   | true=>rw [if_pos rfl] at j ⊢;exact aK z (fun t' B=>h t' (E7 _ B)) _ _ _ _ _ i j
   | false=>rw [if_neg E2] at j ⊢;exact i _ _ _ j) q
theorem ff {b:BT} {tb:TCd} (z:bR tb) {chk:Mem->Prop} {N N':NC} (i:∀ ρ' M' acc',N ρ' M' acc'->N' ρ' M' acc'):∀ (xs:List D) (ρ:ao) (M:Mem) (acc:List D),bm b tb chk N xs ρ M acc->bm b tb chk N' xs ρ M acc
 | [], ρ,M,acc,h=>⟨h.1,i _ _ _ h.2⟩
 | x::xs, ρ,M,acc,⟨c, ρ',e,q⟩=>⟨c, ρ',e,z _ _ _ _ _ (fun ρ2 M2 j B=>ff z i xs ρ2 M2 j B) q⟩
theorem gx {src:TId} {b:BT} {tb:TCd} (hs:bQ src) (j:bR tb):bR (da src b tb):=fun ρ M acc N N' i q=>hs _ _ _ _ (fun xs c B z=>ff j i xs _ _ _ z) q
theorem jO {fr:List (Option Nat)} {src:TId} {b:BT} {tb:TCd} (hs:bQ src) (j:bR tb):ad (fM fr src b tb):=fun ρ M Q Q' i q =>
 hs _ _ _ _ (fun xs c F z=>ff j (fun _ M' acc B p n=>i _ _ (B p n)) xs _ _ _ z) q
section
variable {K:Frag} {p:Addr}
theorem fg {te:TEd} (m:ad te) (σ:St) (H:Hp) (N:St->Hp->Prop) (h:lC K p (bZ te) σ H N):vY p (lE K te) σ H N:=by
 obtain ⟨ρ,M,acc,rs,rm,n,⟨vs,L,ra⟩,q⟩:=h;refine ⟨ρ,M,rs,rm,m _ _ _ _ (fun x Y ⟨z,O⟩ v H1 F G J => ?_) q⟩;have j:=F.keep p _ n L;have U:=F.new p _ n L;have st:=F.stab rm;have B:Stab H1 (upd H1 p (.lst (vs++[v]))):=lp j;refine ⟨vs,j,by rw [ra.length];exact z,O σ _ ⟨fun a o ne m' e => ?_,F.nw⟩ ((rs.mono st).mono B) (G.side U j) ⟨vs++[v],av,((ra.mono st).mono B).append (RDs.cons (J.mono B) RDs.nil)⟩⟩
 rw [aj ne];exact F.kp a o m' e
theorem iH {tb:TCd} (mb:bR tb):∀ {ts:List TTd},(∀ t∈ts,aF t) -> ∀ (σ:St) (H:Hp) (N:St->Hp->Prop),lC K p (bj ts tb) σ H N->ii (ts.map (lT K)) (lC K p tb) σ H N
 | [],_, σ,H,N,h=>h
 | t::r,hm, σ,H,N,h=>by
   obtain ⟨ρ,M,acc,rs,rm,n,⟨vs,G,ra⟩,q⟩:=h;refine ⟨ρ,M,rs,rm,hm t Ef _ _ _ _ (fun b L F H1 z B => ?_) q⟩;have j:=z.keep p _ n G;have O:=z.new p _ n G;have st:=z.stab rm
   cases b with
   | false =>
     rw [if_neg E2] at F;dsimp only;rw [if_neg E2];exact F σ H1 z.toP (rs.mono st) B ⟨vs,j,ra.mono st⟩
   | true =>
     rw [if_pos rfl] at F;dsimp only;rw [if_pos rfl];exact iH mb (fun t' J=>hm t' (E7 _ J)) σ H1 N ⟨ρ,L,acc,rs.mono st,B,O,⟨vs,j,ra.mono st⟩,
      aK mb (fun t' J=>hm t' (E7 _ J)) _ _ _ _ _ (fun ρ' M' acc' k=>k.ext G ⟨vs,j⟩ z.toP) F⟩
theorem jP {b:BT} {tb:TCd} (mb:bR tb) {xs:List D} {chk:Mem->Prop} {J:It} {H1:Hp} {B:Mem} {Nd:NC} {N:St->Hp->Prop} {σ:St} {ρ:ao} {acc:List D} (it:fe K H1 xs chk J) (rs:RS K H1 σ ρ) (rm:RM K B H1) (n:B p=none)
 (ac:fL K H1 p acc) (q:bm b tb chk Nd xs ρ B acc) (hN:∀ ρ' M' acc' σ' H',ExtP p B H1 M' H'->RS K H' σ' ρ'->RM K M' H'->fL K H' p acc'->Nd ρ' M' acc'->N σ' H') :
 cj J (lG K b) (lC K p tb) N σ H1:=by
 obtain ⟨BJ,F,_⟩:=id ac;refine ⟨fun i m σ H=>m=xs.length - i/\i<=xs.length /\ ∃ ρ M acc,RS K H σ ρ /\ RM K M H/\M p=none/\fL K H p acc/\ExtP p B H1 M H/\bm b tb chk Nd (xs.drop i) ρ M acc,⟨xs.length,by simp,G2 _, ρ,B,acc,rs,rm,n,ac,ExtP.refl,q⟩, ?_⟩
 rintro i m σ H ⟨rfl,hi, ρ,M,acc,rs,j,n,ac,x,q⟩;have st:=x.stab rm F;obtain ⟨vs,hp,ra⟩:=id ac
 by_cases z:i < xs.length
 ·rw [Fs z] at q;obtain ⟨c, ρ',hb,q⟩:=q;obtain ⟨go,yl⟩:=(it M H st j c i).2 z;refine .inr ⟨go,fun σ' H' => ∃ m',m' < xs.length - i/\(m'=xs.length - (i+1)/\i+1<=xs.length /\ ∃ ρ M acc,RS K H' σ' ρ /\ RM K M H'/\M p=none/\fL K H' p acc/\ExtP p B H1 M H'/\bm b tb chk Nd (xs.drop (i+1)) ρ M acc),fun σ' H' h=>h,fun x' H' y => ?_⟩;obtain ⟨yy,d,hd,rd⟩:=yl x' H' y;rw [D0 z] at hd
  cases hd
  obtain ⟨xy,rmy⟩:=yy.ext j;have sty:=xy.stab j;have G:=xy.keep p _ n hp;refine ⟨_, ρ, ρ',rd,rs.mono sty,hb,fun σ2 O => ?_⟩;refine ⟨ρ',M,acc,O,rmy,n,⟨vs,G,ra.mono sty⟩,mb _ _ _ _ _ (fun ρ3 M3 L q3 σ3 H3 x3 U Y Z => ?_) q⟩;have n3:M3 p=none:=x3.new p _ n G;exact ⟨xs.length - (i+1),by lia,rfl,z, ρ3,M3,L,U,Y,n3,Z,(x.trans F ⟨vs,hp⟩ xy.toP).trans F ⟨vs,G⟩ x3,q3⟩
 ·have e:i=xs.length:=by lia
  subst e;rw [Mb] at q;exact .inl ⟨(it M H st j q.1 _).1 (E3 _),hN ρ M acc σ H x rs j ac q.2⟩
theorem gy {src:TId} {b:BT} {tb:TCd} (ms:bQ src) (mb:bR tb) (σ:St) (H:Hp) (N:St->Hp->Prop) (h:lC K p (da src b tb) σ H N):(lI K src) σ H fun J H1=>cj J (lG K b) (lC K p tb) N σ H1:=by
 obtain ⟨ρ,M,acc,rs,rm,n,⟨vs,B,ra⟩,q⟩:=h;refine ⟨ρ,M,rs,rm,ms _ _ _ _ (fun xs chk O G J H1 z F it => ?_) q⟩;have j:=z.keep p _ n B;have L:=z.new p _ n B;have st:=z.stab rm;exact jP mb it (rs.mono st) F L ⟨vs,j,ra.mono st⟩ G fun ρ' M' acc' σ' H' x2 rs' rm' ac' k=>k σ' H' (z.toP.trans B ⟨vs,j⟩ x2) rs' rm' ac'
theorem dD {fr:List (Option Nat)} {src:TId} {b:BT} {tb:TCd} (ms:bQ src) (mb:bR tb) (σ:St) (H:Hp) (Q:VK) (h:lE K (fM fr src b tb) σ H Q):pz (lI K src) (lG K b) (fun p=>lC K p tb) fr σ H Q:=by
 obtain ⟨ρ,M,rs,rm,q⟩:=h;refine ⟨ρ,M,rs,rm,ms _ _ _ _ (fun xs chk G U J H1 F j it p n => ?_) q⟩;have st:=F.stab rm;have xn:Ext G H1 G (upd H1 p (.lst [])):=Nw n;have stn:=xn.stab j;have O:G p=none:=j.out n;refine jP (p:=p) mb (xs:=xs) (chk:=chk) (fun M' H' st'=>it M' H' ⟨fun a xs e=>st'.tup _ _ (stn.tup _ _ e),fun a o u e=>st'.frz _ _ _ (stn.frz _ _ _ e)⟩) (((rs.mono st).mono stn).inh fr) (j.new n) O ⟨[],av,RDs.nil⟩ U fun ρ' M' acc' σ' H' L rs' rm' ac' k => ?_;obtain ⟨vs,Y,ra⟩:=ac';have n':M' p=none:=L.new p _ O av;refine k p n' (.ref p) H' ⟨fun a o m e => ?_,fun a o m e => ?_⟩ (fun a o e => ?_) (Nl.mpr rfl)
 ·have B:=F.kp a o m e;have ne:a≠p:=fun z=>by subst z;rw [n] at B;cases B
  exact L.kp a o ne (by rw [F.nw a o m e];exact m) (by rw [aj ne];exact B)
 ·have B:=F.kp a o m e;have ne:a≠p:=fun z=>by subst z;rw [n] at B;cases B
  rw [aq ne];exact (L.nw a o (by rw [F.nw a o m e];exact m) (by rw [aj ne];exact B)).trans (F.nw a o m e)
 ·by_cases z:a=p
  ·subst z;rw [aa] at e;cases e;exact ⟨vs,Y,ra⟩
  ·rw [aq z] at e;exact rm' a o e
end
end
section
noncomputable def fN:TSd:=fun D ρ M=>D.nx ρ M
noncomputable def lq (t u:TSd):TSd:=fun D ρ M=>t { D with nx:=u D } ρ M
noncomputable def fh:TSd:=fun D ρ M=>D.bk ρ M
noncomputable def iI:TSd:=fun D ρ M=>D.ct ρ M
noncomputable def iJ (te:TEd):TSd:=fun D ρ M=>te ρ M fun _ M1=>D.nx ρ M1
noncomputable def lr (te:TEd):TSd:=fun D ρ M=>te ρ M D.rt
noncomputable def sIf (c:TTd) (t u:TSd):TSd:=fun D ρ M=>c ρ M fun b M1=>if b=true then t D ρ M1 else u D ρ M1
noncomputable def gJ (te:TEd) (b:BT):TSd:=fun D ρ M=>te ρ M fun x M1 => ∃ ρ',b x ρ = some ρ'/\D.nx ρ' M1
noncomputable def lu (ta:TAd) (bs:BTs):TSd:=fun D ρ M=>ta ρ M fun xs M1 => ∃ ρ',bs xs ρ = some ρ'/\D.nx ρ' M1
noncomputable def bC (b:BT) (tb:TSd) (chk:Mem->Prop) (D:bq):List Mi.D->ao->Mem->Prop
 | [] => fun ρ M=>chk M/\D.nx ρ M
 | x::xs=>fun ρ M=>chk M /\ ∃ ρ',b x ρ = some ρ'/\tb { D with nx:=bC b tb chk D xs,ct:=bC b tb chk D xs,bk:=D.nx } ρ' M
noncomputable def lw (src:TId) (b:BT) (tb:TSd):TSd:=fun D ρ M=>src ρ M fun xs chk M1=>bC b tb chk D xs ρ M1
noncomputable def aP (c:TTd) (tb:TSd) (D:bq):Nat->ao->Mem->Prop
 | 0=>fun _ _=>False
 | n+1=>fun ρ M=>c ρ M fun b M1=>if b=true then tb { D with nx:=aP c tb D n,ct:=aP c tb D n,bk:=D.nx } ρ M1 else D.nx ρ M1
noncomputable def fi (c:TTd) (tb:TSd):TSd:=fun D ρ M => ∃ n,aP c tb D n ρ M
theorem jQ:aI fN:=fun _ _ _ _ h q=>h.nx _ _ q
theorem pI:aI fh:=fun _ _ _ _ h q=>h.bk _ _ q
theorem rH:aI iI:=fun _ _ _ _ h q=>h.ct _ _ q
theorem rJ {t u:TSd} (j:aI t) (z:aI u):aI (lq t u):=fun a b ρ M h q=>j { a with nx:=u a } { b with nx:=u b } _ _ ⟨fun ρ' M' q'=>z _ _ _ _ h q',h.rt,h.bk,h.ct⟩ q
theorem rK {te:TEd} (h:ad te):aI (iJ te):=fun a b ρ M i q=>h _ _ _ _ (fun _ z j=>i.nx _ _ j) q
theorem uK {te:TEd} (h:ad te):aI (lr te):=fun a b ρ M i q=>h _ _ _ _ (fun d z j=>i.rt _ _ j) q
theorem uL {c:TTd} {t u:TSd} (z:aF c) (B:aI t) (F:aI u):aI (sIf c t u):=fun a b ρ M i q=>z _ _ _ _ (fun k G j=>by
 cases k with
 | true=>rw [if_pos rfl] at j ⊢;exact B _ _ _ _ i j
 | false=>rw [if_neg E2] at j ⊢;exact F _ _ _ _ i j) q
theorem uM {te:TEd} {bt:BT} (h:ad te):aI (gJ te bt):=fun a b ρ M i q=>h _ _ _ _ (fun d z ⟨ρ',e,j⟩=>⟨ρ',e,i.nx _ _ j⟩) q
theorem uN {ta:TAd} {bs:BTs} (h:aV ta):aI (lu ta bs):=fun a b ρ M i q=>h _ _ _ _ (fun d z ⟨ρ',e,j⟩=>⟨ρ',e,i.nx _ _ j⟩) q
theorem fj {bt:BT} {tb:TSd} (j:aI tb) {chk:Mem->Prop} {a b:bq} (i:LeD a b):∀ (xs:List D) (ρ:ao) (M:Mem),bC bt tb chk a xs ρ M->bC bt tb chk b xs ρ M
 | [], ρ,M,h=>⟨h.1,i.nx _ _ h.2⟩
 | x::xs, ρ,M,⟨c, ρ',e,q⟩=>⟨c, ρ',e,j { a with nx:=bC bt tb chk a xs,ct:=bC bt tb chk a xs,bk:=a.nx } { b with nx:=bC bt tb chk b xs,ct:=bC bt tb chk b xs,bk:=b.nx } _ _ ⟨fun ρ2 M2 z=>fj j i xs ρ2 M2 z,i.rt,i.nx,fun ρ2 M2 z=>fj j i xs ρ2 M2 z⟩ q⟩
theorem uO {src:TId} {bt:BT} {tb:TSd} (hs:bQ src) (j:aI tb):aI (lw src bt tb):=fun a b ρ M i q=>hs _ _ _ _ (fun xs c B z=>fj j i xs _ _ z) q
theorem dJ {c:TTd} {tb:TSd} (q:aF c) (z:aI tb) {a b:bq} (i:LeD a b):∀ (n:Nat) (ρ:ao) (M:Mem),aP c tb a n ρ M->aP c tb b n ρ M
 | 0, ρ,M,h=>h
 | n+1, ρ,M,h=>q _ _ _ _ (fun k F j=>by
   cases k with
   | true=>rw [if_pos rfl] at j ⊢;exact z { a with nx:=aP c tb a n,ct:=aP c tb a n,bk:=a.nx } { b with nx:=aP c tb b n,ct:=aP c tb b n,bk:=b.nx } _ _ ⟨fun ρ2 M2 B=>dJ q z i n ρ2 M2 B,i.rt,i.nx,fun ρ2 M2 B=>dJ q z i n ρ2 M2 B⟩ j
   | false=>rw [if_neg E2] at j ⊢;exact i.nx _ _ j) h
theorem pJ {c:TTd} {tb:TSd} (j:aF c) (z:aI tb):aI (fi c tb):=fun a b ρ M i ⟨n,q⟩=>⟨n,dJ j z i n _ _ q⟩
section
variable {K:Frag}
theorem jR (D:bx) (σ:St) (H:Hp) (h:lS K fN D σ H):oS D σ H:=by
 obtain ⟨ρ,M,A,rs,rm,l,q⟩:=h;exact l.nx ρ M σ H Ext.refl rs rm q
theorem pK (D:bx) (σ:St) (H:Hp) (h:lS K fh D σ H):qz D σ H:=by
 obtain ⟨ρ,M,A,rs,rm,l,q⟩:=h;exact l.bk ρ M σ H Ext.refl rs rm q
theorem rL (D:bx) (σ:St) (H:Hp) (h:lS K iI D σ H):vN D σ H:=by
 obtain ⟨ρ,M,A,rs,rm,l,q⟩:=h;exact l.ct ρ M σ H Ext.refl rs rm q
theorem uP {t u:TSd} (mt:aI t) (mu:aI u) (D:bx) (σ:St) (H:Hp) (h:lS K (lq t u) D σ H):yL (lS K t) (lS K u) D σ H:=by
 obtain ⟨ρ,M,A,rs,rm,l,q⟩:=h;exact ⟨ρ,M, { A with nx:=u A },rs,rm,⟨fun ρ' M' σ' H' x rs' rm' q'=>⟨ρ',M',A,rs',rm',l.ext x,q'⟩,l.rt,l.bk,l.ct⟩,q⟩
theorem rM {te:TEd} (m:ad te) (D:bx) (σ:St) (H:Hp) (h:lS K (iJ te) D σ H):vO (lE K te) D σ H:=by
 obtain ⟨ρ,M,A,rs,rm,l,q⟩:=h;exact ⟨ρ,M,rs,rm,m _ _ _ _ (fun d B F v H1 z j G=>l.nx ρ B σ H1 z (rs.mono (z.stab rm)) j F) q⟩
theorem uQ {te:TEd} (m:ad te) (D:bx) (σ:St) (H:Hp) (h:lS K (lr te) D σ H):yM (lE K te) D σ H:=by
 obtain ⟨ρ,M,A,rs,rm,l,q⟩:=h;exact ⟨ρ,M,rs,rm,m _ _ _ _ (fun d B F v H1 G j z=>l.rt d B v H1 G j z F) q⟩
theorem xG {c:TTd} {t u:TSd} (mc:aF c) (D:bx) (σ:St) (H:Hp) (h:lS K (sIf c t u) D σ H):yO (lT K c) (lS K t) (lS K u) D σ H:=by
 obtain ⟨ρ,M,A,rs,rm,l,q⟩:=h;refine ⟨ρ,M,rs,rm,mc _ _ _ _ (fun k F z H1 B j => ?_) q⟩
 cases k with
 | true=>rw [if_pos rfl] at z ⊢;exact ⟨ρ,F,A,rs.mono (B.stab rm),j,l.ext B,z⟩
 | false=>rw [if_neg E2] at z ⊢;exact ⟨ρ,F,A,rs.mono (B.stab rm),j,l.ext B,z⟩
theorem uR {te:TEd} {b:BT} (m:ad te) (D:bx) (σ:St) (H:Hp) (h:lS K (gJ te b) D σ H):oU (lE K te) (lG K b) D σ H:=by
 obtain ⟨ρ,M,A,rs,rm,l,q⟩:=h;refine ⟨ρ,M,rs,rm,m _ _ _ _ (fun d F ⟨ρ',e,G⟩ v H1 B j z => ?_) q⟩;exact ⟨d, ρ, ρ',z,rs.mono (B.stab rm),e,fun σ' rs'=>l.nx ρ' F σ' H1 B rs' j G⟩
theorem jS {te:TEd} {i:Nat} (m:ad te) (D:bx) (σ:St) (H:Hp) (h:lS K (gJ te (br i)) D σ H):oU (lE K te) (i3 i) D σ H:=by
 obtain ⟨ρ,M,A,rs,rm,l,q⟩:=h;refine ⟨ρ,M,rs,rm,m _ _ _ _ (fun d z ⟨ρ',e,B⟩ v H1 j rm1 rd1 => ?_) q⟩
 cases e
 exact l.nx _ z _ H1 j ((rs.mono (j.stab rm)).set i rd1) rm1 B
theorem uS {src:TId} {b:BT} {tb:TSd} (ms:bQ src) (mb:aI tb) (D:bx) (σ:St) (H:Hp) (h:lS K (lw src b tb) D σ H):yT (lI K src) (lG K b) (lS K tb) D σ H:=by
 obtain ⟨ρ,M,A,rs,rm,l,q⟩:=h;refine ⟨ρ,M,rs,rm,ms _ _ _ _ (fun xs chk M1 q1 J H1 x1 G it => ?_) q⟩;refine ⟨fun i m σ H'=>m=xs.length - i/\i<=xs.length /\ ∃ ρ M2,RS K H' σ ρ /\ RM K M2 H'/\Ext M1 H1 M2 H'/\bC b tb chk A (xs.drop i) ρ M2,⟨xs.length,by simp,G2 _, ρ,M1,rs.mono (x1.stab rm),G,Ext.refl,q1⟩, ?_⟩
 rintro i m σ2 H2 ⟨rfl,hi, ρ2,M2,L,j,x2,O⟩;have U:=x2.stab G
 by_cases B:i < xs.length
 ·rw [Fs B] at O;obtain ⟨c, ρ',hb,q3⟩:=O;obtain ⟨go,yl⟩:=(it M2 H2 U j c i).2 B;refine .inr ⟨go,fun σ' H' => ∃ m',m' < xs.length - i/\(m'=xs.length - (i+1)/\i+1<=xs.length /\ ∃ ρ M,RS K H' σ' ρ /\ RM K M H'/\Ext M1 H1 M H'/\bC b tb chk A (xs.drop (i+1)) ρ M),fun σ' H' h=>h,fun x' H' y => ?_⟩;obtain ⟨yy,d,hd,rd⟩:=yl x' H' y;rw [D0 B] at hd
  cases hd
  obtain ⟨xy,rmy⟩:=yy.ext j;have Y:=x1.trans (x2.trans xy);refine ⟨_, ρ2, ρ',rd,L.mono (xy.stab j),hb,fun σ3 BJ => ?_⟩;have nx:∀ ρ5 F σ5 z,Ext M2 H' F z->RS K z σ5 ρ5->RM K F z->bC b tb chk A (xs.drop (i+1)) ρ5 F -> ∃ m',m' < xs.length - i/\(m'=xs.length - (i+1)/\i+1<=xs.length /\ ∃ ρ M,RS K z σ5 ρ /\ RM K M z/\Ext M1 H1 M z/\bC b tb chk A (xs.drop (i+1)) ρ M) :=
   fun ρ5 F σ5 z Z BK BL q5=>⟨xs.length - (i+1),by lia,rfl,B, ρ5,F,BK,BL,(x2.trans xy).trans Z,q5⟩
  refine ⟨ρ',M2, { A with nx:=bC b tb chk A (xs.drop (i+1)),ct:=bC b tb chk A (xs.drop (i+1)),bk:=A.nx },BJ,rmy,⟨nx,fun d F v z Z=>l.rt d F v z (Y.trans Z),fun ρ5 F σ5 z Z=>l.nx ρ5 F σ5 z (Y.trans Z),nx⟩,q3⟩
 ·have e:i=xs.length:=by lia
  subst e;rw [Mb] at O;exact .inl ⟨(it M2 H2 U j O.1 _).1 (E3 _),l.nx ρ2 M2 σ2 H2 (x1.trans x2) L j O.2⟩
theorem pL {c:TTd} {tb:TSd} (mc:aF c) (mb:aI tb) (D:bx) (σ:St) (H:Hp) (h:lS K (fi c tb) D σ H):qB (lT K c) (lS K tb) D σ H:=by
 obtain ⟨ρ,M,A,rs,rm,l,n,q⟩:=h;refine ⟨fun m σ' H' => ∃ ρ' M',RS K H' σ' ρ'/\RM K M' H'/\Ext M H M' H'/\aP c tb A m ρ' M',⟨n, ρ,M,rs,rm,Ext.refl,q⟩, ?_⟩;rintro m σ1 H1 ⟨ρ1,M1,J,L,x1,q1⟩
 cases m with
 | zero=>exact q1.elim
 | succ m =>
   refine ⟨ρ1,M1,J,L,mc _ _ _ _ (fun k M2 Z H2 x2 O => ?_) q1⟩;have j:=x1.trans x2;have U:=J.mono (x2.stab L)
   cases k with
   | false=>rw [if_neg E2] at Z;dsimp only;rw [if_neg E2];exact l.nx ρ1 M2 σ1 H2 j U O Z
   | true =>
     rw [if_pos rfl] at Z;dsimp only;rw [if_pos rfl];refine ⟨fun σ' H' => ∃ ρ' M',RS K H' σ' ρ'/\RM K M' H'/\Ext M H M' H'/\aP c tb A m ρ' M',fun σ' H' h=>⟨m,Nat.lt_succ_self m,h⟩, ρ1,M2, { A with nx:=aP c tb A m,ct:=aP c tb A m,bk:=A.nx },U,O,⟨?_,fun d z v Y B=>l.rt d z v Y (j.trans B),fun ρ5 z σ5 Y B=>l.nx ρ5 z σ5 Y (j.trans B), ?_⟩,Z⟩
     ·exact fun ρ5 z σ5 Y B F G q5=>⟨ρ5,z,F,G,j.trans B,q5⟩
     ·exact fun ρ5 z σ5 Y B F G q5=>⟨ρ5,z,F,G,j.trans B,q5⟩
end
noncomputable def fO:D->D->D->Mem->(Mem->Prop)->Prop:=fun o i v M Q => ∃ a,o = .ref a /\
 ((∃ xs k j,i = .int k/\M a=some (.lst xs)/\ixN xs.length k=some j/\Q (ag M a (.lst (xs.set j v)))) ∨
  ∃ t kvs,M a=some (.dct t kvs)/\eA t i=true/\kvs.length < DY/\Q (ag M a (.dct t (bM kvs i v))))
noncomputable def lB (te to ti:TEd):TSd:=fun D ρ M=>te ρ M fun v M1=>to ρ M1 fun o M2=>ti ρ M2 fun i M3=>fO o i v M3 fun M4=>D.nx ρ M4
theorem rN {o i v:D} {M:Mem} {Q Q':Mem->Prop} (h:∀ M',Q M'->Q' M') (q:fO o i v M Q):fO o i v M Q':=by
 obtain ⟨a,e,⟨xs,k,j,z,B,F,q⟩ | ⟨t,kvs,z,B,F,q⟩⟩:=q
 ·exact ⟨a,e, .inl ⟨xs,k,j,z,B,F,h _ q⟩⟩
 ·exact ⟨a,e, .inr ⟨t,kvs,z,B,F,h _ q⟩⟩
theorem uT {te to ti:TEd} (he:ad te) (ho:ad to) (hi:ad ti):aI (lB te to ti):=fun a b ρ M i q =>
 he _ _ _ _ (fun v F j=>ho _ _ _ _ (fun o M2 z=>hi _ _ _ _ (fun k G B=>rN (fun M' q'=>i.nx _ _ q') B) z) j) q
section
variable {X:Cx} {K:Frag}
theorem uU (j:X.A.units+1 < Gv):PSet X (fun o i v H Q => ∃ a H',o = .ref a/\DPut H a i v H'/\Q H'):=by
 intro pins s σ H o i v ov iv u Q I ro ri rv h;obtain ⟨a,H',rfl,g,q⟩:=h
 cases ro
 exact qS j I g ri rv fun s' I'=>⟨H',I',q⟩
theorem PSet.or {t t':oT} (h:PSet X t) (h':PSet X t'):PSet X (fun o i v H Q=>t o i v H Q∨t' o i v H Q):=by
 intro pins s σ H o i v ov iv u Q I ro ri rv q
 rcases q with q | q
 ·exact h pins s σ H o i v ov iv u Q I ro ri rv q
 ·exact h' pins s σ H o i v ov iv u Q I ro ri rv q
section
variable {κ:Type} [DecidableEq κ] {H:Hp} {RK:D -> κ -> Prop} (inj:∀ {d e:D} {k : κ},RK d k->RK e k->d=e) (fn:∀ {d:D} {k k' : κ},RK d k->RK d k'->k=k')
include inj fn
theorem nX {k:D} {q : κ} (j:RK k q):∀ {kvs:List (D×D)} {ps:List (κ × V)},ES (fun p r=>RK p.1 r.1/\RD K H p.2 r.2) kvs ps ->
 (kvs.any fun p=>decide (p.1=k))=(ps.any fun p=>decide (p.1=q))
 | _,_, .nil=>rfl
 | _,_, .cons (a:=p) (b:=r) hr t=>by
   rw [Ho,Ho,nX j t];congr 1
   by_cases e:p.1=k
   ·have e':r.1=q:=by have h1:=hr.1;rw [e] at h1;exact fn h1 j
    rw [decide_eq_true e,decide_eq_true e']
   ·have e' : ¬ r.1=q:=fun z=>e (by have h1:=hr.1;rw [z] at h1;exact inj h1 j)
    rw [decide_eq_false e,decide_eq_false e']
theorem nY {k:D} {q : κ} (B:RK k q) {d:D} {v:V} (F:RD K H d v):∀ {kvs:List (D×D)} {ps:List (κ × V)},ES (fun p r=>RK p.1 r.1/\RD K H p.2 r.2) kvs ps ->
 ES (fun p r=>RK p.1 r.1/\RD K H p.2 r.2) (kvs.map fun p=>if p.1=k then (p.1,d) else p) (ps.map fun p=>if p.1=q then (p.1,v) else p)
 | _,_, .nil => .nil
 | _,_, .cons (a:=p) (b:=r) j t=>by
   refine .cons ?_ (nY B F t)
   by_cases e:p.1=k
   ·have e':r.1=q:=by have h1:=j.1;rw [e] at h1;exact fn h1 B
    dsimp only;rw [if_pos e,if_pos e'];exact ⟨j.1,F⟩
   ·have e' : ¬ r.1=q:=fun z=>e (by have h1:=j.1;rw [z] at h1;exact inj h1 B)
    dsimp only;rw [if_neg e,if_neg e'];exact j
theorem gK {k:D} {q : κ} (j:RK k q) {d:D} {v:V} (z:RD K H d v) {kvs:List (D×D)} {ps:List (κ × V)} (r:ES (fun p r=>RK p.1 r.1/\RD K H p.2 r.2) kvs ps) :
 ES (fun p r=>RK p.1 r.1/\RD K H p.2 r.2) (bM kvs k d) (bf ps q v):=by
 unfold bM bf;rw [nX (K:=K) (H:=H) (RK:=RK) inj fn j r]
 by_cases e:(ps.any fun p=>decide (p.1=q))=true
 ·rw [if_pos e,if_pos e];exact nY (RK:=RK) inj fn j z r
 ·rw [if_neg e,if_neg e];exact r.snoc ⟨j,z⟩
end
theorem uV {M:Mem} {H:Hp} {o i v:D} {ov iv vv:V} {Qd:Mem->Prop} {Q:Hp->Prop} (rm:RM K M H) (ro:RD K H o ov) (ri:RD K H i iv) (rv:RD K H v vv) (h:fO o i v M Qd) (O:∀ M' H',Ext M H M' H'->RM K M' H'->Qd M'->Q H') :
 vT ov iv vv H Q ∨ ∃ a H',ov = .ref a/\DPut H a iv vv H'/\Q H':=by
 obtain ⟨a,rfl,⟨xs,k,j,rfl,B,L,q⟩ | ⟨t,kvs,F,B,L,q⟩⟩:=h
 ·cases Nl.mp ro
  cases Nk.mp ri
  obtain ⟨vs,Z,rs⟩:=rm _ _ B;have st:Stab H (upd H a (.lst (vs.set j vv))):=rm.stabPut B;exact .inl ⟨a,vs,k,j,rfl,rfl,Z,by rw [rs.length];exact L,O _ _ (Ext.put B) (rm.put (o := .lst (xs.set j v)) B ⟨_,av,(rs.set j rv).mono st⟩) q⟩
 ·cases Nl.mp ro
  have ro':=rm _ _ F
  cases t with
  | false =>
    obtain ⟨ps,U,pr⟩:=ro';obtain ⟨kq,J⟩:=kL (show cP i=true from B);have st:Stab H (upd H a (.dK (bf ps kq vv))):=rm.stabPut F;have G:=gK (RK:=RKey) RKey.inj RKey.fun J rv pr;rw [jc J ri];refine .inr ⟨a,_,rfl,DPut.k U (by rw [<- FZ pr];exact L),O _ _ (Ext.put F) (rm.put (o := .dct false (bM kvs i v)) F ⟨_,av,Nq G fun _ _ z=>⟨z.1,z.2.mono st⟩⟩) q⟩
  | true =>
    obtain ⟨ps,U,pr⟩:=ro';obtain ⟨kq,J⟩:=fH (show bu i=true from B);have st:Stab H (upd H a (.dT (bf ps kq vv))):=rm.stabPut F;have G:=gK (RK:=RKeys) RKeys.inj RKeys.fun J rv pr
    cases i <;> first
     | exact J.elim
     | (obtain ⟨b,us,rfl,Y,ru⟩:=Nz (fI B) ri
        rw [dr J ru] at Y;exact .inr ⟨a,_,rfl,DPut.t U Y (by rw [<- FZ pr];exact L),O _ _ (Ext.put F) (rm.put (o := .dct true (bM kvs _ v)) F ⟨_,av,Nq G fun _ _ z=>⟨z.1,z.2.mono st⟩⟩) q⟩)
theorem zK {o i e:Expr} {te to ti:TEd} {pos tpos:Pos} (hu:X.A.units+1 < Gv) (me:ad te) (mo:ad to) (mi:ad ti) (he:PE X e (lE X.K te)) (ho:PE X o (lE X.K to)) (hi:PE X i (lE X.K ti))
 (hs:HF [.Subscript o i tpos] e pos.line X.env=pure false) (hw:GJ [.Subscript o i tpos] e X.env=pure none)
 (ha:∀ v,assign (.Subscript o i tpos) X.env v=(do
   let ov <- holding [v] (eval o X.env)
   let iv <- holding [v,ov] (eval i X.env)
   Jr tpos
   holding [v,ov,iv] (setItem ov iv v)
   release [v,ov,iv] [])):PS X (.Assign [.Subscript o i tpos] e pos) (lS X.K (lB te to ti)):=by
 refine PS.imp (qA he (yQ ho hi (PSet.or tZ (uU hu)) ha) hs hw rfl) fun D σ H h => ?_;obtain ⟨ρ,M,A,rs,rm,l,q⟩:=h;refine ⟨ρ,M,rs,rm,me _ _ _ _ (fun v M1 q1 vv H1 F j G => ?_) q⟩;refine ⟨ρ,M1,rs.mono (F.stab rm),j,mo _ _ _ _ (fun ov M2 q2 vo H2 J z L => ?_) q1⟩;refine ⟨ρ,M2,(rs.mono (F.stab rm)).mono (J.stab j),z,mi _ _ _ _ (fun iv M3 q3 vi H3 O U Y => ?_) q2⟩;have B:=F.trans (J.trans O);exact uV U (L.mono (O.stab z)) Y ((G.mono (J.stab j)).mono (O.stab z)) q3 fun M' H' x4 Z q4=>l.nx ρ M' σ H' (B.trans x4) (rs.mono ((B.trans x4).stab rm)) Z q4
end
end
end Mi
end L2
namespace L2
open PySem PySem.Spec PyProof.Rows
namespace Mi
variable {K:Frag}
theorem rO {ta:TAd} {i j:Nat} (m:aV ta) (D:bx) (σ:St) (H:Hp) (h:lS K (lu ta (bB (br i) (bB (br j) eF))) D σ H):yR i j (lA K ta) D σ H:=by
 obtain ⟨ρ,M,A,rs,rm,l,q⟩:=h;refine ⟨ρ,M,rs,rm,m _ _ _ _ (fun ds G ⟨ρ',e,J⟩ vs H1 F B z => ?_) q⟩
 match ds,e,z with
 | [d1,d2],e,z =>
  obtain ⟨v,u,rfl,L,O⟩:=z.two;simp only [bB,br,eF,Iw,LH] at e;subst e;exact ⟨v,u,rfl,l.nx _ G _ H1 F (((rs.mono (F.stab rm)).set i L).set j O) B J⟩
end Mi
end L2
namespace L2
open PySem PySem.Spec PyProof.Rows
namespace Mi
end Mi
end L2
namespace L2
namespace Mi
open PySem PySem.Spec PyProof.Rows
section
section
variable {X:Cx}
noncomputable def jh:D->Option Bool
 | .bl b=>some b
 | .int i=>some (i != 0)
 | _=>none
noncomputable def uW:RAd:=fun xs M Q => ∃ x ds ts,xs=[x]/\aJ M x=some ds/\aC jh ds=some ts/\Q (.bl (ts.all id)) M
noncomputable def uX:RAd:=fun xs M Q => ∃ x ds ts,xs=[x]/\aJ M x=some ds/\aC jh ds=some ts/\Q (.bl (ts.any id)) M
theorem lD:aM uW:=fun _ _ _ _ h ⟨x,ds,ts,e,j,z,q⟩=>⟨x,ds,ts,e,j,z,h _ _ q⟩
theorem lF:aM uX:=fun _ _ _ _ h ⟨x,ds,ts,e,j,z,q⟩=>⟨x,ds,ts,e,j,z,h _ _ q⟩
theorem lH {α β:Type} {f : α -> Option β}:∀ {xs:List α} {ys:List β},aC f xs=some ys->ys.length=xs.length /\ ∀ (i:Nat) x,xs[i]? = some x -> ∃ y,ys[i]? = some y/\f x=some y
 | [],ys,h=>by cases h;exact ⟨rfl,fun i x e=>by simp at e⟩
 | x::xs,ys,h=>by
   simp only [aC] at h
   cases j:f x with
   | none=>rw [j] at h;cases h
   | some y =>
     rw [j] at h;simp only [Iw] at h
     cases e2:aC f xs with
     | none=>rw [e2] at h;cases h
     | some r =>
       rw [e2] at h;cases h;obtain ⟨l,g⟩:=lH e2;refine ⟨by simp [l],fun i z e => ?_⟩
       cases i with
       | zero=>simp at e;subst e;exact ⟨y,rfl,j⟩
       | succ i=>simp at e;simpa using g i z e
theorem xH {P:Ep} {w:EM} {A:F5} {E:h6->hH->Prop} {s:hH} {K:Frag} {H:Hp} {d:D} {v:V} {u:h6} {b:Bool} {Q:Bool->hH->Prop} (e:jh d=some b) (rd:RD K H d v) (ru:RelV v u) (q:Q b s):Ec (model P w) A (truthy u) Q E s:=by
 cases d with
 | bl c=>cases Np.mp rd;cases ru;cases e;exact GD q
 | int i=>cases Nk.mp rd;obtain ⟨t,rfl⟩:=ru;cases e;exact PyProof.Rows.truthy_int q
 | _=>cases e
theorem range_all {ts:List Bool}:(Ei ts.length).all (fun i=>ts.getD i false)=ts.all id/\(Ei ts.length).any (fun i=>ts.getD i false)=ts.any id:=by
 have e:(Ei ts.length).map (fun i=>ts.getD i false)=ts:=by
  apply List.ext_getElem
  ·simp
  ·intro i h1 h2;simp [EU,D0 h2]
 constructor
 ·conv=>rhs;rw [<- e]
  rw [List.all_map];rfl
 ·conv=>rhs;rw [<- e]
  rw [List.any_map];rfl
theorem lJ (J:X.calm=true) {pins:List (Addr×Obj)} {s:hH} {σ:St} {H:Hp} {M:Mem} {x:D} {ds:List D} {ts:List Bool} {v:V} {u:h6} {Q:h6->hH->Prop} {g:List Bool->Bool} (I:Inv X pins σ H s) (rm:RM X.K M H) (rd:RD X.K H x v) (ru:RelV v u) (U:aJ M x=some ds) (Y:aC jh ds=some ts)
 (fin:∀ h' tk,Inv X pins σ H { s with heap:=h',toks:=tk }->Q (.bool (g ts)) { s with heap:=h',toks:=tk })
 (gg:Nat->(Nat->Bool)->Bool) (L:gg ts.length (fun i=>ts.getD i false)=g ts) :
 Ec (model X.prog X.w) X.A.in1 (Le u) (fun it s₂ => ∃ I fp wr n P St tr,it = .ref I/\Walks X.prog X.w X.A.in1 I fp wr n P St/\St 0 s₂.heap/\TruthOf X.prog X.w X.A.in1 P tr /\
  ∀ h' tk,(∀ b o,b∉wr->s₂.heap.get? b=some o->h'.get? b=some o)->Q (.bool (gg n tr)) { s₂ with heap:=h',toks:=tk }) X.xe s:=by
 obtain ⟨p,vs,rfl,sq,O⟩:=rf rm rd U
 cases ru
 obtain ⟨lt,get⟩:=lH Y;have lv:=O.length;have tr:∀ (its:List h6),Vals vs its->TruthOf X.prog X.w X.A.in1 (fun i w=>its.toArray[i]? = some w) (fun i=>ts.getD i false):=by
  intro its rv i w s' Q' E' Z B;have q:its[i]? = some w:=by simpa using Z
  have li:=rv.length;have hi:i < its.length:=(DZ.mp q).1;obtain ⟨d,hd⟩:∃ d,ds[i]? = some d:=⟨ds[i]'(by lia),D0 (by lia)⟩
  obtain ⟨v',F,rd'⟩:=O.get hd;obtain ⟨u',z,ru'⟩:=rv.get F;rw [q] at z;cases z;obtain ⟨b,hb,eb⟩:=get i d hd;have:ts.getD i false=b:=by rw [EU,hb];rfl
  have B:Q' (ts.getD i false) s':=B;rw [this] at B;exact xH eb rd' ru' B
 rcases sq with sq | sq
 ·obtain ⟨its,rv,pl,hz⟩:=I.list sq;have li:=rv.length;have j:p < s.heap.objs.size:=by obtain ⟨o,n,e,_⟩:=pl;exact E6 e
  refine G9 pl.isList ⟨s.heap.objs.size,_,_,_,_,_,_,rfl,Walks.list (by rw [Lj];exact I.ok.hd J) s.heap.objs.size p (EJ j) its.toArray,⟨⟨_,E1 _ rfl,rfl,rfl⟩,pl.isList.at fun o e=>h7 _ e⟩,tr its rv,fun h' tk k => ?_⟩
  have G:its.toArray.size=ts.length:=by rw [E4];lia
  rw [G,L];exact fin h' tk (I.kept (t':=tk) fun b o e=>k b o (by simp;exact EJ (E6 e)) (h7 _ e))
 ·obtain ⟨its,rv,pl,hz⟩:=I.tuple sq;have li:=rv.length;have j:p < s.heap.objs.size:=by obtain ⟨o,e,_⟩:=pl;exact E6 e
  have pt:s.heap.IsTuple p its.toArray:=pl;refine FA pt ⟨s.heap.objs.size,_,_,_,_,_,_,rfl,Walks.tuple (by rw [Lj];exact I.ok.hd J) s.heap.objs.size p (EJ j) its.toArray,⟨⟨_,E1 _ rfl,rfl,rfl⟩,pt.push _⟩,tr its rv,fun h' tk k => ?_⟩
  have G:its.toArray.size=ts.length:=by rw [E4];lia
  rw [G,L];exact fin h' tk (I.kept (t':=tk) fun b o e=>k b o (by simp;exact EJ (E6 e)) (h7 _ e))
theorem pM (j:X.calm=true):CallR X (.builtin "all") (lR X.K uW):=by
 intro pins s σ H xs us Q I rv h;obtain ⟨ds,M,rm,rs,x,es,ts,rfl,z,B,q⟩:=h;obtain ⟨v,rfl,r⟩:=rs.one;obtain ⟨u,rfl,ru⟩:=cB rv;exact call_all_walk (lJ j I rm r ru z B (g:=fun ts=>ts.all id) (fun h' tk I'=>⟨.bl _,H,I',rfl,q _ H Ext.refl rm (Np.mpr rfl)⟩) (fun n tr=>(Ei n).all tr) range_all.1)
theorem pN (j:X.calm=true):CallR X (.builtin "any") (lR X.K uX):=by
 intro pins s σ H xs us Q I rv h;obtain ⟨ds,M,rm,rs,x,es,ts,rfl,z,B,q⟩:=h;obtain ⟨v,rfl,r⟩:=rs.one;obtain ⟨u,rfl,ru⟩:=cB rv;exact call_any_walk (lJ j I rm r ru z B (g:=fun ts=>ts.any id) (fun h' tk I'=>⟨.bl _,H,I',rfl,q _ H Ext.refl rm (Np.mpr rfl)⟩) (fun n tr=>(Ei n).any tr) range_all.2)
noncomputable def iK (t:Bool):TEd:=fun _ M Q => ∀ p,M p=none->Q (.ref p) (ag M p (.dct t []))
theorem rP {t:Bool}:ad (iK t):=fun _ _ _ _ i q p n=>i _ _ (q p n)
theorem xI {t:Bool} {pos:Pos}:PE X (.Dict [] [] pos) (lE X.K (iK t)):=by
 cases t with
 | false =>
   refine PE.imp u6 fun σ H Q ⟨ρ,M,rs,rm,q⟩ p n => ?_;exact q p (rm.out n) (.ref p) _ (Ext.lay n) (rm.lay n ⟨[],av, .nil⟩) (Nl.mpr rfl)
 | true =>
   refine PE.imp u7 fun σ H Q ⟨ρ,M,rs,rm,q⟩ p n => ?_;exact q p (rm.out n) (.ref p) _ (Ext.lay n) (rm.lay n ⟨[],av, .nil⟩) (Nl.mpr rfl)
end
end
end Mi
end L2
namespace L2
namespace Srt
open PySem PySem.Spec PyProof.Rows
structure Cm (prog:Ep) (w:EM) (A:F5) (s:hH) (kd:HJ) (P:DX->Prop) (lt:DX->DX->Bool):Prop where
 asym:∀ x y,lt x y=true->lt y x=false
 neg:∀ x y z,lt x z=true->lt x y=true∨lt y z=true
 run:∀ (x y:DX) (E:h6->hH->Prop) (Q:Bool->hH->Prop),P x->P y->Q (lt x y) s->Ec (Eh prog w) A (keyLt' kd x.1 y.1) Q E s
section
variable {prog:Ep} {w:EM} {A:F5} {E:h6->hH->Prop} {s:hH} {kd:HJ} {P:DX->Prop} {lt:DX->DX->Bool}
theorem ab {σ α:Type} {M:IE} {x : α} {st : σ} {Q : α -> σ -> Prop} (q:Q x st):wpS M A E s (pure x) Q st :=
 fun _ _ _=>⟨rfl,q⟩
theorem cu {σ:Type} {M:IE} {tag:String} {st : σ} {Q:Unit -> σ -> Prop} (q:Q () st):wpS M A E s (liftM (PySem.rule tag)) Q st :=
 wpS_lift (FW ⟨rfl,q⟩)
theorem xJ {σ:Type} {M:IE} {st st' : σ} {Q:PUnit -> σ -> Prop} (q:Q PUnit.unit st'):wpS M A E s (set st') Q st :=
 fun _ _ _=>⟨rfl,q⟩
theorem iL (c:Cm prog w A s kd P lt) {x y:DX} {st:F1} {Q:Option Bool->F1->Prop} (j:Ft st=kd) (hx:P x) (z:P y) (q:Q (some (lt x y)) st):wpS (Eh prog w) A E s (lt' x y) Q st:=by
 rw [lt'_eq];refine DW (HP ?_);refine DW (wpS_lift ?_);rw [j];intro Γ p hp;rw [Sem.wp_attempt];exact c.run x y (fun e s'=>s'=s/\wpS (Eh prog w) A E s (do modify fun s=>Iy (Ft s) (EK s) (Eg s) (gallopOf s) (some e);pure none) Q st) (fun b s'=>s'=s/\wpS (Eh prog w) A E s (pure (some b)) Q st) hx z ⟨rfl,ab q⟩ Γ p hp
theorem aA {arr:Array DX} {i:Nat} {x:DX} {st:F1} {Q:DX->F1->Prop} (h:arr[i]? = some x) (q:Q x st):wpS (Eh prog w) A E s (elem' arr i) Q st:=by
 rw [elem'_eq,h];exact ab q
theorem Cm.le_trans (c:Cm prog w A s kd P lt) {x y z:DX} (h:lt y x=false) (h2:lt z y=false):lt z x=false:=by
 cases e:lt z x with
 | false=>rfl
 | true=>rcases c.neg z y x e with q | q <;> simp_all
theorem Cm.irr (c:Cm prog w A s kd P lt) {x:DX}:lt x x=false:=by
 cases e:lt x x with
 | false=>rfl
 | true=>have:=c.asym x x e;rw [e] at this;exact this
theorem aB {σ α:Type} {M:IE} {m:StateT σ Sem α} {st : σ} {Q Q' : α -> σ -> Prop} (h:wpS M A E s m Q st) (q:∀ a st',Q a st'->Q' a st'):wpS M A E s m Q' st :=
 FU h (fun a s' z=>⟨z.1,q _ _ z.2⟩) fun _ _ z=>z
end
noncomputable abbrev zL:=Bool->DX->Array DX->Nat->Nat->Nat->StateT F1 Sem (Option Nat)
noncomputable abbrev zM:=Array DX->Array DX->StateT F1 Sem (Array DX)
noncomputable def bey (lt:DX->DX->Bool) (left:Bool) (key x:DX):Bool:=if left=true then lt x key else !(lt key x)
structure Same (st st':F1):Prop where
 arr:EK st'=EK st
 kind:Ft st'=Ft st
 pend:Eg st'=Eg st
 fail:Gi st'=Gi st
def fP (prog:Ep) (w:EM) (A:F5) (E:h6->hH->Prop) (s:hH) (kd:HJ) (P:DX->Prop) (lt:DX->DX->Bool) (g:zL):Prop :=
 ∀ (left:Bool) (key:DX) (arr:Array DX) (L xs R:List DX) (base n hint:Nat) (st:F1) (Q:Option Nat->F1->Prop),Ft st=kd->P key->arr.toList=L++xs++R->base=L.length->n=xs.length->(∀ x∈xs,P x)->hint < n ->
  xs.Pairwise (fun x y=>lt y x=false) ->
  (∀ X Y,xs=X++Y->(∀ x∈X,bey lt left key x=true)->(∀ x∈Y,bey lt left key x=false)->Q (some X.length) st) ->
  wpS (Eh prog w) A E s (g left key arr base n hint) Q st
def fQ (prog:Ep) (w:EM) (A:F5) (E:h6->hH->Prop) (s:hH) (kd:HJ) (P:DX->Prop) (lt:DX->DX->Bool) (m:zM):Prop :=
 ∀ (a b:Array DX) (st:F1) (Q:Array DX->F1->Prop),Ft st=kd->(∀ x∈a.toList,P x)->(∀ x∈b.toList,P x)->0 < a.size->0 < b.size ->
  a.toList.Pairwise (fun x y=>lt y x=false)->b.toList.Pairwise (fun x y=>lt y x=false)->(∀ x y,a[0]? = some x->b[0]? = some y->lt x y=false)->(∀ x y,a[a.size - 1]? = some x->b[b.size - 1]? = some y->lt x y=false) ->
  (∀ r st',r.toList.Perm (a.toList++b.toList)->r.toList.Pairwise (fun x y=>lt y x=false)->Same st st'->Q r st') ->
  wpS (Eh prog w) A E s (m a b) Q st
section
variable {prog:Ep} {w:EM} {A:F5} {E:h6->hH->Prop} {s:hH} {kd:HJ} {P:DX->Prop} {lt:DX->DX->Bool}
theorem fq (c:Cm prog w A s kd P lt) {left:Bool} {key x:DX} {arr:Array DX} {j:Nat} {st:F1} {Q:Option Bool->F1->Prop} (z:Ft st=kd) (hx:P key) (B:P x) (e:arr[j]? = some x) (q:Q (some (bey lt left key x)) st) :
 wpS (Eh prog w) A E s (do
  let x <- elem' arr j
  if left=true then lt' x key else do
   let r <- lt' key x
   pure (N4 (fun x => !x) r)) Q st:=by
 refine DW (aA e ?_)
 cases left with
 | true=>exact iL c z B hx q
 | false=>exact DW (iL c z hx B (ab q))
theorem lK (c:Cm prog w A s kd P lt) {left:Bool} {key x y:DX} (h:lt y x=false) (j:bey lt left key y=true):bey lt left key x=true:=by
 unfold bey at j ⊢
 cases left with
 | true =>
   rw [if_pos rfl] at j ⊢
   rcases c.neg y x key j with q | q
   ·rw [h] at q;cases q
   ·exact q
 | false =>
   simp at j ⊢
   cases e:lt key x with
   | false=>rfl
   | true =>
     rcases c.neg key y x e with q | q
     ·rw [j] at q;cases q
     ·rw [h] at q;cases q
structure Gal (lt:DX->DX->Bool) (left:Bool) (key:DX) (xs:List DX) (lo hi:Nat):Prop where
 le:lo<=hi
 len:hi<=xs.length
 up:∀ i x,i < lo->xs[i]? = some x->bey lt left key x=true
 dn:∀ i x,hi<=i->xs[i]? = some x->bey lt left key x=false
theorem dQ {xs:List DX} {R:DX->DX->Prop} (h:xs.Pairwise R) {i j:Nat} {x y:DX} (q:i < j) (hx:xs[i]? = some x) (z:xs[j]? = some y):R x y:=by
 obtain ⟨h1,B⟩:=DZ.mp hx;obtain ⟨h2,F⟩:=DZ.mp z;rw [<- B, <- F];exact Jm.mp h i j h1 h2 q
theorem fR (c:Cm prog w A s kd P lt) {left:Bool} {key:DX} {xs:List DX} (h:xs.Pairwise (fun x y=>lt y x=false)) {j:Nat} {y:DX} (q:xs[j]? = some y) (z:bey lt left key y=true):∀ i x,i < j+1->xs[i]? = some x->bey lt left key x=true:=by
 intro i x hi hx
 by_cases e:i=j
 ·subst e;rw [hx] at q;cases q;exact z
 ·exact lK c (dQ h (by lia) hx q) z
theorem fS (c:Cm prog w A s kd P lt) {left:Bool} {key:DX} {xs:List DX} (h:xs.Pairwise (fun x y=>lt y x=false)) {j:Nat} {y:DX} (z:xs[j]? = some y) (B:bey lt left key y=false):∀ i x,j<=i->xs[i]? = some x->bey lt left key x=false:=by
 intro i x hi hx
 by_cases e:i=j
 ·subst e;rw [hx] at z;cases z;exact B
 ·cases q:bey lt left key x with
  | false=>rfl
  | true=>have:=lK c (dQ h (by lia) z hx) q;rw [B] at this;cases this
theorem Gal.out {left:Bool} {key:DX} {xs:List DX} {k:Nat} (g:Gal lt left key xs k k):∃ X Y,xs=X++Y/\X.length=k/\(∀ x∈X,bey lt left key x=true)/\(∀ x∈Y,bey lt left key x=false):=by
 refine ⟨xs.take k,xs.drop k,(FT k xs).symm,by rw [Eu];exact HQ g.len,fun x hx => ?_,fun x hx => ?_⟩
 ·obtain ⟨i,hi,e⟩:=G4.mp hx;rw [Eu] at hi;exact g.up i x (by lia) (by rw [List.getElem_take] at e;rw [<- e];exact D0 _)
 ·obtain ⟨i,hi,e⟩:=G4.mp hx;rw [Iq] at hi;refine g.dn (k+i) x (by lia) ?_
  rw [List.getElem_drop] at e;rw [<- e];exact D0 _
noncomputable abbrev Ord (lt:DX->DX->Bool) (l:List DX):Prop:=l.Pairwise fun x y=>lt y x=false
theorem lL {out X A' B:List DX} (h1:Ord lt (out++(X++A'))) (h2:Ord lt (out++B)) (h:∀ x∈X, ∀ y∈B,lt y x=false):Ord lt ((out++X)++A')/\Ord lt ((out++X)++B):=by
 refine ⟨by rw [E9];exact h1, ?_⟩
 rw [E9];obtain ⟨j,q,F⟩:=DV.mp h1;obtain ⟨O,p2,G⟩:=DV.mp h2;obtain ⟨J,U,Y⟩:=DV.mp q;refine DV.mpr ⟨j,DV.mpr ⟨J,p2,h⟩,fun x hx y L => ?_⟩
 rcases Ea.mp L with z | z
 ·exact F x hx y (Fo _ z)
 ·exact G x hx y z
structure ML (lt:DX->DX->Bool) (la lb out:List DX) (ia ib:Nat):Prop where
 pa:Ord lt (out++la.drop ia)
 pb:Ord lt (out++lb.drop ib)
 pm:(out++(la.drop ia++lb.drop ib)).Perm (la++lb)
theorem nZ (c:Cm prog w A s kd P lt) {l:List DX} {i:Nat} {x y:DX} (h:Ord lt (l.drop i)) (j:l[i]? = some y) (hx:lt y x=false):∀ z∈l.drop i,lt z x=false:=by
 obtain ⟨hi,e⟩:=DZ.mp j;rw [Fs hi,e] at h ⊢;intro z B
 rcases Eb.mp B with q | q
 ·rw [q];exact hx
 ·exact c.le_trans hx ((Hd.mp h).1 z q)
theorem du {l X Y:List DX} {i:Nat} (e:l.drop i=X++Y):l.drop (i+X.length)=Y:=by
 rw [<- Ji,e,List.drop_left]
theorem ML.galA (c:Cm prog w A s kd P lt) {la lb out X Y:List DX} {ia ib:Nat} {y:DX} (m:ML lt la lb out ia ib) (e:la.drop ia=X++Y) (j:lb[ib]? = some y) (h:∀ x∈X,lt y x=false):ML lt la lb (out++X) (ia+X.length) ib:=by
 have p2:=(DV.mp m.pb).2.1;have q:=lL (X:=X) (A':=Y) (by rw [<- e];exact m.pa) m.pb fun x hx=>nZ c p2 j (h x hx)
 refine ⟨by rw [du e];exact q.1,q.2, ?_⟩
 rw [du e];refine Gs.trans (Hl ?_) m.pm;rw [e];simp
theorem ML.galB (c:Cm prog w A s kd P lt) {la lb out X Y:List DX} {ia ib:Nat} {y:DX} (m:ML lt la lb out ia ib) (e:lb.drop ib=X++Y) (j:la[ia]? = some y) (h:∀ x∈X,lt y x=false):ML lt la lb (out++X) ia (ib+X.length):=by
 have p2:=(DV.mp m.pa).2.1;have q:=lL (X:=X) (A':=Y) (by rw [<- e];exact m.pb) m.pa fun x hx=>nZ c p2 j (h x hx)
 refine ⟨q.2,by rw [du e];exact q.1, ?_⟩
 rw [du e];refine Gs.trans ?_ m.pm;rw [e,E9];refine EW _ ?_;rw [<- E9, <- E9];exact F9 _ Hs
theorem dv {l:List DX} {i:Nat} {x:DX} (h:l[i]? = some x):l.drop i=[x]++l.drop (i+1):=by
 obtain ⟨hi,e⟩:=DZ.mp h;rw [Fs hi,e];rfl
theorem ML.pushA (c:Cm prog w A s kd P lt) {la lb out:List DX} {ia ib:Nat} {x y:DX} (m:ML lt la lb out ia ib) (hx:la[ia]? = some x) (j:lb[ib]? = some y) (h:lt y x=false):ML lt la lb (out++[x]) (ia+1) ib :=
 m.galA c (dv hx) j (by simpa using h)
theorem ML.pushB (c:Cm prog w A s kd P lt) {la lb out:List DX} {ia ib:Nat} {x y:DX} (m:ML lt la lb out ia ib) (hx:la[ia]? = some x) (j:lb[ib]? = some y) (h:lt x y=false):ML lt la lb (out++[y]) ia (ib+1) :=
 m.galB c (dv j) hx (by simpa using h)
def Res (lt:DX->DX->Bool) (la lb r:List DX):Prop:=r.Perm (la++lb)/\Ord lt r
theorem ML.fin {la lb out:List DX} {ia ib:Nat} (m:ML lt la lb out ia ib) (h:lb.length<=ib):Res lt la lb (out++la.drop ia++lb.drop ib):=by
 rw [Gp h,Fe];refine ⟨?_,m.pa⟩;have:=m.pm;rw [Gp h,Fe] at this;exact this
theorem ML.finE {la lb out:List DX} {ia ib:Nat} (m:ML lt la lb out ia ib) (h:la.length<=ia):Res lt la lb (out++la.drop ia++lb.drop ib):=by
 rw [Gp h,Fe];refine ⟨?_,m.pb⟩;have:=m.pm;rw [Gp h,IS] at this;exact this
theorem ML.finA {la lb out:List DX} {ia ib:Nat} (m:ML lt la lb out ia ib) (h:∀ x∈lb, ∀ y∈la.drop ia,lt y x=false):Res lt la lb (out++lb.drop ib++la.drop ia):=by
 refine ⟨?_, ?_⟩
 ·refine Gs.trans ?_ m.pm;rw [E9];exact EW _ Hs
 ·obtain ⟨F,q,B⟩:=DV.mp m.pa;refine DV.mpr ⟨m.pb,q,fun x hx y j => ?_⟩
  rcases Ea.mp hx with z | z
  ·exact B x z y j
  ·exact h x (II z) y j
theorem ML.size {la lb out:List DX} {ia ib:Nat} (m:ML lt la lb out ia ib) (j:ia<=la.length) (q:ib<=lb.length):out.length=ia+ib:=by
 have:=m.pm.length_eq;simp only [z4,Iq] at this;lia
theorem aE {a:Array DX} {i:Nat} (h:i < a.size):∃ x,a[i]? = some x/\a.toList[i]? = some x/\x∈a.toList:=by
 refine ⟨a[i],EC h, ?_,Array.getElem_mem_toList h⟩;rw [Er];exact EC h
theorem bD {a:Array DX} {i:Nat}:(a.extract i).toList=a.toList.drop i:=by
 rw [G5];simp only [Ie];exact He (by simp)
theorem xK {a:Array DX} {i:Nat} {X Y:List DX} (e:a.toList.drop i=X++Y):(a.extract i (i+X.length)).toList=X:=by
 rw [G5];simp [Ie,e]
theorem Same.refl {st:F1}:Same st st:=⟨rfl,rfl,rfl,rfl⟩
theorem Same.trans {a b c:F1} (h:Same a b) (g:Same b c):Same a c:=⟨g.arr.trans h.arr,g.kind.trans h.kind,g.pend.trans h.pend,g.fail.trans h.fail⟩
theorem jT {O Y A' B:List DX} (h1:Ord lt (A'++(Y++O))) (h2:Ord lt (B++O)) (h:∀ y∈Y, ∀ x∈B,lt y x=false):Ord lt (B++(Y++O)):=by
 obtain ⟨J,j,L⟩:=DV.mp h1;obtain ⟨q,p2,F⟩:=DV.mp h2;refine DV.mpr ⟨q,j,fun x hx y G => ?_⟩
 rcases Ea.mp G with z | z
 ·exact h y z x hx
 ·exact F x hx y z
structure MH (lt:DX->DX->Bool) (la lb out:List DX) (na nb:Nat):Prop where
 pa:Ord lt (la.take na++out.reverse)
 pb:Ord lt (lb.take nb++out.reverse)
 pm:(la.take na++lb.take nb++out.reverse).Perm (la++lb)
theorem fT (c:Cm prog w A s kd P lt) {l:List DX} {n:Nat} {x y:DX} (h:Ord lt (l.take n)) (G : 0 < n) (B:l[n - 1]? = some y) (hx:lt x y=false):∀ z∈l.take n,lt x z=false:=by
 intro z F;obtain ⟨i,hi,e⟩:=G4.mp F;have j:(l.take n)[i]? = some z:=by rw [<- e];exact D0 hi
 have q:(l.take n)[n - 1]? = some y:=by rw [HH (by lia)];exact B
 rw [Eu] at hi
 by_cases hin:i=n - 1
 ·subst hin;rw [q] at j;cases j;exact hx
 ·exact c.le_trans (dQ h (by lia) j q) hx
theorem dw {l X Y:List DX} {n:Nat} (e:l.take n=X++Y):l.take X.length=X:=by
 have h:X.length<=n:=by
  have:=congrArg HY e;simp only [Eu,z4] at this;lia
 have h2:(l.take n).take X.length=X:=by rw [e,List.take_left]
 rw [List.take_take,HQ h] at h2;exact h2
theorem MH.galA (c:Cm prog w A s kd P lt) {la lb out X Y:List DX} {na nb:Nat} {y:DX} (m:MH lt la lb out na nb) (e:la.take na=X++Y) (j : 0 < nb) (z:lb[nb - 1]? = some y) (h:∀ x∈Y,lt x y=false):MH lt la lb (out++Y.reverse) X.length nb:=by
 have p2:=(DV.mp m.pb).1;have h1:Ord lt (X++(Y++out.reverse)):=by rw [<- E9, <- e];exact m.pa
 have q:=jT h1 m.pb fun x hx=>fT c p2 j z (h x hx);refine ⟨by rw [dw e];simpa using h1,by simpa using q, ?_⟩
 rw [dw e];refine Gs.trans ?_ m.pm;rw [e];simp only [List.reverse_append,Kw,E9];refine EW _ ?_;rw [<- E9, <- E9];exact F9 _ Hs
theorem MH.galB (c:Cm prog w A s kd P lt) {la lb out X Y:List DX} {na nb:Nat} {y:DX} (m:MH lt la lb out na nb) (e:lb.take nb=X++Y) (j : 0 < na) (z:la[na - 1]? = some y) (h:∀ x∈Y,lt x y=false):MH lt la lb (out++Y.reverse) na X.length:=by
 have p2:=(DV.mp m.pa).1;have h1:Ord lt (X++(Y++out.reverse)):=by rw [<- E9, <- e];exact m.pb
 have q:=jT h1 m.pa fun x hx=>fT c p2 j z (h x hx);refine ⟨by simpa using q,by rw [dw e];simpa using h1, ?_⟩
 rw [dw e];refine Gs.trans (Hl ?_) m.pm;rw [e];simp
theorem cv {l:List DX} {n:Nat} {x:DX} (j : 0 < n) (h:l[n - 1]? = some x):l.take n=l.take (n - 1)++[x]:=by
 obtain ⟨k,rfl⟩:∃ k,n=k+1:=⟨n - 1,by lia⟩
 rw [Nat.add_sub_cancel] at h ⊢;rw [Jw,h];rfl
theorem oa {l:List DX} {n:Nat} {x:DX} (j : 0 < n) (h:l[n - 1]? = some x):(l.take (n - 1)).length=n - 1:=by
 obtain ⟨hi,_⟩:=DZ.mp h;rw [Eu];lia
theorem MH.pushA (c:Cm prog w A s kd P lt) {la lb out:List DX} {na nb:Nat} {x y:DX} (m:MH lt la lb out na nb) (j : 0 < na) (z : 0 < nb) (hx:la[na - 1]? = some x) (B:lb[nb - 1]? = some y) (h:lt x y=false):MH lt la lb (out++[x]) (na - 1) nb:=by
 have q:=m.galA c (cv j hx) z B (by simpa using h)
 rw [oa j hx] at q;simpa using q
theorem MH.pushB (c:Cm prog w A s kd P lt) {la lb out:List DX} {na nb:Nat} {x y:DX} (m:MH lt la lb out na nb) (B : 0 < na) (j : 0 < nb) (hx:la[na - 1]? = some x) (z:lb[nb - 1]? = some y) (h:lt y x=false):MH lt la lb (out++[y]) na (nb - 1):=by
 have q:=m.galB c (cv j z) B hx (by simpa using h)
 rw [oa j z] at q;simpa using q
theorem MH.fin {la lb out:List DX} {na nb:Nat} (m:MH lt la lb out na nb) (h:na=0∨nb=0):Res lt la lb (la.take na++lb.take nb++out.reverse):=by
 refine ⟨m.pm, ?_⟩
 rcases h with rfl | rfl
 ·simpa using m.pb
 ·simpa using m.pa
theorem MH.finB {la lb out:List DX} {na nb:Nat} (m:MH lt la lb out na nb) (h:∀ x∈lb.take nb, ∀ y∈la,lt y x=false):Res lt la lb (lb.take nb++la.take na++out.reverse):=by
 refine ⟨Gs.trans (F9 _ Hs) m.pm, ?_⟩;obtain ⟨j,F,q⟩:=DV.mp m.pb;rw [E9];refine DV.mpr ⟨j,m.pa,fun x hx y B => ?_⟩
 rcases Ea.mp B with z | z
 ·exact h x hx y (IJ z)
 ·exact q x hx y z
theorem MH.size {la lb out:List DX} {na nb:Nat} (m:MH lt la lb out na nb) (j:na<=la.length) (q:nb<=lb.length):out.length+na+nb=la.length+lb.length:=by
 have:=m.pm.length_eq;simp only [z4,Eu,KW] at this;lia
theorem dE {a:Array DX}:a.toList.take a.size=a.toList:=He (by simp)
theorem b9 {a:Array DX} {i:Nat}:(a.extract 0 i).toList=a.toList.take i:=by
 rw [G5];simp [Ie]
theorem uY {a:Array DX} {n:Nat} {X Y:List DX} (e:a.toList.take n=X++Y):(a.extract X.length n).toList=Y:=by
 rw [G5];simp only [Ie];rw [<- List.drop_take,e,List.drop_left]
theorem uZ:∀ (m old L R:List DX) (a:Array DX),a.toList=L++old++R->m.length=old.length->(Ir (fun a x=>a.setIfInBounds (L.length+x.snd) x.fst) a m.zipIdx).toList=L++m++R:=by
 have g:∀ (m old L R:List DX) (k:Nat) (a:Array DX),a.toList=L++old++R->m.length=old.length -> ∀ b:Nat,b+k=L.length->(Ir (fun a x=>a.setIfInBounds (b+x.snd) x.fst) a (m.zipIdx k)).toList=L++m++R:=by
  intro m
  induction m with
  | nil =>
    intro old L R k a e h b j;have:old=[]:=EO.mp h.symm;subst this;simpa using e
  | cons x m ih =>
    intro old L R k a e h b j
    cases old with
    | nil=>simp at h
    | cons y old =>
      rw [JH,Gc];have q:(a.setIfInBounds (b+k) x).toList=(L++[x])++old++R:=by
       rw [Jj,e,j];simp
      have:=ih old (L++[x]) R (k+1) _ q (by simpa using h) b (by simp;lia)
      rw [this];simp
 exact fun m old L R a e h=>g m old L R 0 a e h L.length (by lia)
theorem af {σ α:Type} {M:IE} {p:Prop} [Decidable p] {j q:StateT σ Sem α} {st : σ} {Q : α -> σ -> Prop} (h1:p->wpS M A E s j Q st) (h2 : ¬p->wpS M A E s q Q st):wpS M A E s (if p then j else q) Q st:=by
 split
 ·next h=>exact h1 h
 ·next h=>exact h2 h
theorem ML.cut {a out:Array DX} {la lb X Y:List DX} {i j n:Nat} (m:ML lt la lb (out.toList++X) i j) (e:a.toList.drop n=X++Y):ML lt la lb (out++a.extract n (n+X.length)).toList i j:=by
 rw [E8,xK e];exact m
theorem MH.cut {a out:Array DX} {la lb X Y:List DX} {i j n:Nat} (m:MH lt la lb (out.toList++Y.reverse) i j) (e:a.toList.take n=X++Y):MH lt la lb (out++(a.extract X.length n).reverse).toList i j:=by
 rw [E8,EF,uY e];exact m
theorem rQ {σ α:Type} {M:IE} {m:StateT σ Sem α} {st : σ} {Q : α -> σ -> Prop} {P : σ -> Prop} (j:P st) (h:∀ st',P st'->wpS M A E s m Q st'):wpS M A E s m Q st:=h st j
theorem w4 {σ α:Type} {M:IE} {m:StateT σ Sem α} {st : σ} {Q : α -> σ -> Prop} (h:∀ Q' : α -> σ -> Prop,(∀ a st',Q a st'->Q' a st')->wpS M A E s m Q' st):wpS M A E s m Q st:=h Q fun _ _ h=>h
theorem w5 {key x:DX} (h:bey lt false key x=true):lt key x=false:=by simpa [bey] using h
theorem rR {key x:DX} (h:bey lt false key x=false):lt key x=true:=by simpa [bey] using h
theorem w6 {key x:DX} (h:bey lt true key x=true):lt x key=true:=by simpa [bey] using h
theorem rS {key x:DX} (h:bey lt true key x=false):lt x key=false:=by simpa [bey] using h
theorem lM {l X Y:List DX} {i:Nat} {x:DX} (e:l.drop i=X++Y) (h:l[i+X.length]? = some x):x∈Y:=by
 rw [<- du e,dv h];simp
theorem lN {l X Y:List DX} {n:Nat} {x:DX} (e:l.take n=X++Y) (h0 : 0 < X.length) (h:l[X.length - 1]? = some x):x∈X:=by
 have:=cv h0 h;rw [dw e] at this;rw [this];simp
theorem lP {a:Array DX} {X Y:List DX} {i:Nat} (e:a.toList.drop i=X++Y):X.length<=a.size - i:=by
 have:=congrArg HY e;simp at this;lia
theorem jU {a:Array DX} {X Y:List DX} {n:Nat} (e:a.toList.take n=X++Y) (h:n<=a.size):X.length+Y.length=n:=by
 have:=congrArg HY e;simp at this;lia
theorem eJ {a:Array DX} {n:Nat} (h:n<=a.size):n=(a.toList.take n).length:=by simp;lia
theorem ML.finR {a b out:Array DX} {ia ib:Nat} (m:ML lt a.toList b.toList out.toList ia ib) (h:b.size<=ib):Res lt a.toList b.toList (out++a.extract ia++b.extract ib).toList:=by
 have:=m.fin (by simpa using h)
 simpa only [E8,bD] using this
theorem ML.finS {a b out:Array DX} {ia ib:Nat} (m:ML lt a.toList b.toList out.toList ia ib) (h:a.size<=ia):Res lt a.toList b.toList (out++a.extract ia++b.extract ib).toList:=by
 have:=m.finE (by simpa using h)
 simpa only [E8,bD] using this
theorem ML.finL {a b out:Array DX} {ia ib:Nat} (m:ML lt a.toList b.toList out.toList ia ib) (h:∀ x∈b.toList, ∀ y∈a.toList.drop ia,lt y x=false):Res lt a.toList b.toList (out++b.extract ib++a.extract ia).toList:=by
 have:=m.finA h;simpa only [E8,bD] using this
theorem MH.finR {a b out:Array DX} {na nb:Nat} (m:MH lt a.toList b.toList out.toList na nb) (h:∀ x∈b.toList.take nb, ∀ y∈a.toList,lt y x=false):Res lt a.toList b.toList (b.extract 0 nb++a.extract 0 na++out.reverse).toList:=by
 have:=m.finB h;simpa only [E8,EF,b9] using this
theorem MH.finL {a b out:Array DX} {na nb:Nat} (m:MH lt a.toList b.toList out.toList na nb) (h:na=0∨nb=0):Res lt a.toList b.toList (a.extract 0 na++b.extract 0 nb++out.reverse).toList:=by
 have:=m.fin h;simpa only [E8,EF,b9] using this
theorem AZ (c:Cm prog w A s kd P lt) :
 ∃ (g:zL) (lo hi:zM),(fP prog w A E s kd P lt g/\(fP prog w A E s kd P lt g->fQ prog w A E s kd P lt lo)/\(fP prog w A E s kd P lt g->fQ prog w A E s kd P lt hi))/\(fP prog w A E s kd P lt g->fQ prog w A E s kd P lt lo->fQ prog w A E s kd P lt hi ->
  ∀ (i sa na pa sb nb pb:Nat) (L r1 r2 R:List DX) (st:F1) (Q:Bool->F1->Prop),Ft st=kd->Gi st=none->(Eg st)[i]? = some (sa,na,pa)->(Eg st)[i+1]? = some (sb,nb,pb) ->
   (EK st).toList=L++(r1++r2)++R->sa=L.length->na=r1.length->sb=L.length+r1.length->nb=r2.length->r1≠[]->r2≠[]->(∀ x∈r1,P x)->(∀ x∈r2,P x)->Ord lt r1->Ord lt r2 ->
   (∀ m st',(EK st').toList=L++m++R->m.Perm (r1++r2)->Ord lt m->Ft st'=kd->Gi st'=none->Eg st'=((Eg st).setIfInBounds i (sa,na+nb,pa)).eraseIdxIfInBounds (i+1)->Q true st') ->
   wpS (Eh prog w) A E s (N5 i) Q st):=by
 apply LI;apply LI;apply LI;apply Iu
 rotate_left
 ·intro hg DC DD i sa na pa sb nb pb L r1 r2 R st Q hk hf h1 h2 Z D5 Co D6 CG DE DF Df Dg o1 o2 q;unfold N5;refine DW (HP ?_);rw [h1,h2];dsimp only;refine DW (xJ ?_);obtain ⟨y0,t2,rfl⟩:∃ y t,r2=y::t:=by cases r2 with | nil=>exact absurd rfl DF | cons y t=>exact ⟨y,t,rfl⟩
  have hz:(EK st)[sb]? = some y0:=by
   rw [<- Er,Z,D6];simp
  refine DW (aA hz ?_);refine DW (hg false y0 (EK st) L r1 (y0::t2++R) sa na 0 _ _ hk (Dg _ (by simp)) (by rw [Z];simp) D5 Co Df (by rw [Co];exact F4.mpr DE) o1 fun X Y e hX hY => ?_)
  dsimp only;have lX:∀ x∈X,lt y0 x=false:=fun x hx=>by have:=hX x hx;simpa [bey] using this
  have lY:∀ x∈Y,lt x y0=false:=fun x hx=>c.asym _ _ (by have:=hY x hx;simpa [bey] using this)
  have hlen:na - X.length=Y.length:=by rw [Co,e];simp
  subst e;obtain ⟨oX,oY,oXY⟩:=DV.mp o1;have oy:=Hd.mp o2;have D7:∀ x∈X, ∀ z∈y0::t2,lt z x=false:=fun x hx z hz=>by
   rcases Eb.mp hz with h | h
   ·rw [h];exact lX x hx
   ·exact c.le_trans (lX x hx) (oy.1 z h)
  refine af (fun h => ?_) (fun h => ?_)
  ·have D8:Y=[]:=EO.mp (by rw [<- hlen];simpa using h)
   subst D8;refine ab (q (X++(y0::t2)) _ (by simpa using Z) (by simp) ?_ hk hf rfl)
   exact DV.mpr ⟨oX,o2,D7⟩
  ·have D8 : 0 < Y.length:=by
    have:na - X.length≠0:=by simpa using h
    lia
   obtain ⟨Y0,xl,rfl⟩:∃ Y0 xl,Y=Y0++[xl]:=⟨Y.dropLast,Y.getLast (by intro z;rw [z] at D8;simp at D8),(Gg _).symm⟩
   have DG:(EK st)[sa+X.length+(na - X.length) - 1]? = some xl:=by
    rw [<- Er,Z,hlen,D5];simp only [E9,z4,EV];rw [D2 (by lia),D2 (by lia),D2 (by lia)]
    rw [show L.length+X.length+(Y0.length+1) - 1 - L.length - X.length - Y0.length=0 by lia];rfl
   refine DW (aA DG ?_);refine DW (hg true xl (EK st) (L++(X++(Y0++[xl]))) (y0::t2) R sb nb (nb - 1) _ _ hk (Df _ (by simp)) (by rw [Z];simp) (by rw [D6];simp) CG Dg (by rw [CG];simp) o2 fun X2 Y2 e2 Cp Cq => ?_)
   dsimp only;have DH:∀ x∈X2,lt xl x=false:=fun x hx=>c.asym _ _ (by have:=Cp x hx;simpa [bey] using this)
   have Dq:∀ x∈Y2,lt x xl=false:=fun x hx=>by have:=Cq x hx;simpa [bey] using this
   have DI:Ord lt (X2++Y2):=by rw [<- e2];exact o2
   obtain ⟨DJ,DK,Dr⟩:=DV.mp DI;obtain ⟨DS,_,oYl⟩:=DV.mp oY;have lYY:∀ x∈Y0++[xl], ∀ z∈Y2,lt z x=false:=fun x hx z hz=>by
    rcases Ea.mp hx with h | h
    ·exact c.le_trans (oYl x h xl (by simp)) (Dq z hz)
    ·simp at h;subst h;exact Dq z hz
   refine af (fun h => ?_) (fun h => ?_)
   ·have Ch:X2=[]:=EO.mp (by simpa using h)
    subst Ch;have e2:y0::t2=Y2:=by simpa using e2
    refine ab (q (X++(Y0++[xl])++(y0::t2)) _ (by simpa using Z) (Kx _) ?_ hk hf rfl)
    refine DV.mpr ⟨o1,o2,fun x hx z hz => ?_⟩
    rcases Ea.mp hx with g | g
    ·exact D7 x g z hz
    ·exact lYY x g z (by rw [<- e2];exact hz)
   ·have Ch:X2≠[]:=fun z=>h (by rw [z];rfl)
    have hx:((EK st).extract (sa+X.length) sb).toList=Y0++[xl]:=by
     rw [G5,Z,D5,D6];simp only [Ie];have e1:(L++(X++(Y0++[xl])++y0::t2)++R).drop (L.length+X.length)=(Y0++[xl])++(y0::t2++R):=by
      rw [<- Ji];simp
     rw [e1,show L.length+(X++(Y0++[xl])).length - (L.length+X.length)=(Y0++[xl]).length by simp only [z4];lia,List.take_left]
    have hy:((EK st).extract sb (sb+X2.length)).toList=X2:=by
     rw [G5,Z,D6];simp only [Ie];have e1:(L++(X++(Y0++[xl])++y0::t2)++R).drop (L.length+(X++(Y0++[xl])).length)=(y0::t2)++R:=by
      rw [<- Ji];simp
     rw [e1,e2];simp
    have G:∀ (r:Array DX) (BM:F1),r.toList.Perm ((Y0++[xl])++X2)->Ord lt r.toList->Same (PyProof.Rows.SortSt.mk' (Ft st) (EK st) (((Eg st).setIfInBounds i (sa,na+nb,pa)).eraseIdxIfInBounds (i+1)) (gallopOf st) (Gi st)) BM -> ∀ BJ:F1,EK BJ=Ir (fun a x=>a.setIfInBounds (sa+X.length+x.snd) x.fst) (EK BM) r.toList.zipIdx->Ft BJ=Ft BM->Gi BJ=Gi BM->Eg BJ=Eg BM->Q (Gi BJ).isNone BJ:=by
     intro r BM hp ho hs BJ g1 g2 g3 g4;have Ds:Gi BJ=none:=g3.trans (hs.fail.trans hf);rw [Ds];refine q (X++r.toList++Y2) BJ ?_ ?_ ?_ (g2.trans (hs.kind.trans hk)) Ds (g4.trans hs.pend)
     ·rw [g1,hs.arr];have e3:(EK st).toList=(L++X)++((Y0++[xl])++X2)++(Y2++R):=by
       rw [Z,e2];simp
      rw [show sa+X.length=(L++X).length by rw [D5];simp]
      rw [uZ _ _ _ _ _ e3 (hp.length_eq)];simp
     ·rw [e2];refine Gs.trans (F9 _ (EW _ hp)) ?_;simp
     ·refine DV.mpr ⟨DV.mpr ⟨oX,ho,fun x hx z hz => ?_⟩,DK,fun x hx z hz => ?_⟩
      ·rcases Ea.mp (hp.mem_iff.mp hz) with g | g
       ·exact oXY x hx z g
       ·exact D7 x hx z (by rw [e2];exact Fo _ g)
      ·rcases Ea.mp hx with g | g
       ·exact D7 x g z (by rw [e2];exact Ek _ hz)
       ·rcases Ea.mp (hp.mem_iff.mp g) with g | g
        ·exact lYY x g z hz
        ·exact Dr x g z hz
    have Dd:∀ x y,((EK st).extract (sa+X.length) sb)[0]? = some x->((EK st).extract sb (sb+X2.length))[0]? = some y->lt x y=false:=by
     intro x y C9 CH;rw [<- Er,hx] at C9;rw [<- Er,hy] at CH;have CI:=Ez C9;have:y=y0:=by
      cases X2 with
      | nil=>exact absurd rfl Ch
      | cons z t=>simp at e2 CH;rw [<- CH, <- e2.1]
     subst this;exact lY x CI
    have preL:∀ x y,((EK st).extract (sa+X.length) sb)[((EK st).extract (sa+X.length) sb).size - 1]? = some x->((EK st).extract sb (sb+X2.length))[((EK st).extract sb (sb+X2.length)).size - 1]? = some y->lt x y=false:=by
     intro x y C9 CH;rw [<- Er, <- El,hx] at C9;rw [<- Er, <- El,hy] at CH;have Ca:=Ez CH;have:x=xl:=by simp at C9;exact C9.symm
     subst this;exact DH y Ca
    have Dt : 0 < ((EK st).extract (sa+X.length) sb).size:=by rw [<- El,hx];simp
    have Du : 0 < ((EK st).extract sb (sb+X2.length)).size:=by rw [<- El,hy];exact F4.mpr Ch
    have Dv:∀ x∈((EK st).extract (sa+X.length) sb).toList,P x:=by rw [hx];exact fun x hx=>Df x (Ek _ hx)
    have Dw:∀ x∈((EK st).extract sb (sb+X2.length)).toList,P x:=by rw [hy];exact fun x hx=>Dg x (by rw [e2];exact Fo _ hx)
    have Dx:Ord lt ((EK st).extract (sa+X.length) sb).toList:=by rw [hx];exact oY
    have Dy:Ord lt ((EK st).extract sb (sb+X2.length)).toList:=by rw [hy];exact DJ
    refine af (fun h => ?_) (fun h => ?_)
    ·refine DW (DC _ _ _ _ hk Dv Dw Dt Du Dx Dy Dd preL fun r BM hp ho hs => ?_);rw [hx,hy] at hp;refine DW (FY ?_);refine DW (HP ?_);exact ab (G r BM hp ho hs _ rfl rfl rfl rfl)
    ·refine DW (DD _ _ _ _ hk Dv Dw Dt Du Dx Dy Dd preL fun r BM hp ho hs => ?_);rw [hx,hy] at hp;refine DW (FY ?_);refine DW (HP ?_);exact ab (G r BM hp ho hs _ rfl rfl rfl rfl)
 apply Iu
 ·intro left key arr L xs R base n hint st Q hk Ci Z Dh hn hP hh hs q;subst Dh hn;have at_:∀ i,i < xs.length -> ∃ x,xs[i]? = some x/\arr[L.length+i]? = some x/\P x:=by
   intro i hi;refine ⟨xs[i],D0 hi, ?_,hP _ (GW _)⟩;rw [<- Er,Z,E9,D2 (by lia),E5 (by lia)]
   rw [show L.length+i - L.length=i by lia]
   exact D0 hi
  obtain ⟨x0,C9,CJ,DL⟩:=at_ hint hh;refine DW (fq c hk Ci DL CJ ?_)
  try dsimp only
  refine af (fun hb => ?_) (fun hb => ?_)
  ·skip
   refine DW (aB (Q:=fun r st'=>st'=st /\ ∃ la ofs,r=(none,la,ofs)/\hint+la < xs.length/\la < ofs/\(∀ j x,j < hint+la+1->xs[j]? = some x->bey lt left key x=true)/\(xs.length<=hint+ofs ∨ ∀ j x,hint+ofs<=j->xs[j]? = some x->bey lt left key x=false))
    (EX (fun i r st'=>st'=st /\ ∃ la ofs,r=(none,la,ofs)/\hint+la < xs.length/\la < ofs/\i+1<=ofs/\(∀ j x,j < hint+la+1->xs[j]? = some x->bey lt left key x=true)) ?_ ?_ ⟨rfl,0,1,rfl,hh,by lia,by lia,fR c hs C9 hb⟩) ?_)
   ·rintro i r st' _ hi ⟨rfl,la,ofs,rfl,h1,h2,h3,h4⟩
    try dsimp only
    refine af (fun Cr => ?_) (fun Cr => ?_)
    ·exact ab ⟨rfl,la,ofs,rfl,h1,h2,h4, .inl (by lia)⟩
    ·skip
     obtain ⟨x1,C4,Ct,Cu⟩:=at_ (hint+ofs) (by lia)
     refine DW (fq c hk Ci Cu Ct ?_)
     try dsimp only
     refine af (fun hf => ?_) (fun hf => ?_)
     ·exact ab ⟨rfl,la,ofs,rfl,h1,h2,h4, .inr (fS c hs C4 (by simpa using hf))⟩
     ·exact ab ⟨rfl,ofs,2*ofs+1,rfl,by lia,by lia,by lia,fR c hs C4 (by simpa using hf)⟩
   ·rintro r st' ⟨rfl,la,ofs,rfl,h1,h2,h3,h4⟩;exact ⟨rfl,la,ofs,rfl,h1,h2,h4, .inl (by lia)⟩
   ·rintro r st' ⟨rfl,la,ofs,rfl,h1,h2,h3,h4⟩
    try dsimp only
    have hG:Gal lt left key xs (hint+la+1) (hint+min ofs (xs.length - hint)):=by
     refine ⟨by lia,by lia,h3,fun i x hi hx => ?_⟩
     have DT:i < xs.length:=(DZ.mp hx).1
     rcases h4 with h4 | h4
     ·lia
     ·exact h4 i x (by lia) hx
    generalize hint+la+1=lo at hG;generalize hint+min ofs (xs.length - hint)=hi at hG;refine DW (aB (Q:=fun r st''=>st''=st' /\ ∃ k,r=(none,k,k)/\Gal lt left key xs k k)
     (EX (fun i r st''=>st''=st' /\ ∃ lo hi,r=(none,lo,hi)/\Gal lt left key xs lo hi/\hi - lo+i<=xs.length) ?_ ?_ ⟨rfl,lo,hi,rfl,hG,by have:=hG.len;lia⟩) ?_)
    ·rintro i r st'' _ hi ⟨rfl,lo,hi,rfl,hG,hm⟩
     try dsimp only
     have hl:=hG.le;have CK:=hG.len;refine af (fun Cr => ?_) (fun Cr => ?_)
     ·exact ab ⟨rfl,hi,by rw [show lo=hi by lia],by rw [show lo=hi by lia] at hG;exact hG⟩
     ·skip
      obtain ⟨x1,C4,Ct,Cu⟩:=at_ (lo+(hi - lo) / 2) (by lia)
      refine DW (fq c hk Ci Cu Ct ?_)
      try dsimp only
      refine af (fun hf => ?_) (fun hf => ?_)
      ·exact ab ⟨rfl,_,_,rfl,⟨by lia,CK,fR c hs C4 hf,hG.dn⟩,by lia⟩
      ·exact ab ⟨rfl,_,_,rfl,⟨by lia,by lia,hG.up,fS c hs C4 (by simpa using hf)⟩,by lia⟩
    ·rintro r st'' ⟨rfl,lo,hi,rfl,hG,hm⟩;have hl:=hG.le;exact ⟨rfl,hi,by rw [show lo=hi by lia],by rw [show lo=hi by lia] at hG;exact hG⟩
    ·rintro r st'' ⟨rfl,k,rfl,hG⟩;obtain ⟨X,Y,e,hl,hX,hY⟩:=hG.out;subst hl;exact ab (q X Y e hX hY)
  ·skip
   refine DW (aB (Q:=fun r st'=>st'=st /\ ∃ la ofs,r=(none,la,ofs)/\la<=hint/\la < ofs/\(∀ j x,hint - la<=j->xs[j]? = some x->bey lt left key x=false)/\(hint < ofs ∨ ∀ j x,j < hint - ofs+1->xs[j]? = some x->bey lt left key x=true))
    (EX (fun i r st'=>st'=st /\ ∃ la ofs,r=(none,la,ofs)/\la<=hint/\la < ofs/\i+1<=ofs/\(∀ j x,hint - la<=j->xs[j]? = some x->bey lt left key x=false)) ?_ ?_ ⟨rfl,0,1,rfl,by lia,by lia,by lia,fS c hs C9 (by simpa using hb)⟩) ?_)
   ·rintro i r st' _ hi ⟨rfl,la,ofs,rfl,h1,h2,h3,h4⟩
    try dsimp only
    refine af (fun Cr => ?_) (fun Cr => ?_)
    ·exact ab ⟨rfl,la,ofs,rfl,h1,h2,h4, .inl (by lia)⟩
    ·skip
     obtain ⟨x1,C4,Ct,Cu⟩:=at_ (hint - ofs) (by lia)
     refine DW (fq c hk Ci Cu Ct ?_)
     try dsimp only
     refine af (fun hf => ?_) (fun hf => ?_)
     ·exact ab ⟨rfl,la,ofs,rfl,h1,h2,h4, .inr (fR c hs C4 hf)⟩
     ·exact ab ⟨rfl,ofs,2*ofs+1,rfl,by lia,by lia,by lia,fS c hs C4 (by simpa using hf)⟩
   ·rintro r st' ⟨rfl,la,ofs,rfl,h1,h2,h3,h4⟩;exact ⟨rfl,la,ofs,rfl,h1,h2,h4, .inl (by lia)⟩
   ·rintro r st' ⟨rfl,la,ofs,rfl,h1,h2,h3,h4⟩
    try dsimp only
    have hG:Gal lt left key xs (hint+1 - min ofs (hint+1)) (hint - la):=by
     refine ⟨by lia,by lia,fun i x hi hx => ?_,h3⟩
     rcases h4 with h4 | h4
     ·lia
     ·exact h4 i x (by lia) hx
    generalize hint+1 - min ofs (hint+1)=lo at hG;generalize hint - la=hi at hG;refine DW (aB (Q:=fun r st''=>st''=st' /\ ∃ k,r=(none,k,k)/\Gal lt left key xs k k)
     (EX (fun i r st''=>st''=st' /\ ∃ lo hi,r=(none,lo,hi)/\Gal lt left key xs lo hi/\hi - lo+i<=xs.length) ?_ ?_ ⟨rfl,lo,hi,rfl,hG,by have:=hG.len;lia⟩) ?_)
    ·rintro i r st'' _ hi ⟨rfl,lo,hi,rfl,hG,hm⟩
     try dsimp only
     have hl:=hG.le;have CK:=hG.len;refine af (fun Cr => ?_) (fun Cr => ?_)
     ·exact ab ⟨rfl,hi,by rw [show lo=hi by lia],by rw [show lo=hi by lia] at hG;exact hG⟩
     ·skip
      obtain ⟨x1,C4,Ct,Cu⟩:=at_ (lo+(hi - lo) / 2) (by lia)
      refine DW (fq c hk Ci Cu Ct ?_)
      try dsimp only
      refine af (fun hf => ?_) (fun hf => ?_)
      ·exact ab ⟨rfl,_,_,rfl,⟨by lia,CK,fR c hs C4 hf,hG.dn⟩,by lia⟩
      ·exact ab ⟨rfl,_,_,rfl,⟨by lia,by lia,hG.up,fS c hs C4 (by simpa using hf)⟩,by lia⟩
    ·rintro r st'' ⟨rfl,lo,hi,rfl,hG,hm⟩;have hl:=hG.le;exact ⟨rfl,hi,by rw [show lo=hi by lia],by rw [show lo=hi by lia] at hG;exact hG⟩
    ·rintro r st'' ⟨rfl,k,rfl,hG⟩;obtain ⟨X,Y,e,hl,hX,hY⟩:=hG.out;subst hl;exact ab (q X Y e hX hY)
 apply Iu
 ·intro hg a b st Q hk Cv Cw D9 Da sa sb CL CM q;refine DW (cu ?_);obtain ⟨b0,Db,CN,DN⟩:=aE Da;obtain ⟨a0,CJ,CD,DO⟩:=aE D9;refine DW (aA Db ?_);have m0:ML lt a.toList b.toList [] 0 0:=⟨sa,sb,by simp⟩
  have m1:ML lt a.toList b.toList [b0] 0 1:=m0.pushB c CD CN (CL a0 b0 CJ Db);have Cb:∀ x∈b.toList, ∀ (i:Nat),i+1=a.size -> ∀ y∈a.toList.drop i,lt y x=false:=by
   intro x hx i hi y hy;obtain ⟨aL,Dc,CO,_⟩:=aE (a:=a) (i:=i) (by lia)
   obtain ⟨bL,Di,CF,_⟩:=aE (a:=b) (i:=b.size - 1) (by lia)
   have e:a.toList.drop i=[aL]:=by
    rw [dv CO,Gp (by simp;lia)];rfl
   rw [e] at hy;simp at hy;subst hy;have hl:=CM y bL (by rw [show a.size - 1=i by lia];exact Dc) Di
   obtain ⟨j,hj,e⟩:=G4.mp hx;have Cy:b.toList[j]? = some x:=by rw [<- e];exact D0 hj
   by_cases hjb:j=b.size - 1
   ·subst hjb;rw [CF] at Cy;cases Cy;exact hl
   ·have:=dQ sb (show j < b.size - 1 by simp at hj;lia) Cy CF
    exact c.le_trans this hl
  try dsimp -zeta -zetaHave -zetaUnused only
  refine af (fun h => ?_) (fun h => ?_)
  ·skip
   have h : 1=b.size:=by simpa using h
   refine ab ?_;have r:=m1.fin (by simp;lia)
   exact q _ _ (by simpa only [E8,Ee,Ex,bD] using r.1) (by simpa only [E8,Ee,Ex,bD] using r.2) Same.refl
  ·skip
   refine af (fun h2 => ?_) (fun h2 => ?_)
   ·skip
    have h2 : 0+1=a.size:=by simpa using h2
    refine ab ?_;have r:=m1.finA (Cb · · 0 h2);exact q _ _ (by simpa only [E8,Ee,Ex,bD] using r.1) (by simpa only [E8,Ee,Ex,bD] using r.2) Same.refl
   ·skip
    have h : 1≠b.size:=by simpa using h
    have h2 : 0+1≠a.size:=by simpa using h2
    refine DW (HP ?_)
    try dsimp -zeta -zetaHave -zetaUnused only
    refine DW (aB (Q:=fun r st'=>Same st st' /\ ∃ res t,r=(some res,t)/\Res lt a.toList b.toList res.toList)
     (EX (fun i r st'=>Same st st' /\ ∃ out ia ib mg,r=(none,out,ia,ib,mg)/\ML lt a.toList b.toList out.toList ia ib/\ia+1 < a.size/\ib < b.size/\i+1<=out.size) ?_ ?_ ⟨Same.refl,_,_,_,_,rfl,m1,by lia,by lia,by simp⟩) ?_)
    ·rintro i r C5 _ hi ⟨sm,out,ia,ib,mg,rfl,m,Dj,Dl,hsz⟩
     try dsimp -zeta -zetaHave -zetaUnused only
     refine DW (aB (Q:=fun r st'=>st'=C5/\((∃ B BX C1 ac bc,r=(none,B,BX,C1,ac,bc)/\ML lt a.toList b.toList B.toList BX C1/\BX+1 < a.size/\C1 < b.size/\i+2<=B.size) ∨ ∃ res t,r=(some res,t)/\Res lt a.toList b.toList res.toList))
      (EX (fun j r st'=>st'=C5 /\ ∃ B BX C1 ac bc,r=(none,B,BX,C1,ac,bc)/\ML lt a.toList b.toList B.toList BX C1/\BX+1 < a.size/\C1 < b.size/\i+1+j<=B.size) ?_ ?_ ⟨rfl,_,_,_,_,_,rfl,m,Dj,Dl,by lia⟩) ?_)
     ·rintro j r BM _ hj ⟨rfl,B,BX,C1,ac,bc,rfl,m2,h1,h2,h3⟩
      try dsimp only
      obtain ⟨y,hy,C6,Ca⟩:=aE (a:=b) h2;obtain ⟨x,hx,CP,CI⟩:=aE (a:=a) (i:=BX) (by lia)
      refine DW (aA hy (DW (aA hx (DW (iL c (sm.kind.trans hk) (Cw _ Ca) (Cv _ CI) ?_)))))
      try dsimp only
      refine af (fun hl => ?_) (fun hl => ?_)
      ·skip
       refine DW (aA hy ?_)
       try dsimp only
       have m3:=m2.pushB c CP C6 (c.asym _ _ hl);refine af (fun h => ?_) (fun h => ?_)
       ·skip
        have h:C1+1=b.size:=by simpa using h
        exact ab ⟨rfl, .inr ⟨_,_,rfl,by simpa only [E8,Ee,Ex,bD] using m3.fin (by simp;lia)⟩⟩
       ·skip
        have h:C1+1≠b.size:=by simpa using h
        refine af (fun _ => ?_) (fun _ => ?_)
        ·exact ab ⟨rfl, .inl ⟨_,_,_,_,_,rfl,by simpa only [E8,Ee] using m3,h1,by lia,by simp;lia⟩⟩
        ·exact ab ⟨rfl,_,_,_,_,_,rfl,by simpa only [E8,Ee] using m3,h1,by lia,by simp;lia⟩
      ·skip
       refine DW (aA hx ?_)
       try dsimp only
       have m3:=m2.pushA c CP C6 (by simpa using hl)
       refine af (fun h => ?_) (fun h => ?_)
       ·skip
        have h:BX+1+1=a.size:=by simpa using h
        exact ab ⟨rfl, .inr ⟨_,_,rfl,by simpa only [E8,Ee,Ex,bD] using m3.finA (Cb · · _ h)⟩⟩
       ·skip
        have h:BX+1+1≠a.size:=by simpa using h
        refine af (fun _ => ?_) (fun _ => ?_)
        ·exact ab ⟨rfl, .inl ⟨_,_,_,_,_,rfl,by simpa only [E8,Ee] using m3,by lia,h2,by simp;lia⟩⟩
        ·exact ab ⟨rfl,_,_,_,_,_,rfl,by simpa only [E8,Ee] using m3,by lia,h2,by simp;lia⟩
     ·rintro r BM ⟨rfl,B,BX,C1,ac,bc,rfl,m2,h1,h2,h3⟩;exact ⟨rfl, .inl ⟨_,_,_,_,_,rfl,m2,h1,h2,by lia⟩⟩
     ·rintro r BM ⟨rfl,⟨B,BX,C1,ac,bc,rfl,m2,h1,h2,h3⟩ | ⟨res,t,rfl,J⟩⟩
      ·dsimp -zeta -zetaHave -zetaUnused only;refine DW (cu ?_);refine DW (aB (Q:=fun r st'=>Same st st'/\((∃ F BO BK BY ac bc,r=(none,F,BO,BK,BY,ac,bc)/\ML lt a.toList b.toList F.toList BO BK/\BO+1 < a.size/\BK < b.size/\i+2<=F.size) ∨ ∃ res t,r=(some res,t)/\Res lt a.toList b.toList res.toList))
        (EX (fun j r st'=>Same st st' /\ ∃ F BO BK BY ac bc,r=(none,F,BO,BK,BY,ac,bc)/\ML lt a.toList b.toList F.toList BO BK/\BO+1 < a.size/\BK < b.size/\i+2<=F.size) ?_ ?_ ⟨sm,_,_,_,_,_,_,rfl,m2,h1,h2,h3⟩) ?_)
       ·rintro j r BJ _ hj ⟨BZ,F,BO,BK,BY,CQ,CS,rfl,m3,h1,h2,h5⟩;obtain ⟨y,hy,C6,Ca⟩:=aE (a:=b) h2;refine w4 fun QQ hQ => ?_;have G:∀ (st':F1) (res:Array DX) t,Same st st'->Res lt a.toList b.toList res.toList->QQ (.done (some res,t)) st':=fun st' res t hs hr=>hQ _ _ ⟨hs, .inr ⟨_,_,rfl,hr⟩⟩;have Dm:∀ (st':F1) (out:Array DX) ia ib mg ac bc,Same st st'->ML lt a.toList b.toList out.toList ia ib->ia+1 < a.size->ib < b.size->i+2<=out.size->QQ (.done (none,out,ia,ib,mg,ac,bc)) st'/\QQ (.yield (none,out,ia,ib,mg,ac,bc)) st':=fun st' out ia ib mg ac bc hs p1 p2 p3 p4=>⟨hQ _ _ ⟨hs, .inl ⟨_,_,_,_,_,_,rfl,p1,p2,p3,p4⟩⟩,hQ _ _ ⟨hs,_,_,_,_,_,_,rfl,p1,p2,p3,p4⟩⟩;clear hQ hj
        extract_lets -underBinder s0 vout s1 via s2 vib s3 vmg s4 vac vbc jp vmx
        have CT:∀ mg,wpS (Eh prog w) A E s (jp () mg) QQ BJ:=by
         intro mg;dsimp -zeta -zetaHave -zetaUnused only [jp,s0,vout,s1,via,s2,vib,s3,vmg,s4,vac,vbc];clear vmx jp vbc vac s4 vmg s3 vib s2 via s1 vout s0;refine DW (FY ?_);refine rQ (P:=Same st) (BZ.trans ⟨rfl,rfl,rfl,rfl⟩) fun Cz BP => ?_;have CU:=BP.kind.trans hk;refine DW (aA hy ?_);refine DW (hg false y a (a.toList.take BO) (a.toList.drop BO) [] _ _ _ _ _ CU (Cw _ Ca) (by simp) (eJ (by lia)) (by simp) (fun x hx=>Cv x (II hx)) (by lia) ((DV.mp m3.pa).2.1) fun X Y e hX hY => ?_)
         dsimp -zeta -zetaHave -zetaUnused only;have m4:=m3.galA c e C6 fun x hx=>w5 (hX x hx);have BQ:∀ x4,a.toList[BO+X.length]? = some x4->lt x4 y=false:=fun x4 Cc=>c.asym _ _ (rR (hY x4 (lM e Cc)));have CA:=lP e
         extract_lets -underBinder +onlyGivenNames vac Cd
         clear_value vac
         have Cj:∀ (O:Array DX) (C7:Nat),ML lt a.toList b.toList O.toList C7 BK->(∀ x4,a.toList[C7]? = some x4->lt x4 y=false)->C7+1 < a.size->i+2<=O.size->wpS (Eh prog w) A E s (Cd () O C7) QQ Cz:=by
          intro O C7 Dn Ce DP CV;dsimp -zeta -zetaHave -zetaUnused only [Cd];clear Cd CA BQ m4 hX hY;obtain ⟨x4,Cc,BV,CW⟩:=aE (a:=a) (i:=C7) (by lia)
          refine DW (aA hy ?_);have m5:=Dn.pushB c BV C6 (Ce x4 BV);rw [<- Ee] at m5;have BW:i+2<=(O.push y).size:=by rw [IW];lia
          try dsimp -zeta -zetaHave -zetaUnused only
          extract_lets -underBinder +onlyGivenNames vo5 vi5
          dsimp -zeta -zetaHave -zetaUnused only [vo5];clear vo5;have e5:vi5=BK+1:=rfl
          clear_value vi5
          subst e5
          revert m5 BW
          generalize O.push y=out5;intro m5 BW;refine af (fun h => ?_) (fun h => ?_)
          ·exact ab (G _ _ _ BP (m5.finR (by have h:=GS h;lia)))
          ·have h:BK+1≠b.size:=by simpa using h
           refine DW (aA Cc ?_);refine DW (hg true x4 b (b.toList.take (BK+1)) (b.toList.drop (BK+1)) [] _ _ _ _ _ CU (Cv _ CW) (by simp) (eJ (by lia)) (by simp) (fun x hx=>Cw x (II hx)) (by lia) ((DV.mp m5.pb).2.1) fun X2 Y2 e2 Cp Cq => ?_)
           dsimp -zeta -zetaHave -zetaUnused only;have m6:=m5.galB c e2 BV fun x hx=>c.asym _ _ (w6 (Cp x hx));have BR:∀ y6,b.toList[BK+1+X2.length]? = some y6->lt y6 x4=false:=fun y6 CY=>rS (Cq y6 (lM e2 CY));have CB:=lP e2
           extract_lets -underBinder +onlyGivenNames vbc Cf
           clear_value vbc
           have Ck:∀ (BL:Array DX) (CC:Nat),ML lt a.toList b.toList BL.toList C7 CC->(∀ y6,b.toList[CC]? = some y6->lt y6 x4=false)->CC < b.size->i+2<=BL.size->wpS (Eh prog w) A E s (Cf () BL CC) QQ Cz:=by
            intro BL CC Do Cg De Dz;dsimp -zeta -zetaHave -zetaUnused only [Cf];clear Cf CB BR m6 Cp Cq m5 BW CV h5 h1 h2 hsz Dl Dj h3;obtain ⟨y6,CY,Cl,DA⟩:=aE (a:=b) (i:=CC) De;refine DW (aA Cc ?_);have m7:=Do.pushA c BV Cl (Cg y6 Cl);rw [<- Ee] at m7;dsimp only;refine af (fun h => ?_) (fun h => ?_)
            ·exact ab (G _ _ _ BP (m7.finL (Cb · · (C7+1) (GS h))))
            ·have h:C7+1+1≠a.size:=by simpa using h
             have:=Dm Cz (BL.push x4) (C7+1) CC mg vac vbc BP m7 (by lia) De (by rw [IW];lia)
             exact af (fun _=>ab this.1) (fun _=>ab this.2)
           clear_value Cf
           refine af (fun h0 => ?_) (fun h0 => ?_)
           ·dsimp only;have m6:=m6.cut (a:=b) e2;refine af (fun h => ?_) (fun h => ?_)
            ·exact ab (G _ _ _ BP (m6.finR (by have h:=GS h;lia)))
            ·have h:BK+1+X2.length≠b.size:=by simpa using h
             exact Ck _ _ m6 BR (by lia) (by rw [Ht];lia)
           ·have Ch:X2=[]:=EO.mp (by lia)
            subst Ch;exact Ck _ _ m5 BR (by lia) BW
         clear_value Cd
         refine af (fun h0 => ?_) (fun h0 => ?_)
         ·dsimp only;have m4:=m4.cut (a:=a) e;refine af (fun h => ?_) (fun h => ?_)
          ·exact ab (G _ _ _ BP (m4.finL (Cb · · _ (GS h))))
          ·have h:BO+X.length+1≠a.size:=by simpa using h
           refine af (fun h => ?_) (fun h9 => ?_)
           ·exact ab (G _ _ _ BP (m4.finS (by have h:=GS h;lia)))
           ·have h9:BO+X.length≠a.size:=by simpa using h9
            exact Cj _ _ m4 BQ (by lia) (by rw [Ht];lia)
         ·have Ch:X=[]:=EO.mp (by lia)
          subst Ch;exact Cj _ _ m3 BQ h1 h5
        clear_value jp
        exact af (fun _=>CT _) (fun _=>CT _)
       ·rintro r BJ ⟨BZ,F,BO,BK,BY,CQ,CS,rfl,m3,h1,h2,h5⟩;exact ⟨BZ, .inl ⟨_,_,_,_,_,_,rfl,m3,h1,h2,h5⟩⟩
       ·rintro r BJ ⟨BZ,⟨F,BO,BK,BY,CQ,CS,rfl,m3,h1,h2,h5⟩ | ⟨res,t,rfl,J⟩⟩
        ·dsimp -zeta -zetaHave -zetaUnused only;refine DW (FY ?_);exact ab ⟨BZ.trans ⟨rfl,rfl,rfl,rfl⟩,_,_,_,_,rfl,m3,h1,h2,by lia⟩
        ·exact ab ⟨BZ,_,_,rfl,J⟩
      ·exact ab ⟨sm,_,_,rfl,J⟩
    ·rintro r C5 ⟨sm,out,ia,ib,mg,rfl,m,Dj,Dl,hsz⟩;have:=m.size (by simp;lia) (by simp;lia)
     simp at this;lia
    ·rintro r C5 ⟨sm,res,t,rfl,J⟩;exact ab (q res C5 J.1 J.2 sm)
 ·intro hg a b st Q hk Cv Cw D9 Da sa sb CL CM q;refine DW (cu ?_);obtain ⟨bL,Di,CF,DQ⟩:=aE (a:=b) (i:=b.size - 1) (by lia)
  obtain ⟨aL,Dc,CO,DR⟩:=aE (a:=a) (i:=a.size - 1) (by lia)
  refine DW (aA Dc ?_);have m0:MH lt a.toList b.toList [] a.size b.size:=⟨by rw [dE];simpa using sa,by rw [dE];simpa using sb,by rw [dE,dE];simp⟩
  have m1:MH lt a.toList b.toList [aL] (a.size - 1) b.size:=m0.pushA c D9 Da CO CF (CM aL bL Dc Di);have C3:∀ x∈b.toList.take 1, ∀ y∈a.toList,lt y x=false:=by
   intro x hx y hy;obtain ⟨b0,Db,CN,_⟩:=aE Da;obtain ⟨a0,CJ,CD,_⟩:=aE D9;have ex:x=b0:=by
    rw [cv (by lia) CN] at hx
    simpa using hx
   subst ex;have h:=CL a0 x CJ Db;obtain ⟨j,hj,e⟩:=G4.mp hy;have Cy:a.toList[j]? = some y:=by rw [<- e];exact D0 hj
   by_cases hj0:j=0
   ·subst hj0;rw [CD] at Cy;cases Cy;exact h
   ·exact c.le_trans h (dQ sa (by lia) CD Cy)
  try dsimp -zeta -zetaHave -zetaUnused only
  refine af (fun h => ?_) (fun h => ?_)
  ·skip
   have h:a.size - 1=0:=by simpa using h
   refine ab ?_;have r:=m1.fin (.inl h);exact q _ _ (by simpa only [E8,Ee,EF,Ex,b9] using r.1) (by simpa only [E8,Ee,EF,Ex,b9] using r.2) Same.refl
  ·skip
   refine af (fun h2 => ?_) (fun h2 => ?_)
   ·skip
    have h2:b.size=1:=by simpa using h2
    refine ab ?_;have r:=m1.finB (by rw [h2];exact C3)
    exact q _ _ (by simpa only [E8,Ee,EF,Ex,b9] using r.1) (by simpa only [E8,Ee,EF,Ex,b9] using r.2) Same.refl
   ·skip
    have h:a.size - 1≠0:=by simpa using h
    have h2:b.size≠1:=by simpa using h2
    refine DW (HP ?_)
    try dsimp -zeta -zetaHave -zetaUnused only
    refine DW (aB (Q:=fun r st'=>Same st st' /\ ∃ res t,r=(some res,t)/\Res lt a.toList b.toList res.toList)
     (EX (fun i r st'=>Same st st' /\ ∃ na nb out mg,r=(none,na,nb,out,mg)/\MH lt a.toList b.toList out.toList na nb/\0 < na/\1 < nb/\na < a.size/\nb<=b.size/\i+1<=out.size) ?_ ?_ ⟨Same.refl,_,_,_,_,rfl,m1,by lia,by lia,by lia,by lia,by simp⟩) ?_)
    ·rintro i r C5 _ hi ⟨sm,na,nb,out,mg,rfl,m,Co,CG,CZ,D3,hsz⟩
     try dsimp -zeta -zetaHave -zetaUnused only
     refine DW (aB (Q:=fun r st'=>st'=C5/\((∃ BS BU B ac bc,r=(none,BS,BU,B,ac,bc)/\MH lt a.toList b.toList B.toList BS BU/\0 < BS/\1 < BU/\BS < a.size/\BU<=b.size/\i+2<=B.size) ∨ ∃ res t,r=(some res,t)/\Res lt a.toList b.toList res.toList))
      (EX (fun j r st'=>st'=C5 /\ ∃ BS BU B ac bc,r=(none,BS,BU,B,ac,bc)/\MH lt a.toList b.toList B.toList BS BU/\0 < BS/\1 < BU/\BS < a.size/\BU<=b.size/\i+1+j<=B.size) ?_ ?_ ⟨rfl,_,_,_,_,_,rfl,m,Co,CG,CZ,D3,by lia⟩) ?_)
     ·rintro j r BM _ hj ⟨rfl,BS,BU,B,ac,bc,rfl,m2,h1,h2,C0,C2,h3⟩
      try dsimp only
      obtain ⟨y,hy,C6,Ca⟩:=aE (a:=b) (i:=BU - 1) (by lia)
      obtain ⟨x,hx,CP,CI⟩:=aE (a:=a) (i:=BS - 1) (by lia)
      refine DW (aA hy (DW (aA hx (DW (iL c (sm.kind.trans hk) (Cw _ Ca) (Cv _ CI) ?_)))))
      try dsimp only
      refine af (fun hl => ?_) (fun hl => ?_)
      ·skip
       refine DW (aA hx ?_)
       try dsimp only
       have m3:=m2.pushA c h1 (by lia) CP C6 (c.asym _ _ hl)
       refine af (fun h => ?_) (fun h => ?_)
       ·skip
        have h:BS - 1=0:=by simpa using h
        exact ab ⟨rfl, .inr ⟨_,_,rfl,by have r:=m3.fin (.inl h);simpa only [E8,Ee,EF,Ex,b9] using r⟩⟩
       ·skip
        have h:BS - 1≠0:=by simpa using h
        refine af (fun _ => ?_) (fun _ => ?_)
        ·exact ab ⟨rfl, .inl ⟨_,_,_,_,_,rfl,by simpa only [E8,Ee,EF,Ex,b9] using m3,by lia,h2,by lia,C2,by simp;lia⟩⟩
        ·exact ab ⟨rfl,_,_,_,_,_,rfl,by simpa only [E8,Ee,EF,Ex,b9] using m3,by lia,h2,by lia,C2,by simp;lia⟩
      ·skip
       refine DW (aA hy ?_)
       try dsimp only
       have m3:=m2.pushB c h1 (by lia) CP C6 (by simpa using hl)
       refine af (fun h => ?_) (fun h => ?_)
       ·skip
        have h:BU - 1=1:=by simpa using h
        exact ab ⟨rfl, .inr ⟨_,_,rfl,by have r:=m3.finB (by rw [h];exact C3);simpa only [E8,Ee,EF,Ex,b9] using r⟩⟩
       ·skip
        have h:BU - 1≠1:=by simpa using h
        refine af (fun _ => ?_) (fun _ => ?_)
        ·exact ab ⟨rfl, .inl ⟨_,_,_,_,_,rfl,by simpa only [E8,Ee,EF,Ex,b9] using m3,h1,by lia,C0,by lia,by simp;lia⟩⟩
        ·exact ab ⟨rfl,_,_,_,_,_,rfl,by simpa only [E8,Ee,EF,Ex,b9] using m3,h1,by lia,C0,by lia,by simp;lia⟩
     ·rintro r BM ⟨rfl,BS,BU,B,ac,bc,rfl,m2,h1,h2,C0,C2,h3⟩;exact ⟨rfl, .inl ⟨_,_,_,_,_,rfl,m2,h1,h2,C0,C2,by lia⟩⟩
     ·rintro r BM ⟨rfl,⟨BS,BU,B,ac,bc,rfl,m2,h1,h2,C0,C2,h3⟩ | ⟨res,t,rfl,J⟩⟩
      ·try dsimp -zeta -zetaHave -zetaUnused only
       refine DW (cu ?_);refine DW (aB (Q:=fun r st'=>Same st st'/\((∃ BN U F BY ac bc,r=(none,BN,U,F,BY,ac,bc)/\MH lt a.toList b.toList F.toList BN U/\0 < BN/\1 < U/\BN < a.size/\U<=b.size/\i+2<=F.size) ∨ ∃ res t,r=(some res,t)/\Res lt a.toList b.toList res.toList))
        (EX (fun j r st'=>Same st st' /\ ∃ BN U F BY ac bc,r=(none,BN,U,F,BY,ac,bc)/\MH lt a.toList b.toList F.toList BN U/\0 < BN/\1 < U/\BN < a.size/\U<=b.size/\i+2<=F.size) ?_ ?_ ⟨sm,_,_,_,_,_,_,rfl,m2,h1,h2,C0,C2,h3⟩) ?_)
       ·rintro j r BJ _ hj ⟨BZ,BN,U,F,BY,CQ,CS,rfl,m3,h1,h2,C0,C2,h5⟩;obtain ⟨y,hy,C6,Ca⟩:=aE (a:=b) (i:=U - 1) (by lia)
        refine w4 fun QQ hQ => ?_;have G:∀ (st':F1) (res:Array DX) t,Same st st'->Res lt a.toList b.toList res.toList->QQ (.done (some res,t)) st':=fun st' res t hs hr=>hQ _ _ ⟨hs, .inr ⟨_,_,rfl,hr⟩⟩;have Dm:∀ (st':F1) (out:Array DX) na nb mg ac bc,Same st st'->MH lt a.toList b.toList out.toList na nb->0 < na->1 < nb->na < a.size->nb<=b.size->i+2<=out.size->QQ (.done (none,na,nb,out,mg,ac,bc)) st'/\QQ (.yield (none,na,nb,out,mg,ac,bc)) st':=fun st' out ia ib mg ac bc hs p1 p2 p3 p4 p5 p6=>⟨hQ _ _ ⟨hs, .inl ⟨_,_,_,_,_,_,rfl,p1,p2,p3,p4,p5,p6⟩⟩,hQ _ _ ⟨hs,_,_,_,_,_,_,rfl,p1,p2,p3,p4,p5,p6⟩⟩;clear hQ hj
        extract_lets -underBinder s0 vna s1 vnb s2 vout s3 vmg s4 vac vbc jp vmx
        have CT:∀ mg,wpS (Eh prog w) A E s (jp () mg) QQ BJ:=by
         intro mg;dsimp -zeta -zetaHave -zetaUnused only [jp,s0,vna,s1,vnb,s2,vout,s3,vmg,s4,vac,vbc];clear vmx jp vbc vac s4 vmg s3 vout s2 vnb s1 vna s0;refine DW (FY ?_);refine rQ (P:=Same st) (BZ.trans ⟨rfl,rfl,rfl,rfl⟩) fun Cz BP => ?_;have CU:=BP.kind.trans hk;refine DW (aA hy ?_);refine DW (hg false y a [] (a.toList.take BN) (a.toList.drop BN) _ _ _ _ _ CU (Cw _ Ca) (by simp) rfl (eJ (by lia)) (fun x hx=>Cv x (IJ hx)) (by lia) ((DV.mp m3.pa).1) fun X Y e hX hY => ?_)
         dsimp -zeta -zetaHave -zetaUnused only;have m4:=m3.galA c e (by lia) C6 fun x hx=>c.asym _ _ (rR (hY x hx))
         have BQ : 0 < X.length -> ∀ x4,a.toList[X.length - 1]? = some x4->lt y x4=false:=fun h0 x4 Cc=>w5 (hX x4 (lN e h0 Cc));have CA:=jU e (by lia)
         extract_lets -underBinder +onlyGivenNames vk vac Cd
         clear_value vac
         have Cj:∀ (C8:Nat) (O:Array DX),MH lt a.toList b.toList O.toList C8 U->(∀ x4,a.toList[C8 - 1]? = some x4->lt y x4=false)->0 < C8->C8 < a.size->i+2<=O.size->wpS (Eh prog w) A E s (Cd () C8 O) QQ Cz:=by
          intro C8 O Dn Ce D4 DM CV;dsimp -zeta -zetaHave -zetaUnused only [Cd];clear Cd vk CA BQ m4 hX hY;obtain ⟨x4,Cc,BV,CW⟩:=aE (a:=a) (i:=C8 - 1) (by lia)
          refine DW (aA hy ?_);have m5:=Dn.pushB c D4 (by lia) BV C6 (Ce x4 BV)
          rw [<- Ee] at m5;have BW:i+2<=(O.push y).size:=by rw [IW];lia
          try dsimp -zeta -zetaHave -zetaUnused only
          extract_lets -underBinder +onlyGivenNames vo5
          dsimp -zeta -zetaHave -zetaUnused only [vo5];clear vo5
          revert m5 BW
          generalize O.push y=out5;intro m5 BW;refine af (fun h => ?_) (fun h => ?_)
          ·exact ab (G _ _ _ BP (m5.finR (by rw [GS h];exact C3)))
          ·have h:U - 1≠1:=by simpa using h
           refine DW (aA Cc ?_);refine DW (hg true x4 b [] (b.toList.take (U - 1)) (b.toList.drop (U - 1)) _ _ _ _ _ CU (Cv _ CW) (by simp) rfl (eJ (by lia)) (fun x hx=>Cw x (IJ hx)) (by lia) ((DV.mp m5.pb).1) fun X2 Y2 e2 Cp Cq => ?_)
           dsimp -zeta -zetaHave -zetaUnused only;have m6:=m5.galB c e2 D4 BV fun x hx=>rS (Cq x hx);have BR : 0 < X2.length -> ∀ y6,b.toList[X2.length - 1]? = some y6->lt x4 y6=false:=fun h0 y6 CY=>c.asym _ _ (w6 (Cp y6 (lN e2 h0 CY)));have CB:=jU e2 (by lia)
           extract_lets -underBinder +onlyGivenNames vk vbc Cf
           clear_value vbc
           have Ck:∀ (Cn:Nat) (BL:Array DX),MH lt a.toList b.toList BL.toList C8 Cn->(∀ y6,b.toList[Cn - 1]? = some y6->lt x4 y6=false)->1 < Cn->Cn<=b.size->i+2<=BL.size->wpS (Eh prog w) A E s (Cf () Cn BL) QQ Cz:=by
            intro Cn BL Do Cg DB Dp Dz;dsimp -zeta -zetaHave -zetaUnused only [Cf];clear Cf vk CB BR m6 Cp Cq m5 BW CV h5 h1 h2 C0 C2 hsz Co CG CZ D3 h3;obtain ⟨y6,CY,Cl,DA⟩:=aE (a:=b) (i:=Cn - 1) (by lia)
            refine DW (aA Cc ?_);have m7:=Do.pushA c D4 (by lia) BV Cl (Cg y6 Cl)
            rw [<- Ee] at m7;dsimp only;refine af (fun h => ?_) (fun h => ?_)
            ·exact ab (G _ _ _ BP (m7.finL (.inl (GS h))))
            ·have h:C8 - 1≠0:=by simpa using h
             have:=fun mg ac bc=>Dm Cz (BL.push x4) (C8 - 1) Cn mg ac bc BP m7 (by lia) DB (by lia) Dp (by rw [IW];lia)
             exact af (fun _=>ab (this _ _ _).1) (fun _=>ab (this _ _ _).2)
           clear_value Cf
           refine af (fun h0 => ?_) (fun h0 => ?_)
           ·dsimp only;have m6:=m6.cut (a:=b) e2;refine af (fun h => ?_) (fun h => ?_)
            ·exact ab (G _ _ _ BP (m6.finR (by rw [GS h];exact C3)))
            ·have h:X2.length≠1:=by simpa using h
             refine af (fun h9 => ?_) (fun h9 => ?_)
             ·exact ab (G _ _ _ BP (m6.finL (.inr (GS h9))))
             ·have h9:X2.length≠0:=by simpa using h9
              exact Ck _ _ m6 (BR (by lia)) (by lia) (by lia) (by rw [Ht];lia)
           ·have h0 : ¬ (U - 1 - X2.length > 0):=h0;have hl:X2.length=U - 1:=by lia
            have CK : 0 < X2.length:=by lia
            have hr:=BR CK;rw [hl] at hr;exact Ck _ _ m5 hr (by lia) (by lia) BW
         clear_value Cd
         refine af (fun h0 => ?_) (fun h0 => ?_)
         ·dsimp only;have m4:=m4.cut (a:=a) e;refine af (fun h => ?_) (fun h => ?_)
          ·exact ab (G _ _ _ BP (m4.finL (.inl (GS h))))
          ·have h:X.length≠0:=by simpa using h
           exact Cj _ _ m4 (BQ (by lia)) (by lia) (by lia) (by rw [Ht];lia)
         ·have h0 : ¬ (BN - X.length > 0):=h0;have hl:X.length=BN:=by lia
          have hr:=BQ (by lia)
          rw [hl] at hr;exact Cj _ _ m3 hr h1 C0 h5
        clear_value jp
        exact af (fun _=>CT _) (fun _=>CT _)
       ·rintro r BJ ⟨BZ,BN,U,F,BY,CQ,CS,rfl,m3,h1,h2,C0,C2,h5⟩;exact ⟨BZ, .inl ⟨_,_,_,_,_,_,rfl,m3,h1,h2,C0,C2,h5⟩⟩
       ·rintro r BJ ⟨BZ,⟨BN,U,F,BY,CQ,CS,rfl,m3,h1,h2,C0,C2,h5⟩ | ⟨res,t,rfl,J⟩⟩
        ·try dsimp -zeta -zetaHave -zetaUnused only
         refine DW (FY ?_);exact ab ⟨BZ.trans ⟨rfl,rfl,rfl,rfl⟩,_,_,_,_,rfl,m3,h1,h2,C0,C2,by lia⟩
        ·exact ab ⟨BZ,_,_,rfl,J⟩
      ·exact ab ⟨sm,_,_,rfl,J⟩
    ·rintro r C5 ⟨sm,na,nb,out,mg,rfl,m,Co,CG,CZ,D3,hsz⟩;have:=m.size (by simp;lia) (by simp;lia)
     simp at this;lia
    ·rintro r C5 ⟨sm,res,t,rfl,J⟩;exact ab (q res C5 J.1 J.2 sm)
end
end Srt
end L2
namespace L2
namespace Srt
open PySem PySem.Spec PyProof.Rows
section
variable {prog:Ep} {w:EM} {A:F5} {E:h6->hH->Prop} {s:hH} {kd:HJ} {P:DX->Prop} {lt:DX->DX->Bool}
structure Kp (st st':F1):Prop where
 kind:Ft st'=Ft st
 pend:Eg st'=Eg st
 fail:Gi st'=Gi st
theorem Kp.refl {st:F1}:Kp st st:=⟨rfl,rfl,rfl⟩
theorem Kp.trans {a b c:F1} (h:Kp a b) (g:Kp b c):Kp a c:=⟨g.kind.trans h.kind,g.pend.trans h.pend,g.fail.trans h.fail⟩
theorem nD {a:Array DX} {L B R:List DX} (e:a.toList=L++(B++R)) {i j:Nat} (hi:i=L.length) (q:j=L.length+B.length):(mirror a i j ((j - i) / 2)).toList=L++(B.reverse++R):=by
 have hs:a.size=L.length+(B.length+R.length):=by rw [<- El,e];simp
 apply GG;intro k;rw [Er,getElem?_mirror_all (by lia)]
 have g:∀ n:Nat,a[n]? = (L++(B++R))[n]? := fun n=>by rw [<- Er,e]
 rw [g,g]
 by_cases h1:k < L.length
 ·rw [if_neg (by lia),E5 h1,E5 h1]
 ·by_cases h2:k < j
  ·rw [if_pos (by lia),D2 (by lia),E5 (by lia),D2 (by lia),E5 (by simp;lia),List.getElem?_reverse (by lia)]
   congr 1;lia
  ·rw [if_neg (by lia),D2 (by lia),D2 (by lia),D2 (by lia),D2 (by simp;lia)]
   simp
theorem nE {a:Array DX} {L j q R:List DX} {x:DX} (e:a.toList=L++((j++q)++x::R)) {src d:Nat} (hi:src=L.length+(j.length+q.length)) (hd:d=q.length):(bubble a src d).toList=L++((j++x::q)++R):=by
 have hs:a.size=L.length+(j.length+q.length+(R.length+1)):=by rw [<- El,e];simp;lia
 apply GG;intro k;rw [Er,getElem?_bubble (by lia) d (by lia)]
 have g:∀ n:Nat,a[n]? = (L++((j++q)++x::R))[n]? := fun n=>by rw [<- Er,e]
 rw [g,g,g]
 by_cases h1:k < L.length
 ·rw [if_neg (by lia),if_neg (by lia),E5 h1,E5 h1]
 ·by_cases h2:k < L.length+j.length
  ·rw [if_neg (by lia),if_neg (by lia),D2 (by lia),E5 (by simp;lia),E5 (by lia),D2 (by lia),E5 (by simp;lia),E5 (by lia)]
  ·by_cases h3:k=L.length+j.length
   ·rw [if_pos (by lia),D2 (by lia),D2 (by simp;lia),D2 (by lia),E5 (by simp;lia),D2 (by lia)]
    have B:src - L.length - (j++q).length=0:=by simp;lia
    have z:k - L.length - j.length=0:=by lia
    rw [B,z];rfl
   ·by_cases h4:k<=src
    ·rw [if_neg (by lia),if_pos (by lia),D2 (by lia),E5 (by simp;lia),D2 (by lia),D2 (by lia),E5 (by simp;lia),D2 (by lia)]
     have z:k - L.length - j.length=(k - 1 - L.length - j.length)+1:=by lia
     rw [z,GX]
    ·rw [if_neg (by lia),if_neg (by lia),D2 (by lia),D2 (by simp;lia),D2 (by lia),D2 (by simp;lia)]
     have z:k - L.length - (j++q).length=(k - L.length - (j++x::q).length)+1:=by simp;lia
     rw [z,GX]
theorem db (c:Cm prog w A s kd P lt) {i j:Nat} {x y:DX} {st:F1} {Q:Option Bool->F1->Prop} (z:Ft st=kd) (hx:(EK st)[i]? = some x) (B:(EK st)[j]? = some y) (px:P x) (py:P y) (q:Q (some (lt x y)) st):wpS (Eh prog w) A E s (ltAt' i j) Q st:=by
 rw [ltAt'_eq];exact DW (HP (DW (aA hx (DW (aA B (iL c z px py q))))))
theorem iM {i j:Nat} {st:F1} {Q:Unit->F1->Prop} {L B R:List DX} (e:(EK st).toList=L++(B++R)) (hi:i=L.length) (z:j=L.length+B.length) (q:∀ st',(EK st').toList=L++(B.reverse++R)->Kp st st'->Q () st'):wpS (Eh prog w) A E s (reverseSlice' i j) Q st:=by
 rw [reverseSlice'_eq];exact FY (q _ (nD e hi z) ⟨rfl,rfl,rfl⟩)
theorem bY {st:F1} {L xs:List DX} (e:(EK st).toList=L++xs) {i n:Nat} (hi:i=L.length+n):(EK st)[i]? = xs[n]? := by
 rw [<- Er,e,hi,D2 (by lia)]
 congr 1;lia
theorem lQ (c:Cm prog w A s kd P lt) {xs:List DX} {n:Nat} {x y:DX} (h:Ord lt (xs.take n)) (q : 0 < n) (hx:xs[n]? = some x) (B:xs[n - 1]? = some y) (F:lt x y=false):Ord lt (xs.take (n+1)):=by
 rw [Jw,hx];refine DV.mpr ⟨h,by simp,fun z G u j => ?_⟩
 simp at j;subst j;exact fT c h q B F z G
noncomputable abbrev cE (lt:DX->DX->Bool) (l:List DX):Prop:=l.Pairwise fun x y=>lt x y=false
theorem gL (c:Cm prog w A s kd P lt) {D:List DX} {e x:DX} (h:cE lt (D++[e])) (hx:lt e x=false):cE lt (D++[e]++[x]):=by
 refine DV.mpr ⟨h,by simp,fun z B u j => ?_⟩
 simp at j;subst j;obtain ⟨_,_,F⟩:=DV.mp h
 rcases Ea.mp B with g | g
 ·cases q:lt z u with
  | false=>rfl
  | true=>rcases c.neg z e u q with r | r
          ·rw [F z g e (by simp)] at r;cases r
          ·rw [hx] at r;cases r
 ·simp at g;subst g;exact hx
theorem og {q F:List DX} (h:cE lt (q++F)) (he:∀ x∈F, ∀ y∈F,lt x y=false):cE lt (q++F.reverse):=by
 obtain ⟨h1,h2,z⟩:=DV.mp h;refine DV.mpr ⟨h1, ?_,fun x hx y j=>z x hx y (HC.mp j)⟩;rw [Kf];exact h2.imp_of_mem fun hx j _=>he _ j _ hx
theorem perm_take {xs:List DX} {n:Nat}:(xs.take n++xs.drop n).Perm xs:=by rw [FT]
theorem nF (c:Cm prog w A s kd P lt) {L xs:List DX} {st:F1} {Q:Option Nat->F1->Prop} (hk:Ft st=kd) (O:(EK st).toList=L++xs) (h0:xs≠[]) (hP:∀ x∈xs,P x)
 (q:∀ r R st',(EK st').toList=L++(r++R)->(r++R).Perm xs->r≠[]->Ord lt r->Kp st st'->Q (some r.length) st'):wpS (Eh prog w) A E s (countRun' L.length xs.length) Q st:=by
 have C7 : 0 < xs.length:=F4.mpr h0;rw [countRun'_eq]
 try dsimp -zeta -zetaHave -zetaUnused only
 refine DW (aB (Q:=fun r st'=>st'=st /\ ∃ n,r=(none,n)/\1<=n/\n<=xs.length/\Ord lt (xs.take n)/\(n=xs.length ∨ ∃ x y,xs[n]? = some x/\xs[n - 1]? = some y/\lt x y=true))
  (EX (fun i r st'=>st'=st/\r=(none,i)/\Ord lt (xs.take i)) ?_ ?_ ⟨rfl,rfl,by
    cases xs with
    | nil=>exact absurd rfl h0
    | cons x t=>simp⟩) ?_)
 ·rintro i r st' h1 hi ⟨rfl,rfl,ho⟩;dsimp only;obtain ⟨x,hx⟩:∃ x,xs[i]? = some x:=⟨_,D0 hi⟩;obtain ⟨y,hy⟩:∃ y,xs[i - 1]? = some y:=⟨_,D0 (by lia)⟩
  refine DW (db c hk ((bY O rfl).trans hx) ((bY O (by lia)).trans hy) (hP _ (Ez hx)) (hP _ (Ez hy)) ?_)
  dsimp only;refine af (fun h => ?_) (fun h => ?_)
  ·exact ab ⟨rfl,i,rfl,h1,by lia,ho, .inr ⟨x,y,hx,hy,h⟩⟩
  ·exact ab ⟨rfl,rfl,lQ c ho (by lia) hx hy (by simpa using h)⟩
 ·rintro r st' ⟨rfl,rfl,ho⟩;exact ⟨rfl,_,rfl,by lia,by lia,ho, .inl (by lia)⟩
 ·rintro r st' ⟨rfl,n,rfl,Cw,C8,ho,hc⟩;dsimp -zeta -zetaHave -zetaUnused only;have BV:Q (some n) st':=by
   have:=q (xs.take n) (xs.drop n) st' (by rw [O,FT]) perm_take (fun z=>by
    have h3:=congrArg HY z;rw [Eu,Gd] at h3;lia) ho Kp.refl
   rw [Eu,HQ C8] at this;exact this
  extract_lets -underBinder +onlyGivenNames vr vn
  dsimp -zeta -zetaHave -zetaUnused only [vr];clear vr;have en:n=vn:=rfl
  clear_value vn
  subst en;refine af (fun h=>ab BV) (fun h => ?_);have Cj:n≠xs.length:=by simpa using h
  obtain ⟨x,y,hx,hy,Ck⟩:=hc.resolve_left Cj;have Cy:n < xs.length:=by lia
  have exs:xs=xs.take n++x::xs.drop (n+1):=by
   have h1:=(FT n xs).symm;rw [dv hx] at h1;exact h1
  have C9:y∈xs.take n:=by rw [cv (by lia) hy];simp
  extract_lets -underBinder +onlyGivenNames jp
  have Ca:∀ (B:List DX) (BK:F1),(EK BK).toList=L++(B++x::xs.drop (n+1))->B.Perm (xs.take n)->B.length=n->(∀ u∈B, ∀ v∈B,lt u v=false)->y∈B->Kp st' BK->wpS (Eh prog w) A E s (jp ()) Q BK:=by
   intro B BK e1 hB BL BM BN BO;dsimp -zeta -zetaHave -zetaUnused only [jp];clear jp;refine DW (cu ?_)
   try dsimp -zeta -zetaHave -zetaUnused only
   extract_lets -underBinder +onlyGivenNames vn1 vq1
   have Cl:vn1=n+1:=rfl;have eq1:vq1=0:=rfl
   clear_value vn1 vq1
   subst Cl eq1;refine DW (aB (Q:=fun r U => ∃ G F R neq,Kp st' U/\(EK U).toList=L++((G++F)++R)/\((G++F)++R).Perm xs/\r=(none,(G++F).length,neq)/\F.length=neq+1/\cE lt (G++F)/\(∀ u∈F, ∀ v∈F,lt u v=false))
    (EX (fun i r U => ∃ G F R neq,Kp st' U/\(EK U).toList=L++((G++F)++R)/\((G++F)++R).Perm xs/\r=(none,(G++F).length,neq)/\F.length=neq+1/\cE lt (G++F)/\(∀ u∈F, ∀ v∈F,lt u v=false)/\(G++F).length=i) ?_ ?_ ?_) ?_)
   ·rintro i r U Cz hi ⟨G,F,R,neq,kp,ea,hp,rfl,hF,hN,hE,Cb⟩;subst Cb;have hlen:=hp.length_eq;rw [z4] at hlen;obtain ⟨z,R',rfl⟩:∃ z R',R=z::R':=by
     cases R with
     | nil=>simp at hlen;simp at hi;lia
     | cons z R'=>exact ⟨z,R',rfl⟩
    have Cn:F≠[]:=fun z=>by rw [z] at hF;simp at hF
    obtain ⟨F0,e,rfl⟩:∃ F0 e,F=F0++[e]:=⟨F.dropLast,F.getLast Cn,(Gg _).symm⟩;have hz:(EK U)[L.length+(G++(F0++[e])).length]? = some z:=by
     rw [bY ea rfl,D2 (by lia),J3];rfl
    have he:(EK U)[L.length+(G++(F0++[e])).length - 1]? = some e:=by
     rw [bY ea (n:=(G++F0).length) (by simp <;> lia),E5 (by simp <;> lia), <- E9,D2 (by lia),J3];rfl
    have Cc:P z:=hP z (hp.mem_iff.mp (by simp))
    have Cd:P e:=hP e (hp.mem_iff.mp (by simp))
    dsimp only;refine DW (db c (kp.kind.trans hk) hz he Cc Cd ?_);dsimp only;have BZ:cE lt (G++F0++[e]):=by rw [E9];exact hN
    refine af (fun C0 => ?_) (fun C0 => ?_)
    ·have BP:lt e z=false:=c.asym _ _ C0;refine af (fun BQ => ?_) (fun BQ => ?_)
     ·refine DW (iM (L:=L++G) (B:=F0++[e]) (R:=z::R') (by rw [ea];simp) (by simp only [z4] at hF ⊢;simp only [EV] at hF ⊢;lia) (by simp <;> lia) fun Z e3 Y => ?_)
      refine ab ⟨G++(F0++[e]).reverse,[z],R',0,kp.trans Y,by rw [e3];simp, ?_,by simp <;> lia,rfl, ?_, ?_,by simp <;> lia⟩
      ·refine Gs.trans ?_ hp;rw [E9,E9,E9];exact EW _ (F9 _ (Ig _))
      ·have h1:=og hN hE;refine DV.mpr ⟨h1,by simp,fun u j v J => ?_⟩
       simp at J;subst J;have hm:=gL c BZ BP;refine (DV.mp hm).2.2 u ?_ v (by simp)
       rw [E9]
       rcases Ea.mp j with g | g
       ·exact Fo _ g
       ·exact Ek _ (HC.mp g)
      ·intro u j v J;simp at j J;subst j J;exact c.irr
     ·refine ab ⟨G++(F0++[e]),[z],R',0,kp,by rw [ea];simp,by simpa using hp,by simp <;> lia,rfl, ?_, ?_,by simp <;> lia⟩
      ·have hm:=gL c BZ BP;simpa using hm
      ·intro u j v J;simp at j J;subst j J;exact c.irr
    ·have Co:lt z e=false:=by simpa using C0
     refine DW (db c (kp.kind.trans hk) he hz Cd Cc ?_);dsimp only;refine af (fun Ce => ?_) (fun Ce => ?_)
     ·exact ab ⟨G,F0++[e],z::R',neq,kp,ea,hp,rfl,hF,hN,hE⟩
     ·have BP:lt e z=false:=by simpa using Ce
      refine ab ⟨G,(F0++[e])++[z],R',neq+1,kp,by rw [ea];simp,by simpa using hp,by simp <;> lia,by simp at hF ⊢;lia, ?_, ?_,by simp <;> lia⟩
      ·have hm:=gL c BZ BP;simpa using hm
      ·have Cp:∀ u∈F0++[e],lt u z=false:=fun u j=>by
        cases q1:lt u z with
        | false=>rfl
        | true=>rcases c.neg u e z q1 with r | r
                ·rw [hE u j e (by simp)] at r;cases r
                ·rw [BP] at r;cases r
       have Cq:∀ u∈F0++[e],lt z u=false:=fun u j=>by
        cases q1:lt z u with
        | false=>rfl
        | true=>rcases c.neg z e u q1 with r | r
                ·rw [Co] at r;cases r
                ·rw [hE e (by simp) u j] at r;cases r
       intro u j v J
       rcases Ea.mp j with g | g <;> rcases Ea.mp J with g2 | g2
       ·exact hE u g v g2
       ·simp at g2;subst g2;exact Cp u g
       ·simp at g;subst g;exact Cq v g2
       ·simp at g g2;subst g g2;exact c.irr
   ·rintro r U ⟨G,F,R,neq,kp,ea,hp,hr,hF,hN,hE,Cb⟩;exact ⟨G,F,R,neq,kp,ea,hp,hr,hF,hN,hE⟩
   ·refine ⟨B,[x],xs.drop (n+1),0,BO,by rw [e1];simp, ?_,by simp [BL],rfl, ?_, ?_,by simp [BL]⟩
    ·have h9:(B++x::xs.drop (n+1)).Perm xs:=by
      have h9:=F9 (x::xs.drop (n+1)) hB;rw [<- exs] at h9;exact h9
     simpa using h9
    ·refine DV.mpr ⟨HK (fun j J _=>BM _ j _ J) (List.pairwise_of_forall_mem_list (r:=fun _ _=>True) fun _ _ _ _=>trivial),by simp,fun u j v J => ?_⟩
     simp at J;subst J
     cases q1:lt u v with
     | false=>rfl
     | true=>rcases c.neg u y v q1 with r | r
             ·rw [BM u j y BN] at r;cases r
             ·rw [c.asym _ _ Ck] at r;cases r
    ·intro u j v J;simp at j J;subst j J;exact c.irr
   ·rintro r U ⟨G,F,R,neq,kp,ea,hp,rfl,hF,hN,hE⟩;dsimp -zeta -zetaHave -zetaUnused only
    extract_lets -underBinder +onlyGivenNames vr vs vn2 vq2
    dsimp -zeta -zetaHave -zetaUnused only [vr];have Cr:vn2=(G++F).length:=rfl;have eq2:neq=vq2:=rfl
    clear_value vn2 vq2
    clear vs vr;subst Cr eq2
    extract_lets -underBinder +onlyGivenNames BR
    have BW:∀ (D:List DX) (Z:F1),(EK Z).toList=L++(D++R)->cE lt D->(D++R).Perm xs->D.length=(G++F).length->0 < D.length->Kp st' Z->wpS (Eh prog w) A E s (BR ()) Q Z:=by
     intro D Z e3 C1 C2 BS BX Y;dsimp -zeta -zetaHave -zetaUnused only [BR];clear BR;have Ct : 0 < D.length:=by lia
     refine DW (iM (L:=L) (B:=D) (R:=R) e3 rfl (by rw [BS]) fun Cf e4 Cg => ?_)
     have o4:Ord lt D.reverse:=Kf.mpr C1;have BU:(D.reverse++R).Perm xs:=(F9 _ (Ig D)).trans C2;have Ch:(D.reverse++R).length=xs.length:=BU.length_eq;have C3:Ord lt ((D.reverse++R).take D.length):=by
      rw [List.take_append_of_le_length (by simp),He (by simp)];exact o4
     have C4:∀ u∈D.reverse++R,P u:=fun u j=>hP u (BU.mem_iff.mp j);have Cu:D.length<=xs.length:=by rw [<- Ch];simp
     rw [<- BS];generalize D.length=N0 at C3 Ct Cu;generalize D.reverse++R=ys at e4 BU Ch C3 C4;refine DW (aB (Q:=fun r BJ=>BJ=Cf /\ ∃ n,r=(none,n)/\1<=n/\n<=xs.length/\Ord lt (ys.take n))
      (EX (fun i r BJ=>BJ=Cf/\r=(none,i)/\Ord lt (ys.take i)) ?_ ?_ ⟨rfl,rfl,C3⟩) ?_)
     ·rintro i r BJ h1 hi ⟨rfl,rfl,ho⟩;dsimp only;obtain ⟨u,j⟩:∃ u,ys[i]? = some u:=⟨_,D0 (by lia)⟩
      obtain ⟨v,J⟩:∃ v,ys[i - 1]? = some v:=⟨_,D0 (by lia)⟩
      refine DW (db c ((Y.trans Cg).kind.trans hk) ((bY e4 rfl).trans j) ((bY e4 (by lia)).trans J) (C4 _ (Ez j)) (C4 _ (Ez J)) ?_)
      dsimp only;refine af (fun h => ?_) (fun h => ?_)
      ·exact ab ⟨rfl,i,rfl,by lia,by lia,ho⟩
      ·exact ab ⟨rfl,rfl,lQ c ho (by lia) j J (by simpa using h)⟩
     ·rintro r BJ ⟨rfl,rfl,ho⟩;exact ⟨rfl,_,rfl,by lia,by lia,ho⟩
     ·rintro r BJ ⟨rfl,m,rfl,CA,CB,ho⟩;refine ab ?_;have:=q (ys.take m) (ys.drop m) BJ (by rw [e4,FT]) (perm_take.trans BU) (fun z=>by
       have h3:=congrArg HY z;rw [Eu,Gd] at h3;lia) ho (Y.trans Cg)
      rw [Eu,HQ (by lia)] at this
      exact this
    clear_value BR
    refine af (fun BQ => ?_) (fun BQ => ?_)
    ·refine DW (iM (L:=L++G) (B:=F) (R:=R) (by rw [ea];simp) (by simp <;> lia) (by simp <;> lia) fun Z e3 Y => ?_)
     have Y:=kp.trans Y;have e3:(EK Z).toList=L++((G++F.reverse)++R):=by rw [e3];simp
     have C1:=og hN hE;have C2:((G++F.reverse)++R).Perm xs:=(F9 _ (EW _ (Ig _))).trans hp;have BS:(G++F.reverse).length=(G++F).length:=by simp
     have BX : 0 < (G++F.reverse).length:=by simp <;> lia
     exact BW _ _ e3 C1 C2 BS BX Y
    ·exact BW _ _ ea hN hp rfl (by simp <;> lia) kp
  clear_value jp
  refine af (fun h1 => ?_) (fun h1 => ?_)
  ·obtain ⟨x0,C5⟩:∃ x0,xs[0]? = some x0:=⟨_,D0 C7⟩;refine DW (db c hk ((bY O (n := 0) (by lia)).trans C5) ((bY O (by lia)).trans hy) (hP _ (Ez C5)) (hP _ (Ez hy)) ?_)
   dsimp only;refine af (fun hr=>ab BV) (fun hr => ?_);have hr:lt x0 y=false:=by simpa using hr
   have Ci:∀ u∈xs.take n,lt u x0=false:=fun u j=>by
    obtain ⟨i,hi,eu⟩:=G4.mp j;have C6:(xs.take n)[i]? = some u:=by rw [<- eu];exact D0 hi
    have BY:(xs.take n)[0]? = some x0:=by rw [HH (by lia)];exact C5
    by_cases hi0:i=0
    ·subst hi0;rw [BY] at C6;cases C6;exact c.irr
    ·exact dQ ho (by lia) BY C6
   have Cv:∀ u∈xs.take n,lt y u=false:=fT c ho (by lia) hy c.irr
   have heq:∀ u∈xs.take n, ∀ v∈xs.take n,lt u v=false:=fun u j v J=>by
    exact c.le_trans (c.le_trans (Cv v J) hr) (Ci u j)
   refine DW (iM (L:=L) (B:=xs.take n) (R:=x::xs.drop (n+1)) (by rw [O];exact congrArg (L ++ ·) exs) rfl (by rw [Eu,HQ C8]) fun BK e1 BO => ?_)
   have hB:(xs.take n).reverse.Perm (xs.take n):=Ig _;have BL:(xs.take n).reverse.length=n:=by rw [KW,Eu];lia
   have BM:∀ u∈(xs.take n).reverse, ∀ v∈(xs.take n).reverse,lt u v=false:=fun u j v J=>heq u (HC.mp j) v (HC.mp J);have BN:y∈(xs.take n).reverse:=HC.mpr C9;exact Ca _ _ e1 hB BL BM BN BO
  ·have BK:=st';have hn:n=1:=by lia
   have BO:Kp st' st':=Kp.refl;have e1:(EK st').toList=L++(xs.take n++x::xs.drop (n+1)):=by rw [O];exact congrArg (L ++ ·) exs
   have hB:(xs.take n).Perm (xs.take n):=Kx _;have BL:(xs.take n).length=n:=by rw [Eu];lia
   have BN:=C9;have BM:∀ u∈xs.take n, ∀ v∈xs.take n,lt u v=false:=fun u j v J=>by
    have e0:xs.take n=[y]:=by
     subst hn;rw [cv (by lia) hy];rfl
    rw [e0] at j J;simp at j J;subst j J;exact c.irr
   exact Ca _ _ e1 hB BL BM BN BO
end
end Srt
end L2
namespace L2
namespace Srt
open PySem PySem.Spec PyProof.Rows
section
variable {prog:Ep} {w:EM} {A:F5} {E:h6->hH->Prop} {s:hH} {kd:HJ} {P:DX->Prop} {lt:DX->DX->Bool}
theorem rT (c:Cm prog w A s kd P lt) {L r R:List DX} {n:Nat} {st:F1} {Q:Bool->F1->Prop} (hk:Ft st=kd) (Z:(EK st).toList=L++(r++R)) (h0:r≠[]) (ho:Ord lt r) (hn:r.length<=n) (BJ:n<=(r++R).length) (hP:∀ x∈r++R,P x)
 (q:∀ r' R' st',(EK st').toList=L++(r'++R')->(r'++R').Perm (r++R)->r'.length=n->Ord lt r'->Kp st st'->Q true st'):wpS (Eh prog w) A E s (binarySort' L.length n r.length) Q st:=by
 have BP : 0 < r.length:=F4.mpr h0;rw [binarySort'_eq];refine DW (aB (Q:=fun x st'=>x=(none,()) /\ ∃ D T,Kp st st'/\(EK st').toList=L++(D++T)/\(D++T).Perm (r++R)/\D.length=n/\Ord lt D)
  (EX (fun i x st'=>x=(none,()) /\ ∃ D T,Kp st st'/\(EK st').toList=L++(D++T)/\(D++T).Perm (r++R)/\D.length=i/\Ord lt D) ?_ ?_ ⟨rfl,r,R,Kp.refl,Z,Kx _,by lia,ho⟩) ?_)
 ·rintro k x B BQ BR ⟨rfl,D,T,kp,ea,J,hD,O⟩;dsimp only;subst hD;have hlen:=J.length_eq;rw [z4] at hlen;obtain ⟨z,T',rfl⟩:∃ z T',T=z::T':=by
   cases T with
   | nil=>simp at hlen BJ;lia
   | cons z T'=>exact ⟨z,T',rfl⟩
  have BK:∀ u∈D,P u:=fun u G=>hP u (J.mem_iff.mp (Fo _ G));have BL:P z:=hP z (J.mem_iff.mp (by simp))
  have hz:(EK B)[L.length+D.length]? = some z:=by
   rw [bY ea rfl,D2 (by lia),J3];rfl
  refine DW (aB (Q:=fun x st'=>st'=B /\ ∃ k,x=(none,k,k)/\Gal lt false z D k k)
   (EX (fun i x st'=>st'=B /\ ∃ lo hi,x=(none,lo,hi)/\Gal lt false z D lo hi/\hi - lo+i<=D.length) ?_ ?_ ⟨rfl,0,D.length,rfl,⟨by lia,by lia,fun _ _ h=>by lia,fun i x hi hx=>by
     have:=(DZ.mp hx).1;lia⟩,by lia⟩) ?_)
  ·rintro i x U _ hi ⟨rfl,lo,j,rfl,F,hm⟩;dsimp only;have hl:=F.le;have BM:=F.len;refine af (fun BN => ?_) (fun BN => ?_)
   ·exact ab ⟨rfl,j,by rw [show lo=j by lia],by rw [show lo=j by lia] at F;exact F⟩
   ·obtain ⟨u,G⟩:∃ u,D[(lo+j) / 2]? = some u:=⟨_,D0 (by lia)⟩
    have BO:(EK U)[L.length+(lo+j) / 2]? = some u:=by
     rw [bY ea rfl,E5 (by lia)];exact G
    refine DW (db c (kp.kind.trans hk) hz BO BL (BK _ (Ez G)) ?_);dsimp only;refine af (fun hf => ?_) (fun hf => ?_)
    ·exact ab ⟨rfl,_,_,rfl,⟨by lia,by lia,F.up,fS c O G (by simp [bey,hf])⟩,by lia⟩
    ·exact ab ⟨rfl,_,_,rfl,⟨by lia,BM,fR c O G (by simpa [bey] using hf),F.dn⟩,by lia⟩
  ·rintro x U ⟨rfl,lo,j,rfl,F,hm⟩;have hl:=F.le;exact ⟨rfl,j,by rw [show lo=j by lia],by rw [show lo=j by lia] at F;exact F⟩
  ·rintro x U ⟨rfl,l,rfl,F⟩;dsimp only;obtain ⟨X,Y,e,hl,hX,hY⟩:=F.out;subst hl e;rw [moveDown'_eq];refine DW (FY ?_);refine ab ⟨rfl,X++z::Y,T',kp.trans ⟨rfl,rfl,rfl⟩,nE ea (by simp) (by simp;lia), ?_,by simp;lia, ?_⟩
   ·refine Gs.trans ?_ J;rw [E9,E9];refine EW _ ?_;rw [JL];exact List.perm_middle.symm
   ·obtain ⟨o1,o2,o3⟩:=DV.mp O;refine DV.mpr ⟨o1,Hd.mpr ⟨fun u G=>c.asym _ _ (by have:=hY u G;simpa [bey] using this),o2⟩,fun u G v hv => ?_⟩
    rcases Eb.mp hv with g | g
    ·subst g;have:=hX u G;simpa [bey] using this
    ·exact o3 u G v g
 ·rintro x B ⟨rfl,D,T,kp,ea,J,hD,O⟩;exact ⟨rfl,D,T,kp,ea,J,by lia,O⟩
 ·rintro x B ⟨rfl,D,T,kp,ea,J,hD,O⟩;exact ab (q D T B ea J hD O kp)
noncomputable def Pd:Nat->List (List DX)->List (Nat×Nat×Nat)->Prop
 | _,[],ps=>ps=[]
 | s,r::rs,ps => ∃ p t,ps=(s,r.length,p)::t/\Pd (s+r.length) rs t
theorem Pd.split:∀ {l t:List (List DX)} {s:Nat} {ps:List (Nat×Nat×Nat)},Pd s (l++t) ps -> ∃ pl pt,ps=pl++pt/\pl.length=l.length/\Pd s l pl/\Pd (s+l.flatten.length) t pt
 | [],t,s,ps,h=>⟨[],ps,rfl,rfl,rfl,by simpa using h⟩
 | r::l,t,s,ps,h=>by
   obtain ⟨p,q,e,h⟩:=h;obtain ⟨pl,pt,j,z,h1,h2⟩:=Pd.split h;refine ⟨(s,r.length,p)::pl,pt,by rw [e,j];rfl,by simp [z],⟨p,pl,rfl,h1⟩, ?_⟩
   rw [F8,z4, <- L5];exact h2
theorem Pd.join:∀ {l t:List (List DX)} {s:Nat} {pl pt:List (Nat×Nat×Nat)},Pd s l pl->Pd (s+l.flatten.length) t pt->Pd s (l++t) (pl++pt)
 | [],t,s,pl,pt,h,g=>by
  have:pl=[]:=h;subst this;simpa using g
 | r::l,t,s,pl,pt,h,g=>by
   obtain ⟨p,q,e,h⟩:=h;subst e;refine ⟨p,q++pt,rfl,Pd.join h ?_⟩;rw [F8,z4, <- L5] at g;exact g
theorem Pd.length:∀ {l:List (List DX)} {s:Nat} {ps:List (Nat×Nat×Nat)},Pd s l ps->ps.length=l.length
 | [],_,_,h=>by rw [show _=[] from h];rfl
 | r::l,s,ps,h=>by
   obtain ⟨p,q,e,h⟩:=h;rw [e];simp [h.length]
structure Rn (lt:DX->DX->Bool) (kd:HJ) (a₀:List DX) (st:F1) (rs:List (List DX)) (R:List DX):Prop where
 arr:(EK st).toList=rs.flatten++R
 perm:(rs.flatten++R).Perm a₀
 ord:∀ r∈rs,r≠[]/\Ord lt r
 pend:Pd 0 rs (Eg st).toList
 kind:Ft st=kd
 fail:Gi st=none
theorem Rn.merge (c:Cm prog w A s kd P lt) {a₀:List DX} (hP:∀ x∈a₀,P x) {st:F1} {l t:List (List DX)} {j F R:List DX} (h:Rn lt kd a₀ st (l++j::F::t) R) {i:Nat} (hi:i=l.length) {Q:Bool->F1->Prop}
 (q:∀ m st',Rn lt kd a₀ st' (l++m::t) R->m.length=j.length+F.length->Q true st'):wpS (Eh prog w) A E s (N5 i) Q st:=by
 obtain ⟨g,lo,BO,⟨O,U,Y⟩,Z⟩:=AZ (E:=E) c;obtain ⟨pl,pt,ep,J,BJ,BK⟩:=h.pend.split;obtain ⟨L,t1,e1,BL⟩:=BK;obtain ⟨p2,t2,e2,BM⟩:=BL;subst e1 e2;have o1:=h.ord j (by simp)
 have o2:=h.ord F (by simp)
 have G:∀ x,x∈j∨x∈F->P x:=fun x hx=>hP x (h.perm.mem_iff.mp (by simp only [Gj,F8,Ea];rcases hx with z | z <;> simp [z]))
 have ip:∀ (k:Nat) (v:Nat×Nat×Nat),(Eg st).toList[k]? = some v->(Eg st)[k]? = some v:=fun k v e=>by rw [<- Er];exact e
 refine Z O (U O) (Y O) i (0+l.flatten.length) j.length L (0+l.flatten.length+j.length) F.length p2 l.flatten j F (t.flatten++R) st Q h.kind h.fail (ip _ _ ?_) (ip _ _ ?_) (by rw [h.arr];simp) (Ih _) rfl (by lia) rfl o1.1 o2.1 (fun x hx=>G x (.inl hx)) (fun x hx=>G x (.inr hx)) o1.2 o2.2 ?_
 ·rw [ep,hi, <- J,D2 (by lia),J3];rfl
 ·rw [ep,hi, <- J,D2 (by lia),show pl.length+1 - pl.length=1 by lia];rfl
 ·intro m st' ea hm om hk hf BN;have B:m.length=j.length+F.length:=by rw [hm.length_eq];simp
  refine q m st' ⟨by rw [ea];simp, ?_, ?_, ?_,hk,hf⟩ B
  ·refine Gs.trans ?_ h.perm;simp only [Gj,F8,E9];refine EW _ ?_;rw [<- E9 j];exact F9 _ hm
  ·intro r hr
   rcases Ea.mp hr with z | z
   ·exact h.ord r (Fo _ z)
   ·rcases Eb.mp z with z | z
    ·subst z;exact ⟨fun z=>by rw [z] at B;have:=F4.mpr o1.1;simp at B;lia,om⟩
    ·exact h.ord r (by simp [z])
  ·rw [BN];have e3:(((Eg st).setIfInBounds i (0+l.flatten.length,j.length+F.length,L)).eraseIdxIfInBounds (i+1)).toList=pl++(0+l.flatten.length,j.length+F.length,L)::t2:=by
    rw [Array.toList_eraseIdxIfInBounds,Jj,ep,hi, <- J];rw [List.set_append_right _ _ (by lia),J3,List.eraseIdx_append_of_length_le (by lia),show pl.length+1 - pl.length=1 by lia];rfl
   rw [e3];refine BJ.join ⟨L,t2,by rw [B], ?_⟩
   rw [B, <- L5];exact BM
theorem lU {α:Type} {l:List α} (h : 1 < l.length):∃ t a b,l=t++[a,b]:=by
 obtain ⟨t1,b,j⟩:∃ t b,l=t++[b]:=⟨l.dropLast,l.getLast (fun z=>by rw [z] at h;simp at h),(Gg _).symm⟩
 obtain ⟨q,a,B⟩:∃ t b,t1=t++[b]:=⟨t1.dropLast,t1.getLast (fun z=>by rw [j,z] at h;simp at h),(Gg _).symm⟩
 exact ⟨q,a,b,by rw [j,B];simp⟩
theorem zN {α:Type} {l:List α} {i:Nat} (h:i+1 < l.length):∃ t a b u,l=t++a::b::u/\t.length=i:=by
 refine ⟨l.take i,l[i],l[i+1],l.drop (i+2), ?_,by rw [Eu];lia⟩
 rw [<- Fs (by lia), <- Fs (by lia),FT]
theorem Rn.size {a₀:List DX} {st:F1} {rs:List (List DX)} {R:List DX} (h:Rn lt kd a₀ st rs R):rs.flatten.length+R.length=a₀.length:=by
 have:=h.perm.length_eq;rw [z4] at this;exact this
theorem oh:∀ {rs:List (List DX)},(∀ r∈rs,r≠[])->rs.length<=rs.flatten.length
 | [],_=>by simp
 | r::rs,h=>by
   have h1:=F4.mpr (h r (by simp))
   have h2:=oh (rs:=rs) fun r j=>h r (by simp [j])
   rw [F8,z4,Fg];lia
theorem rV {l:List (List DX)} {s pw:Nat} {ps:Array (Nat×Nat×Nat)} (h:Pd s l ps.toList):Pd s l (ps.modify (ps.size - 1) fun x=>(x.1,x.2.1,pw)).toList:=by
 rw [Array.toList_modify];have g:∀ (l:List (List DX)) (s k:Nat) (ps:List (Nat×Nat×Nat)),Pd s l ps->Pd s l (ps.modify k fun x=>(x.1,x.2.1,pw)):=by
  intro l
  induction l with
  | nil=>intro s k ps h;have:ps=[]:=h;subst this;cases k <;> rfl
  | cons r l ih =>
    intro s k ps h;obtain ⟨p,t,e,h⟩:=h;subst e
    cases k with
    | zero=>exact ⟨pw,t,rfl,h⟩
    | succ k=>exact ⟨p,_,rfl,ih _ k t h⟩
 exact g _ _ _ _ h
theorem nG (c:Cm prog w A s kd P lt) {st:F1} {Q:Unit->F1->Prop} (hk:Ft st=kd) (hf:Gi st=none) (hp:Eg st = #[]) (hP:∀ x∈(EK st).toList,P x)
 (q:∀ st',(EK st').toList.Perm (EK st).toList->Ord lt (EK st').toList->Gi st'=none->Q () st'):wpS (Eh prog w) A E s sortRuns' Q st:=by
 rw [sortRuns'_eq];refine DW (HP ?_)
 try dsimp only
 have hsz:(EK st).size=(EK st).toList.length:=by simp
 generalize hA:(EK st).toList=a₀ at hP q hsz;generalize hS:(EK st).size=size at hsz;generalize minRun' size size 0=minrun;refine DW (aB (Q:=fun r st' => ∃ rs lo,r=(none,lo)/\Rn lt kd a₀ st' rs [])
  (EX (fun i r st' => ∃ rs R,r=(none,rs.flatten.length)/\Rn lt kd a₀ st' rs R/\i<=rs.flatten.length) ?_ ?_ ⟨[],a₀,rfl,⟨by simpa using hA,by simp,by simp,by rw [hp];rfl,hk,hf⟩,by simp⟩) ?_)
 ·rintro i r BQ _ hi ⟨rs,R,rfl,L,BN⟩
  try dsimp only
  have C2:=L.size;refine af (fun BZ => ?_) (fun BZ => ?_)
  ·have:R=[]:=EO.mp (by lia)
   subst this;exact ab ⟨rs,_,rfl,L⟩
  ·have BR:size - rs.flatten.length=R.length:=by lia
   have C0:R≠[]:=fun z=>by rw [z,Gd] at BR;lia
   have BS:∀ x∈R,P x:=fun x hx=>hP x (L.perm.mem_iff.mp (Ek _ hx));rw [BR];refine DW (nF c L.kind L.arr C0 BS fun r R1 J ea BJ U ho kp => ?_)
   try dsimp only
   have F:Rn lt kd a₀ J rs (r++R1):=⟨ea,(EW _ BJ).trans L.perm,L.ord,by rw [kp.pend];exact L.pend,kp.kind.trans L.kind,kp.fail.trans L.fail⟩
   have BU:r.length+R1.length=R.length:=by rw [<- BJ.length_eq];simp
   refine af (fun BO => ?_) (fun BO => ?_)
   ·refine DW (cu ?_);refine DW (rT c F.kind F.arr U ho (n:=min R.length minrun) (by lia) (by simp;lia) (fun x hx=>BS x (BJ.mem_iff.mp hx)) fun r2 R2 B BV BM G C1 BL => ?_)
    try dsimp only
    refine af (fun h=>absurd h (by simp)) (fun _ => ?_)
    have BW:r2≠[]:=fun z=>by
     rw [z] at G;simp at G;have:=F4.mpr U;lia
    have F:Rn lt kd a₀ B rs (r2++R2):=⟨BV,(EW _ BM).trans F.perm,F.ord,by rw [BL.pend];exact F.pend,BL.kind.trans F.kind,BL.fail.trans F.fail⟩
    rw [<- G];clear G BM BV BL ea BJ kp BU BO;generalize B=J at F;clear ho U;have ho:=C1;have U:=BW;generalize r2=r at F ho U;generalize R2=R1 at F;refine DW (HP ?_)
    try dsimp only
    have BX:(Eg J).size=rs.length:=by rw [<- El];exact F.pend.length
    cases hb:(Eg J).back? with
    | none =>
      try dsimp only
      have HL:rs.flatten.length=rs.flatten.length:=rfl;refine DW (FY ?_);have BP:=F4.mpr U;have Y:(rs++[r]).flatten.length=rs.flatten.length+r.length:=by rw [Gj,z4,HL];simp
      refine ab ⟨rs++[r],R1,by rw [Y],⟨by rw [show _=_ from F.arr];simp, ?_, ?_, ?_,F.kind,F.fail⟩,by rw [Y];lia⟩
      ·refine Gs.trans (Hl (by simp)) F.perm
      ·intro u hu
       rcases Ea.mp hu with z | z
       ·exact F.ord u z
       ·simp at z;subst z;exact ⟨U,ho⟩
      ·have h8:(Eg (HV J ((Eg J).push (rs.flatten.length,r.length,0)))).toList=(Eg J).toList++[(rs.flatten.length,r.length,0)]:=by
        show ((Eg J).push _).toList=_;rw [Ee]
       rw [show _=_ from h8];exact F.pend.join ⟨0,[],by rw [HL,Ih],rfl⟩
    | some v =>
      obtain ⟨s1,n1,p1⟩:=v
      try dsimp only
      refine DW (aB (Q:=fun x st'=>x=(none,()) /\ ∃ rs',Rn lt kd a₀ st' rs' (r++R1)/\rs'.flatten.length=rs.flatten.length)
       (EX (fun i x st'=>x=(none,()) /\ ∃ rs',Rn lt kd a₀ st' rs' (r++R1)/\rs'.flatten.length=rs.flatten.length) ?_ ?_ ⟨rfl,rs,F,rfl⟩) ?_)
      ·rintro j x B _ hj ⟨rfl,rs',O,G⟩;refine DW (HP ?_)
       try dsimp only
       have BK:(Eg B).size=rs'.length:=by rw [<- El];exact O.pend.length
       by_cases h1:(Eg B).size > 1
       ·rw [if_pos h1];have h2:(Eg B)[(Eg B).size - 2]? = some ((Eg B)[(Eg B).size - 2]'(by lia)):=EC (by lia)
        rw [h2]
        try dsimp only
        refine af (fun h => ?_) (fun h => ?_)
        ·exact ab ⟨rfl,rs',O,G⟩
        ·obtain ⟨t,a,b,e⟩:=lU (l:=rs') (by lia)
         subst e;refine DW (O.merge c hP (by rw [BK];simp) fun m Z h4 hm => ?_)
         refine af (fun h=>absurd h (by simp)) (fun _=>ab ⟨rfl,_,h4, ?_⟩)
         rw [<- G];simp [hm]
       ·rw [if_neg h1];exact ab ⟨rfl,rs',O,G⟩
      ·rintro x B ⟨rfl,rs',O,G⟩;exact ⟨rfl,rs',O,G⟩
      ·rintro x B ⟨rfl,rs',O,G⟩
       try dsimp only
       refine DW (FY ?_);have h4:Rn lt kd a₀ (HV B ((Eg B).modify ((Eg B).size - 1) fun x=>(x.1,x.2.1,power' size (2*s1+n1) (2*s1+n1+n1+r.length) size))) rs' (r++R1):=⟨O.arr,O.perm,O.ord,rV O.pend,O.kind,O.fail⟩;generalize BY:HV B ((Eg B).modify ((Eg B).size - 1) fun x=>(x.1,x.2.1,power' size (2*s1+n1) (2*s1+n1+n1+r.length) size))=Z at h4;have HL:=G;refine DW (FY ?_);have BP:=F4.mpr U;have Y:(rs'++[r]).flatten.length=rs.flatten.length+r.length:=by rw [Gj,z4,HL];simp
       refine ab ⟨rs'++[r],R1,by rw [Y],⟨by rw [show _=_ from h4.arr];simp, ?_, ?_, ?_,h4.kind,h4.fail⟩,by rw [Y];lia⟩
       ·refine Gs.trans (Hl (by simp)) h4.perm
       ·intro u hu
        rcases Ea.mp hu with z | z
        ·exact h4.ord u z
        ·simp at z;subst z;exact ⟨U,ho⟩
       ·have h8:(Eg (HV Z ((Eg Z).push (rs.flatten.length,r.length,0)))).toList=(Eg Z).toList++[(rs.flatten.length,r.length,0)]:=by
         show ((Eg Z).push _).toList=_;rw [Ee]
        rw [show _=_ from h8];exact h4.pend.join ⟨0,[],by rw [HL,Ih],rfl⟩
   ·clear ea BJ kp BU BO;refine DW (HP ?_)
    try dsimp only
    have BX:(Eg J).size=rs.length:=by rw [<- El];exact F.pend.length
    cases hb:(Eg J).back? with
    | none =>
      try dsimp only
      have HL:rs.flatten.length=rs.flatten.length:=rfl;refine DW (FY ?_);have BP:=F4.mpr U;have Y:(rs++[r]).flatten.length=rs.flatten.length+r.length:=by rw [Gj,z4,HL];simp
      refine ab ⟨rs++[r],R1,by rw [Y],⟨by rw [show _=_ from F.arr];simp, ?_, ?_, ?_,F.kind,F.fail⟩,by rw [Y];lia⟩
      ·refine Gs.trans (Hl (by simp)) F.perm
      ·intro u hu
       rcases Ea.mp hu with z | z
       ·exact F.ord u z
       ·simp at z;subst z;exact ⟨U,ho⟩
      ·have h8:(Eg (HV J ((Eg J).push (rs.flatten.length,r.length,0)))).toList=(Eg J).toList++[(rs.flatten.length,r.length,0)]:=by
        show ((Eg J).push _).toList=_;rw [Ee]
       rw [show _=_ from h8];exact F.pend.join ⟨0,[],by rw [HL,Ih],rfl⟩
    | some v =>
      obtain ⟨s1,n1,p1⟩:=v
      try dsimp only
      refine DW (aB (Q:=fun x st'=>x=(none,()) /\ ∃ rs',Rn lt kd a₀ st' rs' (r++R1)/\rs'.flatten.length=rs.flatten.length)
       (EX (fun i x st'=>x=(none,()) /\ ∃ rs',Rn lt kd a₀ st' rs' (r++R1)/\rs'.flatten.length=rs.flatten.length) ?_ ?_ ⟨rfl,rs,F,rfl⟩) ?_)
      ·rintro j x B _ hj ⟨rfl,rs',O,G⟩;refine DW (HP ?_)
       try dsimp only
       have BK:(Eg B).size=rs'.length:=by rw [<- El];exact O.pend.length
       by_cases h1:(Eg B).size > 1
       ·rw [if_pos h1];have h2:(Eg B)[(Eg B).size - 2]? = some ((Eg B)[(Eg B).size - 2]'(by lia)):=EC (by lia)
        rw [h2]
        try dsimp only
        refine af (fun h => ?_) (fun h => ?_)
        ·exact ab ⟨rfl,rs',O,G⟩
        ·obtain ⟨t,a,b,e⟩:=lU (l:=rs') (by lia)
         subst e;refine DW (O.merge c hP (by rw [BK];simp) fun m Z h4 hm => ?_)
         refine af (fun h=>absurd h (by simp)) (fun _=>ab ⟨rfl,_,h4, ?_⟩)
         rw [<- G];simp [hm]
       ·rw [if_neg h1];exact ab ⟨rfl,rs',O,G⟩
      ·rintro x B ⟨rfl,rs',O,G⟩;exact ⟨rfl,rs',O,G⟩
      ·rintro x B ⟨rfl,rs',O,G⟩
       try dsimp only
       refine DW (FY ?_);have h4:Rn lt kd a₀ (HV B ((Eg B).modify ((Eg B).size - 1) fun x=>(x.1,x.2.1,power' size (2*s1+n1) (2*s1+n1+n1+r.length) size))) rs' (r++R1):=⟨O.arr,O.perm,O.ord,rV O.pend,O.kind,O.fail⟩;generalize BY:HV B ((Eg B).modify ((Eg B).size - 1) fun x=>(x.1,x.2.1,power' size (2*s1+n1) (2*s1+n1+n1+r.length) size))=Z at h4;have HL:=G;refine DW (FY ?_);have BP:=F4.mpr U;have Y:(rs'++[r]).flatten.length=rs.flatten.length+r.length:=by rw [Gj,z4,HL];simp
       refine ab ⟨rs'++[r],R1,by rw [Y],⟨by rw [show _=_ from h4.arr];simp, ?_, ?_, ?_,h4.kind,h4.fail⟩,by rw [Y];lia⟩
       ·refine Gs.trans (Hl (by simp)) h4.perm
       ·intro u hu
        rcases Ea.mp hu with z | z
        ·exact h4.ord u z
        ·simp at z;subst z;exact ⟨U,ho⟩
       ·have h8:(Eg (HV Z ((Eg Z).push (rs.flatten.length,r.length,0)))).toList=(Eg Z).toList++[(rs.flatten.length,r.length,0)]:=by
         show ((Eg Z).push _).toList=_;rw [Ee]
        rw [show _=_ from h8];exact h4.pend.join ⟨0,[],by rw [HL,Ih],rfl⟩
 ·rintro r BQ ⟨rs,R,rfl,L,BN⟩;have:=L.size;have:R=[]:=EO.mp (by lia)
  subst this;exact ⟨rs,_,rfl,L⟩
 ·rintro r BQ ⟨rs,lo,rfl,L⟩
  try dsimp only
  refine DW (aB (Q:=fun r st'=>r=(none,()) /\ ∃ rs,Rn lt kd a₀ st' rs []/\rs.length<=1)
   (EX (fun i r st'=>r=(none,()) /\ ∃ rs,Rn lt kd a₀ st' rs []/\rs.length+i<=size) ?_ ?_ ⟨rfl,rs,L, ?_⟩) ?_)
  ·rintro i r J _ hi ⟨rfl,rs,L,BN⟩;refine DW (HP ?_)
   try dsimp only
   have BX:(Eg J).size=rs.length:=by rw [<- El];exact L.pend.length
   refine af (fun h => ?_) (fun h => ?_)
   ·exact ab ⟨rfl,rs,L,by lia⟩
   ·have go:∀ k,k+1 < rs.length->wpS (Eh prog w) A E s (N5 k) (fun b st'=>b=true /\ ∃ rs',Rn lt kd a₀ st' rs' []/\rs'.length+1=rs.length) J:=by
     intro k hk;obtain ⟨t,a,b,u,e,ht⟩:=zN hk;subst e;refine L.merge c hP ht.symm fun m B O _=>⟨rfl,_,O,by simp;lia⟩
    refine DW (aB (go _ ?_) ?_)
    ·(repeat' split) <;> lia
    ·rintro b B ⟨rfl,rs',O,G⟩;refine af (fun h=>absurd h (by simp)) (fun _=>ab ⟨rfl,rs',O,by lia⟩)
  ·rintro r J ⟨rfl,rs,L,BN⟩;exact ⟨rfl,rs,L,by lia⟩
  ·have h1:=oh fun r hr=>(L.ord r hr).1;have h2:=L.size;simp only [Gd] at h2;lia
  ·rintro r J ⟨rfl,rs,L,hl⟩;refine ab (q J (by rw [L.arr];exact L.perm) ?_ L.fail)
   rw [L.arr,Fe]
   match rs,hl,L with
   | [],_,_=>exact Js
   | [r],_,L=>simpa using (L.ord r (by simp)).2
end
end Srt
end L2
namespace L2
namespace Srt
open PySem PySem.Spec PyProof.Rows
def fU (cap:Nat):Prop := ∀ (prog:Ep) (w:EM) (A:F5) (E:h6->hH->Prop) (s:hH) (kd:HJ) (P:DX->Prop) (lt:DX->DX->Bool),Cm prog w A s kd P lt -> ∀ (st:F1) (Q:Unit->F1->Prop),Ft st=kd->Gi st=none->Eg st = #[]->(∀ x∈(EK st).toList,P x)->2<=(EK st).size->(EK st).size<=cap ->
 (∀ st',(EK st').toList.Perm (EK st).toList->Ord lt (EK st').toList->Gi st'=none->Q () st')->wpS (Eh prog w) A E s sortRuns' Q st
theorem pO {cap:Nat}:fU cap:=fun _ _ _ _ _ _ _ _ c _ _ j hf z B _ _ q=>nG c j hf z B q
end Srt
end L2
namespace L2
namespace Srt
open PySem PySem.Spec PyProof.Rows
inductive Ky where
 | int (i:Int)
 | tup (l:List Ky)
mutual
noncomputable def ay:Ky->Ky->Ordering
 | .int a, .int b=>if a < b then .lt else if a=b then .eq else .gt
 | .int _, .tup _ => .lt
 | .tup _, .int _ => .gt
 | .tup a, .tup b=>cmpKs a b
noncomputable def cmpKs:List Ky->List Ky->Ordering
 | [],[] => .eq
 | [],_::_ => .lt
 | _::_,[] => .gt
 | x::xs,y::ys=>(ay x y).then (cmpKs xs ys)
end
mutual
theorem cF:∀ a b,ay b a=(ay a b).swap
 | .int a, .int b=>by
  simp only [ay]
  by_cases h1:a < b
  ·rw [if_pos h1,if_neg (by lia),if_neg (by lia)];rfl
  ·by_cases h2:a=b
   ·rw [if_neg h1,if_pos h2,if_neg (by lia),if_pos h2.symm];rfl
   ·rw [if_neg h1,if_neg h2,if_pos (by lia)];rfl
 | .int _, .tup _=>by simp [ay]
 | .tup _, .int _=>by simp [ay]
 | .tup a, .tup b=>by simp only [ay];exact cmpKs_swap a b
theorem cmpKs_swap:∀ a b,cmpKs b a=(cmpKs a b).swap
 | [],[] => rfl
 | [],_::_=>rfl
 | _::_,[] => rfl
 | x::xs,y::ys=>by
   simp only [cmpKs];rw [cF x y,cmpKs_swap xs ys]
   cases ay x y <;> rfl
end
mutual
theorem fV:∀ a b,ay a b = .eq->a=b
 | .int a, .int b,h=>by
  simp only [ay] at h
  by_cases h1:a < b
  ·rw [if_pos h1] at h;cases h
  ·by_cases h2:a=b
   ·rw [h2]
   ·rw [if_neg h1,if_neg h2] at h;cases h
 | .int _, .tup _,h=>by simp [ay] at h
 | .tup _, .int _,h=>by simp [ay] at h
 | .tup a, .tup b,h=>by simp only [ay] at h;rw [cmpKs_eq a b h]
theorem cmpKs_eq:∀ a b,cmpKs a b = .eq->a=b
 | [],[],_=>rfl
 | [],_::_,h=>by simp [cmpKs] at h
 | _::_,[],h=>by simp [cmpKs] at h
 | x::xs,y::ys,h=>by
   simp only [cmpKs] at h
   cases e:ay x y with
   | lt=>rw [e] at h;cases h
   | gt=>rw [e] at h;cases h
   | eq=>rw [e] at h;rw [fV x y e,cmpKs_eq xs ys h]
end
mutual
theorem iN:∀ a b c,ay a b = .lt->ay b c = .lt->ay a c = .lt
 | .int a, .int b, .int c,h,g=>by
  simp only [ay] at h g ⊢;have h1:a < b:=by
   by_cases h1:a < b
   ·exact h1
   ·rw [if_neg h1] at h;split at h <;> cases h
  have h2:b < c:=by
   by_cases h1:b < c
   ·exact h1
   ·rw [if_neg h1] at g;split at g <;> cases g
  rw [if_pos (by lia)]
 | .int _, .tup _, .int _,_,g=>by simp [ay] at g
 | .int _, .int _, .tup _,_,_=>by simp [ay]
 | .int _, .tup _, .tup _,_,_=>by simp [ay]
 | .tup _, .int _,_,h,_=>by simp [ay] at h
 | .tup _, .tup _, .int _,_,g=>by simp [ay] at g
 | .tup a, .tup b, .tup c,h,g=>by simp only [ay] at h g ⊢;exact cmpKs_trans a b c h g
theorem cmpKs_trans:∀ a b c,cmpKs a b = .lt->cmpKs b c = .lt->cmpKs a c = .lt
 | [],[],_,h,_=>by simp [cmpKs] at h
 | [],_::_,[],_,g=>by simp [cmpKs] at g
 | [],_::_,_::_,_,_=>by simp [cmpKs]
 | _::_,[],_,h,_=>by simp [cmpKs] at h
 | _::_,_::_,[],_,g=>by simp [cmpKs] at g
 | x::xs,y::ys,z::zs,h,g=>by
   simp only [cmpKs] at h g ⊢
   cases e:ay x y with
   | gt=>rw [e] at h;cases h
   | eq =>
     have:=fV x y e;subst this;rw [e] at h
     cases e2:ay x z with
     | gt=>rw [e2] at g;cases g
     | lt=>rfl
     | eq=>rw [e2] at g;exact cmpKs_trans xs ys zs h g
   | lt =>
     cases e2:ay y z with
     | gt=>rw [e2] at g;cases g
     | lt=>rw [iN x y z e e2];rfl
     | eq =>
       have:=fV y z e2;subst this;rw [e];rfl
end
noncomputable def ltK (a b:Ky):Bool:=ay a b == .lt
noncomputable def lV (a b:List Ky):Bool:=cmpKs a b == .lt
theorem v4 (a b:Ky) (h:ltK a b=true):ltK b a=false:=by
 unfold ltK at h ⊢;rw [cF a b,(by simpa using h:ay a b = .lt)];rfl
theorem jV (a b:Ky) (h:ltK a b=false) (g:ltK b a=false):a=b:=by
 unfold ltK at h g;rw [cF a b] at g;apply fV
 cases e:ay a b with
 | eq=>rfl
 | lt=>rw [e] at h;cases h
 | gt=>rw [e] at g;cases g
theorem xL (a b c:Ky) (h:ltK a c=true):ltK a b=true∨ltK b c=true:=by
 cases e:ltK a b with
 | true=>exact .inl rfl
 | false =>
   right
   cases j:ltK b a with
   | false=>rw [jV a b e j] at h;exact h
   | true =>
     unfold ltK at h j ⊢;rw [iN b a c (by simpa using j) (by simpa using h)];rfl
theorem rW (x y:Ky) (xs ys:List Ky):lV (x::xs) (y::ys)=if (!ltK x y && !ltK y x)=true then lV xs ys else ltK x y:=by
 unfold lV ltK;rw [cF x y];simp only [cmpKs]
 cases ay x y <;> simp
mutual
noncomputable def toK:Fi->Ky
 | .int i => .int i
 | .tuple xs => .tup (toKs xs)
 | _ => .int 0
noncomputable def toKs:List Fi->List Ky
 | [] => []
 | x::xs=>toK x::toKs xs
end
inductive Cmpb:Fi->Fi->Prop where
 | int (a b:Int):Cmpb (.int a) (.int b)
 | nil (ys:List Fi):Cmpb (.tuple []) (.tuple ys)
 | nil' (xs:List Fi):Cmpb (.tuple xs) (.tuple [])
 | cons {x y:Fi} {xs ys:List Fi}:Cmpb x y->Cmpb (.tuple xs) (.tuple ys)->Cmpb (.tuple (x::xs)) (.tuple (y::ys))
theorem Cmpb.eqv {x y:Fi} (h:Cmpb x y):Fb x y=(!ltK (toK x) (toK y) && !ltK (toK y) (toK x)):=by
 have g:∀ {x y:Fi},Cmpb x y->Fb x y=(ay (toK x) (toK y) == .eq):=by
  intro x y h
  induction h with
  | int a b =>
    simp only [Fb,toK,ay]
    by_cases h1:a < b
    ·rw [if_pos h1];simp;lia
    ·by_cases h2:a=b
     ·rw [if_neg h1,if_pos h2];simp [h2]
     ·rw [if_neg h1,if_neg h2];simp;lia
  | nil ys=>cases ys <;> simp [Fb,Fq,toK,toKs,ay,cmpKs]
  | nil' xs=>cases xs <;> simp [Fb,Fq,toK,toKs,ay,cmpKs]
  | @cons x y xs ys h1 h2 ih1 j =>
   simp only [Fb] at j ⊢;simp only [Fq,toK,toKs,ay,cmpKs] at j ⊢;rw [ih1,j]
   cases ay (toK x) (toK y) <;> simp
 rw [g h];unfold ltK;rw [cF (toK x) (toK y)]
 cases ay (toK x) (toK y) <;> rfl
section
variable {prog:Ep} {w:EM} {A:F5} {E:h6->hH->Prop} {s:hH}
theorem trd {b:Bool} {Q:Bool->hH->Prop} (q:Q b s):Ec (Eh prog w) A (truthOfDropped (.bool b)) Q E s:=by
 unfold truthOfDropped
 wp_walk
 exact q
theorem fW (a b:Int):ltK (.int a) (.int b)=decide (a < b):=by
 simp only [ltK,ay]
 by_cases h:a < b
 ·simp [h]
 ·by_cases h2:a=b <;> simp [h,h2]
theorem rX {a b:Int} {t u:Tok} {Q:h6->hH->Prop} (q:Q (.bool (decide (a < b))) s):Ec (Eh prog w) A (Mv .Lt (.int a t) (.int b u)) Q E s :=
 wpAny_richCompare_same (T := "int") rfl rfl F.slot_int_lt (call_int_lt ⟨by simp,q⟩)
noncomputable def ca:List Fi->List Fi->Option Bool
 | x::xs,y::ys=>if Fb x y=true then ca xs ys else some (ltK (toK x) (toK y))
 | _,_=>none
theorem gM:∀ {xs ys:List Fi},Cmpb (.tuple xs) (.tuple ys)->ltK (toK (.tuple xs)) (toK (.tuple ys))=match ca xs ys with | some b=>b | none=>decide (xs.length < ys.length)
 | [],[],_=>rfl
 | [],_::_,_=>by simp [ca,toK,toKs,ltK,ay,cmpKs]
 | _::_,[],_=>by simp [ca,toK,toKs,ltK,ay,cmpKs]
 | x::xs,y::ys,h=>by
   cases h with
   | cons h1 h2 =>
     have ih:=gM h2;have e:∀ a b:List Ky,ltK (.tup a) (.tup b)=lV a b:=fun a b=>by simp [ltK,lV,ay]
     simp only [toK,toKs,e] at ih ⊢;rw [rW, <- h1.eqv];simp only [ca]
     split
     ·rw [ih];simp
     ·rfl
noncomputable def cj {α β:Type} (M:IE) (A:F5) (E:h6->hH->Prop) (f : α -> β -> Sem (ForInStep β)) (Q : β -> hH->Prop):List α -> β -> hH->Prop
 | [],c,s=>Q c s
 | x::xs,c,s=>Ec M A (f x c) (fun r s'=>match r with | .done c'=>Q c' s' | .yield c'=>cj M A E f Q xs c' s') E s
theorem eK {α β:Type} {M:IE} {f : α -> β -> Sem (ForInStep β)} {Q : β -> hH->Prop}:∀ {l:List α} {c : β} {s:hH},cj M A E f Q l c s->Ec M A (forIn l c f) Q E s
 | [],c,s,h=>by rw [Ko];exact q7 h
 | x::xs,c,s,h=>by
   rw [GB];refine gV (FU h (fun r s' j => ?_) fun _ _ z=>z)
   cases r with
   | done c'=>exact q7 j
   | yield c'=>exact eK j
theorem bO {h:Heap}:∀ {vs:List h6} {xs:List Fi} {as:List Addr},Kv h vs xs as->vs.length=xs.length
 | _,_,_, .nil=>rfl
 | _,_,_, .cons _ r=>by simp [bO r]
theorem gN {α β:Type} {M:IE} {n:Nat} {f : α -> Option β × Unit->Sem (ForInStep (Option β × Unit))} {g:Bool -> β} {pr : α -> h6×h6} {Q:Option β × Unit->hH->Prop} :
 ∀ {l:List α} {vs us:List h6} {xs ys:List Fi} {as bs:List Addr},l.map pr=vs.zip us->Kv s.heap vs xs as->Kv s.heap us ys bs->Cmpb (.tuple xs) (.tuple ys)->Fl xs=true->Fl ys=true->Gf xs<=n ->
  (∀ (z : α) (x y:h6) (d e:Fi) (as bs:List Addr) (R:ForInStep (Option β × Unit)->hH->Prop),z∈l->pr z=(x,y)->Ic s.heap x d as->Ic s.heap y e bs->Cmpb d e->d.canLay0=true->e.canLay0=true->d.depth<=n ->
   R (if Fb d e=true then .yield (none,()) else .done (some (g (ltK (toK d) (toK e))),())) s->Ec M A (f z (none,())) R E s) ->
  Q ((ca xs ys).map g,()) s->cj M A E f Q l (none,()) s
 | [],vs,us,xs,ys,as,bs,e,j,B,F,_,_,_,_,q=>by
  have h1:=bO j;have h2:=bO B;have:vs=[]∨us=[]:=by
   cases vs with
   | nil=>exact .inl rfl
   | cons v vs=>cases us with
     | nil=>exact .inr rfl
     | cons u us=>simp at e
  have G:ca xs ys=none:=by
   rcases this with rfl | rfl
   ·cases xs with
    | nil=>simp [ca]
    | cons x xs=>simp at h1
   ·cases ys with
    | nil=>cases xs <;> simp [ca]
    | cons y ys=>simp at h2
  rw [G] at q;exact q
 | z::l,vs,us,xs,ys,as,bs,e,j,B,F,lx,ly,hd,hf,q=>by
   cases j with
   | nil=>simp at e
   | cons rx j =>
     cases B with
     | nil=>simp at e
     | cons ry B =>
       simp only [Ew,List.zip_cons_cons,MM] at e;simp only [Fl,hW] at lx ly;simp only [Gf] at hd
       cases F with
       | cons J L =>
         simp only [cj];refine hf z _ _ _ _ _ _ _ (by simp) e.1 rx ry J lx.1 ly.1 (by lia) ?_
         simp only [ca] at q
         split at q
         ·next h =>
          rw [if_pos h];exact gN e.2 j B L lx.2 ly.2 (by lia) (fun z x y d e as bs R O=>hf z x y d e as bs R (by simp [O])) q
         ·next h =>
          rw [if_neg h];exact q
def BD (n:Nat):Prop := ∀ (prog:Ep) (w:EM) (A:F5) (s:hH) (a b:h6) (d e:Fi) (as bs:List Addr) (E:h6->hH->Prop) (Q:h6->hH->Prop),d.depth<=n->Cmpb d e->Ic s.heap a d as->Ic s.heap b e bs->d.canLay0=true->e.canLay0=true->A.units+n+1 < Gv ->
 Q (.bool (ltK (toK d) (toK e))) s->Ec (Eh prog w) A (Mv .Lt a b) Q E s
theorem B0:∀ n,BD n:=by
 intro n
 induction n with
 | zero =>
   intro prog w A s a b d e as bs E Q hd z ra rb ld le Z q
   cases z with
   | int i j =>
     cases ra;cases rb
     exact rX (by rw [<- fW];exact q)
   | nil ys=>simp [Hf] at hd
   | nil' xs=>simp [Hf] at hd
   | cons _ _=>simp [Hf] at hd
 | succ n ih =>
   intro prog w A s a b d e as bs E Q hd z ra rb ld le Z q;have tup:∀ xs ys,d = .tuple xs->e = .tuple ys->Ec (Eh prog w) A (Mv .Lt a b) Q E s:=by
    rintro xs ys rfl rfl
    cases ra with
    | tuple h1 h2 h3 J =>
      cases rb with
      | tuple g1 g2 g3 L =>
        rename_i l ol vl nl p ob vb nb;have tl:s.TypeIs (.ref l) "tuple" := ⟨_,h1,h2⟩;have tb:s.TypeIs (.ref p) "tuple" := ⟨_,g1,g2⟩;refine wpAny_richCompare_same_room tl tb MN (F6 MN tl F.entry_tuple_lt ?_ (F.args_tuple_lt_2 _ _)) (by lia)
        unfold G8.«tuple.__lt__»;refine gV ?_;have O:isSubtype (.type "tuple") (.type "tuple")=pure true:=by rw [Ii];kernel_rfl
        wp_walk
        rw [h3]
        wp_walk
        rw [g3];refine q7 ?_;refine q7 ?_;refine gV (eK (gN (n:=n) (g:=fun b=>Fin.done (Flow.ret (Ld b))) (pr:=id) (List.map_id _) J L z ld le (by simp [Hf] at hd;lia) ?_ ?_))
        ·rintro ⟨x,y⟩ x' y' d e as bs R _ hz rx ry z ld le hd r
         cases hz
         dsimp only;refine gV (Mc d e _ _ _ _ _ _ rx ry ld le ?_ prog w E _ ?_)
         ·show A.units+1+min d.depth e.depth < Gv;lia
         ·by_cases B:Fb d e=true
          ·rw [if_pos B] at r;rw [B];exact q7 r
          ·rw [if_neg B] at r;have B:Fb d e=false:=by simpa using B
           rw [B];refine gV (FW (gV (ih prog w _ s x y d e as bs E _ hd z rx ry ld le ?_ ?_)))
           ·show A.units+1+n+1 < Gv;lia
           ·exact q7 r
        ·have G:=gM z
         cases e2:ca xs ys with
         | some b =>
           rw [e2] at G;dsimp only at G;rw [G] at q;exact q7 ⟨_,rfl,by simp,q⟩
         | none =>
           rw [e2] at G;dsimp only at G;rw [G] at q;have U:=bO J;have Y:=bO L;refine q7 ⟨_,rfl, ?_, ?_⟩
           ·simp [Io]
           ·simp only [El] at U Y;simp only [Io];rw [U,Y];exact q
   cases z with
   | int i j =>
     cases ra;cases rb
     exact rX (by rw [<- fW];exact q)
   | nil ys=>exact tup _ _ rfl rfl
   | nil' xs=>exact tup _ _ rfl rfl
   | cons _ _=>exact tup _ _ rfl rfl
end
end Srt
end L2
namespace L2
namespace Srt
open PySem PySem.Spec PyProof.Rows
section
variable {prog:Ep} {w:EM} {A:F5} {E:h6->hH->Prop} {s:hH}
theorem iO {α β:Type} {M:IE} {f : α -> Sem β} {g : α -> β}:∀ {l:List α} {Q:List β -> hH->Prop},(∀ x∈l, ∀ R : β -> hH->Prop,R (g x) s->Ec M A (f x) R E s)->Q (l.map g) s->Ec M A (l.mapM f) Q E s
 | [],Q,_,q=>by rw [List.mapM_nil];exact q7 q
 | x::xs,Q,h,q=>by
   rw [List.mapM_cons];refine gV (h x (by simp) _ (gV (iO (fun y j=>h y (by simp [j])) (q7 q))))
theorem dF {α β:Type} {M:IE} {f : α -> Sem β} {g : α -> β} {xs:Array α} {Q:Array β -> hH->Prop} (h:∀ x∈xs.toList, ∀ R : β -> hH->Prop,R (g x) s->Ec M A (f x) R E s) (q:Q (xs.map g) s):Ec M A (xs.mapM f) Q E s:=by
 rw [Array.mapM_eq_mapM_toList];rw [map_eq_pure_bind];refine gV (iO h (q7 ?_));have:(xs.toList.map g).toArray=xs.map g:=by
  apply Iz.mp;simp
 rw [this];exact q
theorem jW {a:Addr} {v:h6} {vs:List h6} {o:Obj} {n:Nat} (h1:s.heap.get? a=some o) (h2:o.cls = .type "tuple") (j:o.data = .seq (v::vs).toArray n) {Q:Option h6->hH->Prop} (q:Q (some v) s):Ec (Eh prog w) A (firstOfTuple' (.ref a)) Q E s:=by
 unfold firstOfTuple';have ty:s.TypeIs (.ref a) "tuple" := ⟨_,h1,h2⟩
 wp_walk
 rw [j];refine q7 ?_;refine q7 ?_;exact q7 q
theorem xM {a:Addr} {o:Obj} {T:h6} (h1:s.heap.get? a=some o) (h2:o.cls=T) {Q:h6->hH->Prop} (q:Q T s):Ec (Eh prog w) A (typeOf (.ref a)) Q E s:=by
 wp_walk
 rw [h2];exact q
theorem rY {n:Nat} {x y:h6} {d e:Fi} {as bs:List Addr} (j:Cmpb d e) (rx:Ic s.heap x d as) (ry:Ic s.heap y e bs) (ld:d.canLay0=true) (le:e.canLay0=true) (hd:d.depth<=n) (z:A.units+n+1 < Gv) {Q:Bool->hH->Prop} (q:Q (ltK (toK d) (toK e)) s):Ec (Eh prog w) A (oneLt' false x y) Q E s:=by
 rw [oneLt'_eq];exact gV (B0 n prog w A s x y d e as bs E _ hd j rx ry ld le z (trd q))
theorem jX {n:Nat} {b:Bool} {x y:h6} {xs ys:List Fi} {as bs:List Addr} (hb:b=true -> ∀ d e,xs.head? = some d->ys.head? = some e->(∃ i,d = .int i) /\ ∃ i,e = .int i)
 (G:Cmpb (.tuple xs) (.tuple ys)) (rx:Ic s.heap x (.tuple xs) as) (ry:Ic s.heap y (.tuple ys) bs) (lx:Fl xs=true) (ly:Fl ys=true) (hd:Gf xs<=n) (hu:A.units+n+1 < Gv) {Q:Bool->hH->Prop} (q:Q (ltK (toK (.tuple xs)) (toK (.tuple ys))) s) :
 Ec (Eh prog w) A (keyLt' (tuples' b) x y) Q E s:=by
 cases rx with
 | tuple h1 h2 h3 J =>
   cases ry with
   | tuple g1 g2 g3 L =>
     refine gV (LJ h1 h3 ?_);refine gV (LJ g1 g3 ?_);refine gV (eK (gN (n:=n) (g:=id) (pr:=Prod.fst) (List.zipIdx_map_fst _ _) J L G lx ly hd ?_ ?_))
     ·rintro ⟨⟨x,y⟩,i⟩ x' y' d e as bs R hz hp rx ry G ld le hd r
      cases hp
      dsimp only;refine gV (Mc d e _ _ _ _ _ _ rx ry ld le (by lia) prog w E _ ?_)
      by_cases F:Fb d e=true
      ·rw [if_pos F] at r;rw [F];exact q7 r
      ·rw [if_neg F] at r;have F:Fb d e=false:=by simpa using F
       rw [F];refine gV ?_
       by_cases z:(b&&i==0)=true
       ·rw [z];simp only [hW,beq_iff_eq] at z;obtain ⟨rfl,rfl⟩:=z;have j:=Hm.mp hz;obtain ⟨U,Y,t1,Z,B,O⟩:∃ (U Y:Int) (t1 Z:Tok),x = .int U t1/\y = .int Y Z:=by
         generalize hV:JR _=vl at J j;generalize hU:JR _=ul at L j
         cases J with
         | nil=>simp at j
         | cons p1 p2 =>
           cases L with
           | nil=>simp at j
           | cons q1 q2 =>
             simp at j;obtain ⟨⟨U,ei⟩,⟨Y,ej⟩⟩:=hb rfl _ _ rfl rfl;subst ei ej
             cases p1;cases q1
             exact ⟨_,_,_,_,j.1.symm,j.2.symm⟩
        subst B O
        cases rx;cases ry
        refine oneLt_int ?_;rw [<- fW];exact q7 r
       ·have z:(b&&i==0)=false:=by simpa using z
        rw [z];exact rY G rx ry ld le hd hu (q7 r)
     ·have B:=gM G
      cases O:ca xs ys with
      | some b =>
        rw [O] at B;dsimp only at B;rw [B] at q;exact q7 q
      | none =>
        rw [O] at B;dsimp only at B;rw [B] at q;have n1:=bO J;have n2:=bO L;refine q7 ?_;simp only [El] at n1 n2;rw [n1,n2];exact q
end
end Srt
end L2
namespace L2
namespace Srt
open PySem PySem.Spec PyProof.Rows
structure lW (n:Nat) (ds:List Fi):Prop where
 cmp:∀ d∈ds, ∀ e∈ds,Cmpb d e
 lay:∀ d∈ds,d.canLay0=true/\d.depth<=n
 kind:(∀ d∈ds, ∃ i,d = .int i)∨(∀ d∈ds, ∃ i xs,d = .tuple (.int i::xs))∨(∀ d∈ds, ∃ ys xs,d = .tuple (.tuple ys::xs))
noncomputable def cm (h:Heap):h6->Option h6
 | .ref a=>(h.get? a).bind fun o=>match o.data with | .seq xs _=>xs[0]? | _=>none
 | _=>none
section
variable {prog:Ep} {w:EM} {A:F5} {E:h6->hH->Prop} {s:hH}
noncomputable def cS (h:Heap) (x:DX):Ky:=toK (FI h x.1)
def RdL (h:Heap) (vs:List h6) (ds:List Fi):Prop := ∀ v∈vs, ∃ d∈ds, ∃ as,Ic h v d as
theorem fu {arr:Array h6} {T:String} (h0 : 0 < arr.size) (h:∀ v∈arr.toList, ∀ R:h6->hH->Prop,R (.type T) s->Ec (Eh prog w) A (typeOf v) R E s) {Q:Option h6->hH->Prop} (q:Q (some (.type T)) s):Ec (Eh prog w) A (oneTypeOnly' arr) Q E s:=by
 rw [oneTypeOnly'_eq];refine gV (dF (g:=fun _=>Fm T) h ?_);have e:(IA (fun _=>Fm T) arr)[0]? = some (Fm T):=by
  rw [Array.getElem?_map,EC h0];rfl
 rw [e];dsimp only;have j:((IA (fun _=>Fm T) arr).all fun x=>x==Fm T)=true:=by
  rw [LK];intro i hi;simp
 rw [j];exact q7 q
theorem pP {n:Nat} {kd:HJ} {vs:List h6} {ds:List Fi} (j:RdL s.heap vs ds) (hs:lW n ds)
 (h:∀ (x y:h6) (d e:Fi) (as bs:List Addr) (E:h6->hH->Prop) (Q:Bool->hH->Prop),d∈ds->e∈ds->Ic s.heap x d as->Ic s.heap y e bs->Q (ltK (toK d) (toK e)) s->Ec (Eh prog w) A (keyLt' kd x y) Q E s) :
 Cm prog w A s kd (fun x=>x.1∈vs) (fun x y=>ltK (cS s.heap x) (cS s.heap y)) where
 asym:=fun x y=>v4 _ _
 neg:=fun x y z=>xL _ _ _
 run:=fun x y E Q hx B q=>by
  obtain ⟨d,hd,as,ra⟩:=j _ hx;obtain ⟨e,he,bs,rb⟩:=j _ B;have F:=GC (hs.lay d hd).1 ra;have G:=GC (hs.lay e he).1 rb;unfold cS at q;rw [F,G] at q;exact h _ _ d e as bs E Q hd he ra rb q
theorem lZ {h:Heap} {vs:List h6} (j:∀ v∈vs, ∃ u,cm h v=some u):((vs.toArray.map (cm h)).all fun x=>x.isSome)=true:=by
 rw [LK];intro i hi;simp at hi;obtain ⟨u,q⟩:=j vs[i] (GW hi);simp [q]
theorem rZ {h:Heap} {vs:List h6} {x:h6} (hx:x∈(MP id (vs.toArray.map (cm h))).toList):∃ v∈vs,cm h v=some x:=by
 simp at hx;exact hx
theorem s9 {h:Heap} {v:h6} {vs:List h6} {u:h6} (j:cm h v=some u) : 0 < (MP id ((v::vs).toArray.map (cm h))).size:=by
 rw [<- El];simp [j]
theorem jY {h:Heap} {v:h6} {d:Fi} {xs:List Fi} {as:List Addr} (r:Ic h v (.tuple (d::xs)) as):∃ a o u us n bs,v = .ref a/\h.get? a=some o/\o.cls = .type "tuple" /\ o.data = .seq (u::us).toArray n/\Ic h u d bs:=by
 cases r with
 | @tuple a o vs n xs as h1 h2 j h4 =>
  generalize q:vs.toList=vl at h4
  cases h4 with
  | @cons u us _ _ bs _ z p2=>exact ⟨_,_,u,us,n,bs,rfl,h1,h2,by rw [j];congr 1;apply Iz.mp;simpa using q,z⟩
theorem B1 {n:Nat} {v:h6} {vs:List h6} {ds:List Fi} (Y:RdL s.heap (v::vs) ds) (hs:lW n ds) (z:A.units+n+1 < Gv) :
 ∃ kd,(∀ (E:h6->hH->Prop) (Q:HJ->hH->Prop),Q kd s->Ec (Eh prog w) A (keyKind' (v::vs).toArray) Q E s)/\Cm prog w A s kd (fun x=>x.1∈v::vs) (fun x y=>ltK (cS s.heap x) (cS s.heap y)):=by
 rcases hs.kind with J | J | J
 ·refine ⟨oneType',fun E Q q => ?_,pP Y hs fun x y d e as bs E Q hd he ra rb q => ?_⟩
  ·have hint:∀ u∈v::vs, ∃ i t,u = .int i t:=fun u z=>by
    obtain ⟨d,hd,as,ra⟩:=Y u z;obtain ⟨i,rfl⟩:=J d hd
    cases ra
    exact ⟨_,_,rfl⟩
   rw [Mw];refine gV (dF (g:=fun _=>(none:Option h6)) (fun u z R r => ?_) ?_)
   ·obtain ⟨i,t,rfl⟩:=hint u (by simpa using z)
    rw [firstOfTuple'_int];exact q7 r
   ·have Z:((IA (fun _=>(none:Option h6)) (v::vs).toArray).all fun x=>x.isSome)=false:=by
     simp
    rw [Z];have B:((IA (fun _=>(none:Option h6)) (v::vs).toArray)[0]?.bind id).isSome=false:=by simp
    simp only [B,FX,if_false];refine gV (fu (T := "int") (by simp) (fun u z R r => ?_) ?_)
    ·obtain ⟨i,t,rfl⟩:=hint u (by simpa using z)
     exact q7 r
    ·exact q7 q
  ·obtain ⟨i,rfl⟩:=J d hd;obtain ⟨j,rfl⟩:=J e he
   cases ra;cases rb
   rw [keyLt'_oneType];exact oneLt_int (by rw [<- fW];exact q)
 ·refine ⟨tuples' true,fun E Q q => ?_,pP Y hs fun x y d e as bs E Q hd he ra rb q => ?_⟩
  ·have hf:∀ u∈v::vs, ∃ a o i t us n,u = .ref a/\s.heap.get? a=some o/\o.cls = .type "tuple" /\ o.data = .seq (.int i t::us).toArray n:=fun u z=>by
    obtain ⟨d,hd,as,ra⟩:=Y u z;obtain ⟨i,xs,rfl⟩:=J d hd;obtain ⟨a,o,u1,us,n,bs,Z,B,L,G,O⟩:=jY ra
    cases O
    exact ⟨a,o,_,_,us,n,Z,B,L,G⟩
   have F:∀ u∈v::vs, ∃ i t,cm s.heap u=some (.int i t):=fun u z=>by
    obtain ⟨a,o,i,t,us,n,rfl,B,L,G⟩:=hf u z;exact ⟨i,t,by simp [cm,B,G]⟩
   rw [Mw];refine gV (dF (g:=cm s.heap) (fun u z R r => ?_) ?_)
   ·obtain ⟨a,o,i,t,us,n,rfl,B,L,G⟩:=hf u (by simpa using z)
    refine jW B L G ?_;simpa [cm,B,G] using r
   ·rw [lZ (fun u z=>let ⟨i,t,e⟩:=F u z; ⟨_,e⟩)];refine gV (FW ?_);obtain ⟨i0,t0,e0⟩:=F v (by simp)
    refine gV (fu (T := "int") (s9 e0) (fun u z R r => ?_) ?_)
    ·obtain ⟨u',U,e⟩:=rZ z;obtain ⟨i,t,e'⟩:=F u' U;rw [e'] at e;cases e;exact q7 r
    ·exact q7 q
  ·obtain ⟨i,xs,rfl⟩:=J d hd;obtain ⟨j,ys,rfl⟩:=J e he;have l1:=hs.lay _ hd;have l2:=hs.lay _ he;refine jX (n:=n) (fun _ d e hd he => ?_) (hs.cmp _ hd _ he) ra rb (by simpa [Ij] using l1.1) (by simpa [Ij] using l2.1) (by have:=l1.2;simp [Hf] at this;lia) z q
   simp at hd he;subst hd he;exact ⟨⟨_,rfl⟩,_,rfl⟩
 ·refine ⟨tuples' false,fun E Q q => ?_,pP Y hs fun x y d e as bs E Q hd he ra rb q => ?_⟩
  ·have hf:∀ u∈v::vs, ∃ a o b ob us n,u = .ref a/\s.heap.get? a=some o/\o.cls = .type "tuple" /\ o.data = .seq (.ref b::us).toArray n/\s.heap.get? b=some ob/\ob.cls = .type "tuple" := fun u z=>by
    obtain ⟨d,hd,as,ra⟩:=Y u z;obtain ⟨ys,xs,rfl⟩:=J d hd;obtain ⟨a,o,u1,us,n,bs,Z,B,L,G,O⟩:=jY ra
    cases O with
    | tuple h1 h2 h3 h4=>exact ⟨a,o,_,_,us,n,Z,B,L,G,h1,h2⟩
   have F:∀ u∈v::vs, ∃ b ob,cm s.heap u=some (.ref b)/\s.heap.get? b=some ob/\ob.cls = .type "tuple" := fun u z=>by
    obtain ⟨a,o,b,ob,us,n,rfl,B,L,G,O,e6⟩:=hf u z;exact ⟨b,ob,by simp [cm,B,G],O,e6⟩
   rw [Mw];refine gV (dF (g:=cm s.heap) (fun u z R r => ?_) ?_)
   ·obtain ⟨a,o,b,ob,us,n,rfl,B,L,G,O,e6⟩:=hf u (by simpa using z)
    refine jW B L G ?_;simpa [cm,B,G] using r
   ·rw [lZ (fun u z=>let ⟨i,t,e,_⟩:=F u z; ⟨_,e⟩)];refine gV (FW ?_);obtain ⟨i0,t0,e0,_⟩:=F v (by simp)
    refine gV (fu (T := "tuple") (s9 e0) (fun u z R r => ?_) ?_)
    ·obtain ⟨u',U,e⟩:=rZ z;obtain ⟨b,ob,e',O,e6⟩:=F u' U;rw [e'] at e;cases e;exact xM O e6 r
    ·exact q7 q
  ·obtain ⟨zs,xs,rfl⟩:=J d hd;obtain ⟨zs',ys,rfl⟩:=J e he;have l1:=hs.lay _ hd;have l2:=hs.lay _ he;exact jX (n:=n) (fun h=>by cases h) (hs.cmp _ hd _ he) ra rb (by simpa [Ij] using l1.1) (by simpa [Ij] using l2.1) (by have:=l1.2;simp [Hf] at this;lia) z q
end
end Srt
end L2
namespace L2
namespace Srt
open PySem PySem.Spec PyProof.Rows
inductive Pl:Fi->Prop where
 | int (i:Int):Pl (.int i)
 | tup (xs:List Fi):(∀ x∈xs,Pl x)->Pl (.tuple xs)
theorem bn {h h':Heap} (k:∀ b o,h.get? b=some o->o.cls = .type "tuple" -> h'.get? b=some o) {d:Fi} (p:Pl d):∀ {v:h6} {as:List Addr},Ic h v d as->Ic h' v d as:=by
 induction p with
 | int i=>intro v as r;cases r;exact .int _ _
 | tup xs hx ih =>
   intro v as r
   cases r with
   | tuple h1 h2 q z =>
     refine .tuple (k _ _ h1 h2) h2 q ?_;have g:∀ (xs:List Fi),(∀ x∈xs, ∀ {v:h6} {as:List Addr},Ic h v x as->Ic h' v x as) -> ∀ (vs:List h6) (as:List Addr),Kv h vs xs as->Kv h' vs xs as:=by
      intro xs
      induction xs with
      | nil=>intro _ vs as r;cases r;exact .nil
      | cons x xs ihx =>
        intro j vs as r
        cases r with
        | cons B p2=>exact .cons (j x (by simp) B) (ihx (fun y F=>j y (by simp [F])) _ _ p2)
     exact g xs ih _ _ z
section
variable {prog:Ep} {w:EM} {A:F5} {E:h6->hH->Prop} {s:hH}
theorem xN {cap:Nat} (S:fU cap) {m:Nat} {a:Addr} {vs:List h6} {n:Nat} {ds:List Fi} (ha:s.heap.get? a=some (Md "list" vs.toArray n)) (Z:RdL s.heap vs ds) (hs:lW m ds) (hp:∀ d∈ds,Pl d) (hl:vs.length<=DY) (BN:vs.length<=cap) (hu:A.units+m+1 < Gv) {Q:PySem.Fin->hH->Prop}
 (q:∀ (h':Heap) (out:List h6) (n':Nat),(∀ b o,b≠a->s.heap.get? b=some o->h'.get? b=some o)->h'.get? a=some (Md "list" out.toArray n')->out.Perm vs->out.Pairwise (fun x y=>ltK (toK (FI s.heap y)) (toK (FI s.heap x))=false)->Q (.done (.ret .none)) { s with heap:=h' }) :
 Ec (Eh prog w) A (G8.«list.sort» ⟨[.ref a],[]⟩) Q E s:=by
 rw [list_sort_plain];refine gV (LJ ha rfl ?_);refine gV (ID ha rfl ?_ (by simpa using hl) (by simp))
 have g1:=HR ha (fun _ => #[]);generalize BO:s.heap.update a (Ha fun _ => #[])=h1 at g1;generalize (if ((#[]:Array h6).size==vs.toArray.size)=true then n else n+1)=n1 at g1
 refine gV (Mx g1 rfl ?_);refine gV (Kq ?_ (by simpa using hl))
 refine gV (JA ?_ (by simp))
 refine Fh ?_;dsimp only;generalize O:({ heap:=(h1.push { cls:=Fm "tuple",data:=IF vs.toArray.toList.toArray }).push { cls:=Fm "list",data:=IF [].toArray },gens:=s.gens,drawn:=s.drawn,toks:=s.toks,os:=s.os }:hH)=s3;have g3:s3.heap.get? a=some (Md "list" #[] n1):=by
  rw [<- O];exact h7 _ (h7 _ g1)
 have keep:∀ b o,b≠a->s.heap.get? b=some o->s3.heap.get? b=some o:=fun b o G J=>by
  rw [<- O, <- BO];exact h7 _ (h7 _ (by rw [FN _ _ _ _ G];exact J))
 have keepT:∀ b o,s.heap.get? b=some o->o.cls = .type "tuple" -> s3.heap.get? b=some o:=fun b o G hc=>keep b o (fun z=>by
  rw [z,ha] at G;cases G;simp at hc) G
 have BP:RdL s3.heap vs ds:=fun v hv=>by
  obtain ⟨d,hd,as,r⟩:=Z v hv;exact ⟨d,hd,as,bn keepT (hp d hd) r⟩
 have same:∀ v∈vs,FI s3.heap v=FI s.heap v:=fun v hv=>by
  obtain ⟨d,hd,as,r⟩:=Z v hv;rw [GC (hs.lay d hd).1 r,GC (hs.lay d hd).1 (bn keepT (hp d hd) r)]
 have q:∀ (h':Heap) (out:List h6) (n':Nat),(∀ b o,b≠a->s.heap.get? b=some o->h'.get? b=some o)->h'.get? a=some (Md "list" out.toArray n')->out.Perm vs->out.Pairwise (fun x y=>ltK (toK (FI s.heap y)) (toK (FI s.heap x))=false)->Q (.done (.ret .none)) { s3 with heap:=h' }:=by
  rw [<- O];exact q
 have BQ:∀ A':F5,A'.units=A.units->True:=fun _ _=>trivial;clear O
 let Good:F1->Prop:=fun st'=>Gi st'=none/\(EK st').toList.Perm (vs.zip vs)/\(EK st').toList.Pairwise (fun x y=>ltK (cS s3.heap y) (cS s3.heap x)=false)
 by_cases F:vs.toArray.size < 2
 ·rw [if_pos F,if_pos F];refine gV (q7 ?_);have B:vs.length < 2:=by simpa using F
  have run:Ec (Eh prog w) A ((pure ():StateT F1 Sem Unit).run (Iy general' (vs.toArray.zip vs.toArray) #[] 7 none)) (fun r s'=>s'=s3/\Good r.2) E s3:=by
   refine q7 ⟨rfl,rfl, ?_, ?_⟩
   ·show (vs.toArray.zip vs.toArray).toList.Perm _;simp
   ·show List.Pairwise _ (vs.toArray.zip vs.toArray).toList
    match vs,B with
    | [],_=>simp
    | [x],_=>simp
  refine gV (FU (Q:=fun r s'=>s'=s3/\Good r.2) run (fun r s' Z => ?_) (fun _ _ z=>z));obtain ⟨rfl,L,j,U⟩:=Z;obtain ⟨u,st'⟩:=r;refine gV (Mx g3 rfl ?_);refine gV (ID g3 rfl ?_ (by simp) (by simp only [Array.size_map];have:=j.length_eq;simp at this;rw [this];lia))
  dsimp only at L;rw [L];simp only [bne_self_eq_false,FX,if_false];refine q7 ?_;have gq:=HR g3 (fun _=>IA (fun x=>x.snd) (EK st'));have eo:IA (fun x=>x.snd) (EK st')=((EK st').toList.map fun x=>x.snd).toArray:=by apply Iz.mp;simp
  refine q _ ((EK st').toList.map fun x=>x.snd) _ (fun b o G J => ?_) (by rw [gq,eo]) ?_ ?_
  ·rw [FN _ _ _ _ G];exact keep b o G J
  ·have h8:=j.map (fun x:DX=>x.snd);rw [Me (by simp)] at h8
   exact h8
  ·rw [Ga];refine U.imp_of_mem fun {x y} hx hy hxy => ?_;have mx:=J4 (j.mem_iff.mp hx);have my:=J4 (j.mem_iff.mp hy);unfold cS at hxy;rw [mx.1,my.1,same y.2 (by rw [<- my.1];exact my.2),same x.2 (by rw [<- mx.1];exact mx.2)] at hxy
   exact hxy
 ·rw [if_neg F,if_neg F];have B : 2<=vs.length:=by simpa using F
  obtain ⟨v0,Y,BJ⟩:∃ v0 Y,vs=v0::Y:=by
   match vs,B with
   | v::t,_=>exact ⟨v,t,rfl⟩
  obtain ⟨kd,BK,BL⟩:=B1 (prog:=prog) (w:=w) (A:=A) (v:=v0) (vs:=Y) (by rw [<- BJ];exact BP) hs hu
  rw [<- BJ] at BK BL;refine gV (BK E _ ?_);have run:Ec (Eh prog w) A (sortRuns'.run (Iy kd (vs.toArray.zip vs.toArray) #[] 7 none)) (fun r s'=>s'=s3/\Good r.2) E s3:=by
   have ez:(EK (Iy kd (vs.toArray.zip vs.toArray) #[] 7 none)).toList=vs.zip vs:=by
    show (vs.toArray.zip vs.toArray).toList=_;simp
   have h9:wpS (Eh prog w) A E s3 sortRuns' (fun _ st'=>Good st') (Iy kd (vs.toArray.zip vs.toArray) #[] 7 none):=by
    have BM:(EK (Iy kd (vs.toArray.zip vs.toArray) #[] 7 none)).size=vs.length:=by rw [<- El,ez];simp
    refine S _ _ _ _ _ _ _ _ BL (Iy kd (vs.toArray.zip vs.toArray) #[] 7 none) _ rfl rfl rfl (fun x hx => ?_) (by rw [BM];exact B) (by rw [BM];exact BN) fun st' p1 p2 p3=>⟨p3,by rw [ez] at p1;exact p1,p2⟩
    rw [ez] at hx;exact (J4 hx).2
   exact h9
  refine gV (FU (Q:=fun r s'=>s'=s3/\Good r.2) run (fun r s' Z => ?_) (fun _ _ z=>z));obtain ⟨rfl,L,j,U⟩:=Z;obtain ⟨u,st'⟩:=r;refine gV (Mx g3 rfl ?_);refine gV (ID g3 rfl ?_ (by simp) (by simp only [Array.size_map];have:=j.length_eq;simp at this;rw [this];lia))
  dsimp only at L;rw [L];simp only [bne_self_eq_false,FX,if_false];refine q7 ?_;have gq:=HR g3 (fun _=>IA (fun x=>x.snd) (EK st'));have eo:IA (fun x=>x.snd) (EK st')=((EK st').toList.map fun x=>x.snd).toArray:=by apply Iz.mp;simp
  refine q _ ((EK st').toList.map fun x=>x.snd) _ (fun b o G J => ?_) (by rw [gq,eo]) ?_ ?_
  ·rw [FN _ _ _ _ G];exact keep b o G J
  ·have h8:=j.map (fun x:DX=>x.snd);rw [Me (by simp)] at h8
   exact h8
  ·rw [Ga];refine U.imp_of_mem fun {x y} hx hy hxy => ?_;have mx:=J4 (j.mem_iff.mp hx);have my:=J4 (j.mem_iff.mp hy);unfold cS at hxy;rw [mx.1,my.1,same y.2 (by rw [<- my.1];exact my.2),same x.2 (by rw [<- mx.1];exact mx.2)] at hxy
   exact hxy
theorem pQ (u:h6):checkBuiltinCall "sorted" ⟨[u],[]⟩=pure ():=by kernel_rfl
theorem sd {cap:Nat} (S:fU cap) {m:Nat} {u:h6} {ds:List Fi} {C:Heap->List h6->Prop} {Q:h6->hH->Prop} (hu:A.units+m+3 < Gv) (hs:lW m ds) (F:∀ d∈ds,Pl d)
 (G:∀ (E:h6->hH->Prop) (R:List h6->hH->Prop),(∀ (h':Heap) (vs':List h6) (t':Nat),C h' vs'->RdL h' vs' ds->vs'.length<=DY/\vs'.length<=cap->s.toks<=t'->R vs' { s with heap:=h',toks:=t' })->Ec (Eh prog w) A.in1 (collect u) R E s)
 (q:∀ (h1 h2:Heap) (vs out:List h6) (n' t':Nat),C h1 vs->(∀ b o,h1.get? b=some o->h2.get? b=some o)->h2.get? h1.objs.size=some (Md "list" out.toArray n')->out.Perm vs->out.Pairwise (fun x y=>ltK (toK (FI h2 y)) (toK (FI h2 x))=false)->RdL h2 out ds->vs.length<=DY->s.toks<=t'->Q (.ref h1.objs.size) { s with heap:=h2,toks:=t' }) :
 Ec (Eh prog w) A (call (.builtin "sorted") [u]) Q E s:=by
 refine wpAny_call (codeAny_call_builtin plain_sorted entry_sorted (GZ (pQ u) ?_));unfold Builtin.sorted;refine gV (GZ (a:=()) (by kernel_rfl) ?_)
 refine gV (G _ _ fun h1 vs t' hC L J ht => ?_);obtain ⟨J,O⟩:=J;refine gV (JA ?_ J);refine gV (Fh ?_);have U:RdL (h1.push { cls:=Fm "list",data:=IF vs.toArray }) vs ds:=fun v B=>by
  obtain ⟨d,hd,as,r⟩:=L v B;exact ⟨d,hd,as,bn (fun b o z _=>h7 _ z) (F d hd) r⟩
 have ha:(h1.push { cls:=Fm "list",data:=IF vs.toArray }).get? h1.objs.size=some (Md "list" vs.toArray 0):=E1 _ rfl;refine F6 slot_list_sort (T := "list") ⟨_,ha,rfl⟩ entry_list_sort ?_ (args_list_sort _);refine xN S (m:=m) ha U hs F J O (by show A.units+1+1+m+1 < Gv;lia) fun h2 out n' keep g2 j Y=>⟨_,rfl,q7 ?_⟩
 have old:∀ b o,h1.get? b=some o->h2.get? b=some o:=fun b o z=>keep b o (EJ (E6 z)) (h7 _ z);have Z:RdL h2 vs ds:=fun v B=>by
  obtain ⟨d,hd,as,r⟩:=L v B;exact ⟨d,hd,as,bn (fun b o z _=>old b o z) (F d hd) r⟩
 refine q h1 h2 vs out n' t' hC old g2 j ?_ (fun v B=>Z v (j.mem_iff.mp B)) J ht;have same:∀ v∈vs,FI (h1.push { cls:=Fm "list",data:=IF vs.toArray }) v=FI h2 v:=fun v B=>by
  obtain ⟨d,hd,as,r⟩:=L v B;rw [GC (hs.lay d hd).1 (bn (fun b o z _=>old b o z) (F d hd) r),GC (hs.lay d hd).1 (bn (fun b o z _=>h7 _ z) (F d hd) r)]
 refine Y.imp_of_mem fun {x y} hx hy hxy => ?_;rw [same y (j.mem_iff.mp hy),same x (j.mem_iff.mp hx)] at hxy;exact hxy
end
end Srt
end L2
namespace L2
namespace It
open PySem PySem.Spec PyProof.Rows
end It
end L2
namespace L2
namespace It
open PySem PySem.Spec PyProof.Rows
end It
end L2
namespace L2
namespace It
open PySem PySem.Spec PyProof.Rows
end It
end L2
namespace L2
open PySem PySem.Spec PyProof.Rows
section
section
variable {P:Ep} {w:EM} {H:Hp} {h:Heap} {a:Addr} {o:HO}
theorem ObjOk.there (x:ObjOk P w H h a o):∃ ob,h.get? a=some ob:=by
 cases o with
 | lst xs=>obtain ⟨_,_,_,_,e⟩:=x;exact ⟨_,e⟩
 | tup xs=>obtain ⟨_,_,_,_,e,_⟩:=x;exact ⟨_,e⟩
 | dK kvs=>obtain ⟨_,_,_,_,o,_,_,e,_⟩:=x;exact ⟨_,e⟩
 | dT kvs=>obtain ⟨_,_,_,_,o,_,_,e,_⟩:=x;exact ⟨_,e⟩
 | set S n=>obtain ⟨o,_,_,_,e,_⟩:=x;exact ⟨_,e⟩
 | ins C dx fs=>obtain ⟨_,_,_,e,_⟩:=x;exact ⟨_,e⟩
 | own y=>obtain ⟨_,e⟩:=x;exact ⟨_,e⟩
 | xd fs=>obtain ⟨_,⟨_,_,_,e,_⟩,_⟩:=x;exact ⟨_,e⟩
 | rng lo hi=>obtain ⟨_,_,_,e⟩:=x;exact ⟨_,e⟩
 | frz ob u=>obtain ⟨e,_⟩:=x;exact ⟨_,e⟩
 | tbl ps=>exact ⟨_,show h.get? a=some _ from x⟩
 | met f y=>exact ⟨_,show h.get? a=some _ from x⟩
 | ext φ => obtain ⟨_,⟨_,e⟩,_⟩:=x;exact ⟨_,e⟩
end
noncomputable def lay (H:Hp) (N:Addr->Option HO):Hp:=fun b=>match N b with | some o=>some o | none=>H b
section
variable {X:Cx} {pins:List (Addr×Obj)} {σ:List (Option V)} {H:Hp} {s:hH} {h':Heap} {N:Addr->Option HO}
theorem xO {b:Addr} {o:HO} (e:N b=some o):lay H N b=some o:=by unfold lay;rw [e]
theorem ji {b:Addr} (e:N b=none):lay H N b=H b:=by unfold lay;rw [e]
theorem Inv.fresh' (I:Inv X pins σ H s) {b:Addr} (e:s.heap.get? b=none):H b=none:=by
 cases q:H b with
 | none=>rfl
 | some o=>obtain ⟨ob,eo⟩:=(I.hok b o q).there;rw [e] at eo;cases eo
theorem Inv.laidN {t':Nat} (I:Inv X pins σ H s) (k:∀ b u,s.heap.get? b=some u->h'.get? b=some u) (j:∀ b o,N b=some o->s.heap.get? b=none) (new:∀ b o,N b=some o->ObjOk X.prog X.w (lay H N) h' b o):Inv X pins σ (lay H N) { s with heap:=h',toks:=t' }:=by
 have old:∀ b u,s.heap.get? b=some u->N b=none:=fun b u e=>by
  cases q:N b with
  | none=>rfl
  | some o=>rw [j b o q] at e;cases e
 have oldH:∀ b o,H b=some o->lay H N b=some o:=fun b o e=>by
  obtain ⟨ob,eo⟩:=(I.hok b o e).there;rw [ji (old b ob eo)];exact e
 refine I.un ⟨fun b u q _ _ _=>k b u q,fun b u q _ _ _=>⟨u.slots,k b u q⟩,fun b u q n _=>by rw [ji (old b u q)];exact n,fun b u q _=>⟨u,k b u q⟩,fun b xs q=>oldH b _ q,fun b u xs q=>oldH b _ q,fun b ps q=>⟨#[],by rw [oldH b _ q];simp⟩⟩ fun b o e => ?_
 cases q:N b with
 | some o'=>rw [xO q] at e;cases e;exact new b o q
 | none =>
   rw [ji q] at e;exact (I.hok b o e).stay (fun c v _ q=>k c v q) (fun c q=>oldH c _ q) fun c xs q=>oldH c _ q
end
namespace Mi
open L2.Srt
inductive Sh where
 | int
 | tup (l:List Sh)
mutual
noncomputable def hs:Sh->D->Bool
 | .int, .int _=>true
 | .tup l, .tup ds=>hss l ds
 | _,_=>false
noncomputable def hss:List Sh->List D->Bool
 | [],[] => true
 | s::l,d::ds=>hs s d&&hss l ds
 | _,_=>false
end
mutual
noncomputable def pd:D->Fi
 | .int i => .int i
 | .tup ds => .tuple (pds ds)
 | _ => .none
noncomputable def pds:List D->List Fi
 | [] => []
 | d::ds=>pd d::pds ds
end
mutual
noncomputable def dep:Sh->Nat
 | .int => 0
 | .tup l=>deps l+1
noncomputable def deps:List Sh->Nat
 | [] => 0
 | s::l=>max (dep s) (deps l)
end
noncomputable def jj:Sh->Bool
 | .int=>true
 | .tup (.int::l)=>decide (deps l<=6)
 | .tup (.tup a::l)=>decide (deps (.tup a::l)<=6)
 | .tup [] => false
noncomputable def kyD (d:D):Ky:=toK (pd d)
mutual
theorem se:∀ (s:Sh) (x y:D),hs s x=true->hs s y=true->Cmpb (pd x) (pd y)
 | .int, .int a, .int b,_,_=>by simp only [pd];exact .int a b
 | .tup l, .tup a, .tup b,h,g=>by simp only [hs] at h g;simp only [pd];exact hss_cmp l a b h g
 | .int, .int _, .non,_,g=>by simp [hs] at g
 | .int, .int _, .bl _,_,g=>by simp [hs] at g
 | .int, .int _, .str _,_,g=>by simp [hs] at g
 | .int, .int _, .tup _,_,g=>by simp [hs] at g
 | .int, .int _, .con _,_,g=>by simp [hs] at g
 | .int, .int _, .ref _,_,g=>by simp [hs] at g
 | .int, .non,_,h,_=>by simp [hs] at h
 | .int, .bl _,_,h,_=>by simp [hs] at h
 | .int, .str _,_,h,_=>by simp [hs] at h
 | .int, .tup _,_,h,_=>by simp [hs] at h
 | .int, .con _,_,h,_=>by simp [hs] at h
 | .int, .ref _,_,h,_=>by simp [hs] at h
 | .tup _, .non,_,h,_=>by simp [hs] at h
 | .tup _, .bl _,_,h,_=>by simp [hs] at h
 | .tup _, .int _,_,h,_=>by simp [hs] at h
 | .tup _, .str _,_,h,_=>by simp [hs] at h
 | .tup _, .con _,_,h,_=>by simp [hs] at h
 | .tup _, .ref _,_,h,_=>by simp [hs] at h
 | .tup _, .tup _, .non,_,g=>by simp [hs] at g
 | .tup _, .tup _, .bl _,_,g=>by simp [hs] at g
 | .tup _, .tup _, .int _,_,g=>by simp [hs] at g
 | .tup _, .tup _, .str _,_,g=>by simp [hs] at g
 | .tup _, .tup _, .con _,_,g=>by simp [hs] at g
 | .tup _, .tup _, .ref _,_,g=>by simp [hs] at g
theorem hss_cmp:∀ (l:List Sh) (a b:List D),hss l a=true->hss l b=true->Cmpb (.tuple (pds a)) (.tuple (pds b))
 | [],[],[],_,_=>by simp only [pds];exact .nil _
 | [],[],_::_,_,g=>by simp [hss] at g
 | [],_::_,_,h,_=>by simp [hss] at h
 | _::_,[],_,h,_=>by simp [hss] at h
 | _::_,_::_,[],_,g=>by simp [hss] at g
 | s::l,x::a,y::b,h,g=>by
   simp only [hss,hW] at h g;simp only [pds];exact .cons (se s x y h.1 g.1) (hss_cmp l a b h.2 g.2)
end
mutual
theorem pR:∀ (s:Sh) (x:D),hs s x=true->Pl (pd x)/\(pd x).canLay0=true/\(pd x).depth<=dep s
 | .int, .int a,_=>by simp only [pd];exact ⟨.int a,rfl,by simp [Hf]⟩
 | .tup l, .tup a,h=>by
  simp only [hs] at h;obtain ⟨h1,h2,j⟩:=hss_pl l a h;simp only [pd];exact ⟨.tup _ h1,by simpa [Ij] using h2,by simp [Hf,dep];lia⟩
 | .int, .non,h=>by simp [hs] at h
 | .int, .bl _,h=>by simp [hs] at h
 | .int, .str _,h=>by simp [hs] at h
 | .int, .tup _,h=>by simp [hs] at h
 | .int, .con _,h=>by simp [hs] at h
 | .int, .ref _,h=>by simp [hs] at h
 | .tup _, .non,h=>by simp [hs] at h
 | .tup _, .bl _,h=>by simp [hs] at h
 | .tup _, .int _,h=>by simp [hs] at h
 | .tup _, .str _,h=>by simp [hs] at h
 | .tup _, .con _,h=>by simp [hs] at h
 | .tup _, .ref _,h=>by simp [hs] at h
theorem hss_pl:∀ (l:List Sh) (a:List D),hss l a=true->(∀ x∈pds a,Pl x)/\Fl (pds a)=true/\Gf (pds a)<=deps l
 | [],[],_=>by simp [pds,Fl,Gf]
 | [],_::_,h=>by simp [hss] at h
 | _::_,[],h=>by simp [hss] at h
 | s::l,x::a,h=>by
   simp only [hss,hW] at h;obtain ⟨h1,h2,q⟩:=pR s x h.1;obtain ⟨g1,g2,g3⟩:=hss_pl l a h.2;simp only [pds];refine ⟨fun y j => ?_,by simp [Fl,h2,g2],by simp [Gf,deps];lia⟩
   rcases Eb.mp j with z | z
   ·rw [z];exact h1
   ·exact g1 y z
end
mutual
theorem w8 (M:Mem):∀ (s:Sh) (x:D) (n:Nat),hs s x=true->dep s<=n->rb n M x=some (pd x)
 | .int, .int a,n,_,_=>by cases n <;> simp [rb,pd]
 | .tup l, .tup a,n,h,j=>by
  simp only [hs] at h;simp only [dep] at j;obtain ⟨k,rfl⟩:∃ k,n=k+1:=⟨n - 1,by lia⟩
  simp only [rb,pd];rw [hss_rb M l a k h (by lia)];rfl
 | .int, .non,_,h,_=>by simp [hs] at h
 | .int, .bl _,_,h,_=>by simp [hs] at h
 | .int, .str _,_,h,_=>by simp [hs] at h
 | .int, .tup _,_,h,_=>by simp [hs] at h
 | .int, .con _,_,h,_=>by simp [hs] at h
 | .int, .ref _,_,h,_=>by simp [hs] at h
 | .tup _, .non,_,h,_=>by simp [hs] at h
 | .tup _, .bl _,_,h,_=>by simp [hs] at h
 | .tup _, .int _,_,h,_=>by simp [hs] at h
 | .tup _, .str _,_,h,_=>by simp [hs] at h
 | .tup _, .con _,_,h,_=>by simp [hs] at h
 | .tup _, .ref _,_,h,_=>by simp [hs] at h
theorem hss_rb (M:Mem):∀ (l:List Sh) (a:List D) (n:Nat),hss l a=true->deps l<=n->aC (rb n M) a=some (pds a)
 | [],[],_,_,_=>by simp [pds,aC]
 | [],_::_,_,h,_=>by simp [hss] at h
 | _::_,[],_,h,_=>by simp [hss] at h
 | s::l,x::a,n,h,j=>by
   simp only [hss,hW] at h;simp only [deps] at j;simp only [pds,aC];rw [w8 M s x n h.1 (by lia),hss_rb M l a n h.2 (by lia)];rfl
end
theorem m8 {s:Sh} (h:jj s=true):dep s<=7:=by
 match s,h with
 | .int,_=>simp [dep]
 | .tup (.int::l),h=>simp [jj] at h;simp [dep,deps];lia
 | .tup (.tup a::l),h=>simp only [jj,decide_eq_true_eq] at h;simp only [dep];lia
theorem xP {s:Sh} (h:jj s=true) {xs:List D} (hx:∀ x∈xs,hs s x=true):lW 7 (xs.map pd) /\ ∀ d∈xs.map pd,Pl d:=by
 refine ⟨⟨?_, ?_, ?_⟩, ?_⟩
 ·intro d hd e he;obtain ⟨x,h1,rfl⟩:=ED.mp hd;obtain ⟨y,h2,rfl⟩:=ED.mp he;exact se s x y (hx x h1) (hx y h2)
 ·intro d hd;obtain ⟨x,h1,rfl⟩:=ED.mp hd;obtain ⟨_,g2,g3⟩:=pR s x (hx x h1);exact ⟨g2,by have:=m8 h;lia⟩
 ·match s,h with
  | .int,_ =>
   left
   intro d hd;obtain ⟨x,h1,rfl⟩:=ED.mp hd;have:=hx x h1
   cases x <;> simp [hs] at this
   exact ⟨_,rfl⟩
  | .tup (.int::l),_ =>
   right;left
   intro d hd;obtain ⟨x,h1,rfl⟩:=ED.mp hd;have:=hx x h1
   cases x <;> simp [hs] at this
   rename_i ds
   cases ds with
   | nil=>simp [hss] at this
   | cons y ys =>
     simp [hss] at this
     cases y <;> simp [hs] at this
     exact ⟨_,_,rfl⟩
  | .tup (.tup a::l),_ =>
   right;right
   intro d hd;obtain ⟨x,h1,rfl⟩:=ED.mp hd;have:=hx x h1
   cases x <;> simp [hs] at this
   rename_i ds
   cases ds with
   | nil=>simp [hss] at this
   | cons y ys =>
     simp [hss] at this
     cases y <;> simp [hs] at this
     exact ⟨_,_,rfl⟩
 ·intro d hd;obtain ⟨x,h1,rfl⟩:=ED.mp hd;exact (pR s x (hx x h1)).1
theorem jZ {α β:Type} (f : α -> β):∀ {l m:List β},l.Perm m -> ∀ {t:List α},t.map f=m -> ∃ t':List α,t'.Perm t/\t'.map f=l:=by
 intro l m h
 induction h with
 | nil=>intro t e;exact ⟨[],by rw [List.map_eq_nil_iff.mp e],rfl⟩
 | cons x h ih =>
   intro t e
   cases t with
   | nil=>simp at e
   | cons a t =>
     simp at e;obtain ⟨t',h1,h2⟩:=ih e.2;exact ⟨a::t',h1.cons a,by simp [h2,e.1]⟩
 | swap x y l =>
   intro t e
   match t,e with
   | a::b::t,e =>
     simp at e;exact ⟨b::a::t, .swap _ _ _,by simp [e]⟩
 | trans h1 h2 j q =>
   intro t e;obtain ⟨G,p2,z⟩:=q e;obtain ⟨t1,B,F⟩:=j z;exact ⟨t1,B.trans p2,F⟩
def m9 (ys:List D):Prop:=ys.Pairwise fun a b=>ltK (kyD b) (kyD a)=false
theorem oi {K:Frag} {H:Hp}:∀ {ds:List D} {vs:List V} {us:List h6},RDs K H ds vs->Vals vs us -> ∃ t:List (D×V×h6),t.map (·.1)=ds/\t.map (·.2.1)=vs/\t.map (·.2.2)=us /\ ∀ p∈t,RD K H p.1 p.2.1/\RelV p.2.1 p.2.2
 | [],vs,us,h,g=>by
  cases RDs.nil_iff.mp h
  cases g
  exact ⟨[],rfl,rfl,rfl,fun _ h=>by simp at h⟩
 | d::ds,vs,us,h,g=>by
   obtain ⟨v,r,rfl,h1,h2⟩:=Nm.mp h
   cases g with
   | cons g1 g2 =>
     rename_i u us;obtain ⟨t,j,q,B,F⟩:=oi h2 g2;exact ⟨(d,v,u)::t,by simp [j],by simp [q],by simp [B],fun p G=>by
      rcases Eb.mp G with z | z
      ·rw [z];exact ⟨h1,g1⟩
      ·exact F p z⟩
theorem oj {K:Frag} {H:Hp}:∀ {t:List (D×V×h6)},(∀ p∈t,RD K H p.1 p.2.1/\RelV p.2.1 p.2.2)->RDs K H (t.map (·.1)) (t.map (·.2.1))/\Vals (t.map (·.2.1)) (t.map (·.2.2))
 | [],_=>⟨RDs.nil, .nil⟩
 | p::t,h=>by
   obtain ⟨h1,h2⟩:=oj (t:=t) fun q j=>h q (by simp [j])
   exact ⟨RDs.cons (h p (by simp)).1 h1, .cons (h p (by simp)).2 h2⟩
section
variable {X:Cx}
theorem nH {cap:Nat} (S:fU cap) (L:X.A.units+16 < Gv) {pins:List (Addr×Obj)} {s:hH} {σ:St} {H:Hp} {Q:VK} (I:Inv X pins σ H s) {M:Mem} (rm:RM X.K M H) {es:List D} {sh:Sh} {vs:List V} {p:Addr} (rvs:RDs X.K H es vs) (hok:jj sh=true) (O:∀ d∈es,hs sh d=true)
 (q:∀ p ys,M p=none->ys.Perm es->m9 ys->KE' X.K M H Q (.ref p) (ag M p (.lst ys))) {its:List h6} (hv:Vals vs its) (hl:vs.length<=DY) (BL:vs.length<=cap)
 (U:∀ (E:h6->hH->Prop) (R:List h6->hH->Prop),(∀ (h':Heap) (tk:Nat),(∀ b o,s.heap.get? b=some o->h'.get? b=some o)->s.toks<=tk->R its { s with heap:=h',toks:=tk })->Ec (Eh X.prog X.w) X.A.in1 (collect (.ref p)) R E s) :
 Ec (Eh X.prog X.w) X.A (call (.builtin "sorted") [.ref p]) (EP X pins σ Q) X.xe s:=by
 obtain ⟨hS,J⟩:=xP hok O;have BO:=m8 hok;obtain ⟨t,t1,t2,t3,t4⟩:=oi rvs hv;have Y:∀ pp∈t, ∃ as,Ic s.heap pp.2.2 (pd pp.1) as:=fun pp j=>by
  have hm:pp.1∈es:=by rw [<- t1];exact Ey j
  exact bN I rm 16 pp.1 (pd pp.1) pp.2.1 pp.2.2 (w8 M sh pp.1 16 (O _ hm) (by lia)) (t4 pp j).1 (t4 pp j).2
 have Z:RdL s.heap its (es.map pd):=fun u L=>by
  rw [<- t3] at L;obtain ⟨pp,j,rfl⟩:=ED.mp L;obtain ⟨as,ra⟩:=Y pp j;exact ⟨pd pp.1,Ey (by rw [<- t1];exact Ey j),as,ra⟩
 refine sd S (m := 7) (ds:=es.map pd) (C:=fun h' vs'=>vs'=its /\ ∀ b o,s.heap.get? b=some o->h'.get? b=some o) (by lia) hS J (fun E R hR => ?_) fun h1 h2 vs' out n' tk hC old g2 F BJ BP BQ ht => ?_
 ·refine U E R fun h' tk kp BM=>hR h' its tk ⟨rfl,kp⟩ (fun u L => ?_) ⟨by rw [<- hv.length];exact hl,by rw [<- hv.length];exact BL⟩ BM
  obtain ⟨d,hd,as,ra⟩:=Z u L;exact ⟨d,hd,as,bn (fun b o e _=>kp b o e) (J d hd) ra⟩
 ·obtain ⟨rfl,kp⟩:=hC;rw [<- t3] at F;obtain ⟨t',p1,p2⟩:=jZ (fun pp:D×V×h6=>pp.2.2) F rfl;have hz:=oj (t:=t') fun pp j=>t4 pp (p1.mem_iff.mp j);have BK:∀ b o,s.heap.get? b=some o->h2.get? b=some o:=fun b o e=>old b o (kp b o e);have z:s.heap.get? h1.objs.size=none:=by
   cases hq:s.heap.get? h1.objs.size with
   | none=>rfl
   | some o=>exact absurd (E6 (kp _ _ hq)) (Fx _)
  have BN:=I.fresh' z;have hlen:(t'.map (·.2.1)).length<=DY:=by
   rw [r4,p1.length_eq, <- r4 (f:=fun pp:D×V×h6=>pp.2.1),t2];exact hl
  have I2:=I.laidN (t':=tk) (h':=h2) (N:=fun b=>if b=h1.objs.size then some (.lst (t'.map (·.2.1))) else none) BK (fun b o e=>by
   by_cases B:b=h1.objs.size
   ·rw [B];exact z
   ·rw [if_neg B] at e;cases e) (fun b o e=>by
   by_cases B:b=h1.objs.size
   ·subst B;rw [if_pos rfl] at e;cases e;exact ⟨hlen,out,n',by rw [<- p2];exact hz.2,g2⟩
   ·rw [if_neg B] at e;cases e)
  have eH:lay H (fun b=>if b=h1.objs.size then some (.lst (t'.map (·.2.1))) else none)=upd H h1.objs.size (.lst (t'.map (·.2.1))):=by
   funext b
   unfold lay upd;dsimp only
   by_cases B:b=h1.objs.size
   ·rw [if_pos B,if_pos B]
   ·rw [if_neg B,if_neg B]
  rw [eH] at I2;refine ⟨.ref h1.objs.size,_,I2,rfl, ?_⟩;refine cr rm hz.1 (fun p' n=>q p' _ n ?_ ?_) BN
  ·have:=p1.map (fun pp:D×V×h6=>pp.1);rw [t1] at this;exact this
  ·unfold m9;rw [Ga];rw [<- p2,Ga] at BJ;refine BJ.imp_of_mem fun {a b} ha B hab => ?_;have rd:∀ pp∈t',FI h2 pp.2.2=pd pp.1:=fun pp j=>by
    have G:=p1.mem_iff.mp j;obtain ⟨as,ra⟩:=Y pp G;have hm:pp.1∈es:=by rw [<- t1];exact Ey G
    exact GC (hS.lay _ (Ey hm)).1 (bn (fun b o e _=>BK b o e) (J _ (Ey hm)) ra)
   rw [rd a ha,rd b B] at hab;exact hab
end
end Mi
end
end L2
namespace L2
namespace Mi
open PySem PySem.Spec PyProof.Rows L2.Srt
def jk (K:Frag) (H:Hp) (kv:D×D) (e:Gq):Prop := ∃ kV vV,RD K H kv.1 kV/\RelV kV e.key/\RD K H kv.2 vV/\RelV vV e.val
theorem oo {K:Frag} {H:Hp} {d:D} {k:Key} (h:RKey d k):RD K H d (kV k):=by
 cases d <;> first
  | exact h.elim
  | (cases h;first | exact Nk.mpr rfl | exact Nv.mpr rfl)
theorem ka {K:Frag} {H:Hp}:∀ {ds:List D} {ks:List Key},ES RKey ds ks->RDs K H ds (ks.map kV)
 | _,_, .nil=>RDs.nil
 | _,_, .cons r t=>RDs.cons (oo r) (ka t)
theorem w9 {P:Ep} {w:EM} {K:Frag} {H:Hp}:∀ {kvs:List (D×D)} {ps:List (Key×V)} {vs:List (Key×h6)} {es:List Gq},ES (fun (p:D×D) (q:Key×V)=>RKey p.1 q.1/\RD K H p.2 q.2) kvs ps->KV ps vs->Pairs (aD P w) es vs->ES (jk K H) kvs es
 | _,_,_,_, .nil, .nil, .nil => .nil
 | _,_,_,_, .cons B t1, .cons F G, .cons h1 h2 t3=>by
   refine .cons ⟨kV _,_,oo B.1, ?_,B.2,by rw [h2];exact F.2⟩ (w9 t1 G t3)
   rw [<- F.1] at h1
   rcases aO h1 with ⟨i,t,j,z⟩ | ⟨x,t,j,z⟩
   ·rw [j,z];exact ⟨t,rfl⟩
   ·rw [j,z];exact ⟨t,rfl⟩
theorem wa {P:Ep} {w:EM} {K:Frag} {H:Hp}:∀ {kvs:List (D×D)} {ps:List (List Key×V)} {xs:List (List Key×Addr×h6)},ES (fun (p:D×D) (q:List Key×V)=>RKeys p.1 q.1/\RD K H p.2 q.2) kvs ps->ES (fun (p:List Key×V) (q:List Key×Addr×h6)=>p.1=q.1/\H q.2.1=some (.tup (p.1.map kV))/\RelV p.2 q.2.2) ps xs->ES (jk K H) kvs (xs.map (entryOfKey (Hz (aD P w))))
 | _,_,_, .nil, .nil => .nil
 | kv::_,_,_, .cons z t1, .cons B F=>by
   refine .cons ?_ (wa t1 F);obtain ⟨d,v⟩:=kv;have j:=z.1
   cases d <;> first
    | exact j.elim
    | exact ⟨.ref _,_,Nx ⟨_,_,rfl,B.2.1,ka j⟩,rfl,z.2,B.2.2⟩
theorem bS {α β:Type} {R : α -> β -> Prop}:∀ {l:List α} {m:List β},ES R l m->l.length=m.length
 | _,_, .nil=>rfl
 | _,_, .cons _ t=>by simp [bS t]
section
variable {X:Cx}
theorem md {H:Hp} {h:Heap} {P:Ep} {w:EM} {K:Frag} {a:Addr} {ps:List (List Key×V)} {kvs:List (D×D)} (ok:ObjOk P w H h a (.dT ps)) (pr:ES (fun (p:D×D) (q:List Key×V)=>RKeys p.1 q.1/\RD K H p.2 q.2) kvs ps) :
 ∃ cd dd sl es ep,h.get? a=some { cls:=cd,dict:=dd,data := .dict es ep,slots:=sl }/\es.size<=DY/\ES (jk K H) kvs es.toList:=by
 obtain ⟨G,B,xs,j,o,es,ep,h1,h2,z,F,J⟩:=ok;obtain ⟨cd,dd,dat,sl⟩:=o;dsimp only at z;subst z;have pp:=wa (P:=P) (w:=w) pr j;rw [<- F] at pp;refine ⟨cd,dd,sl,es,ep,h1, ?_,pp⟩;have:=bS pp;have:=bS pr;simp at *;lia
theorem xQ {pins:List (Addr×Obj)} {σ:St} {H:Hp} {s:hH} {M:Mem} (I:Inv X pins σ H s) (rm:RM X.K M H) {a:Addr} {t:Bool} {kvs:List (D×D)} (e:M a=some (.dct t kvs)) :
 ∃ cd dd sl es ep,s.heap.get? a=some { cls:=cd,dict:=dd,data := .dict es ep,slots:=sl }/\es.size<=DY/\ES (jk X.K H) kvs es.toList/\IsD H a:=by
 have ro:=rm a _ e
 cases t with
 | false =>
   obtain ⟨ps,j,pr⟩:=ro;obtain ⟨G,B,vs,z,o,es,ep,h1,h2,q,J,F,L⟩:=I.hok a _ j;obtain ⟨cd,dd,dat,sl⟩:=o;dsimp only at q;subst q;have pp:=w9 pr z F;refine ⟨cd,dd,sl,es,ep,h1, ?_,pp, .inl ⟨_,Rd.of j⟩⟩;have:=bS pp;have:=bS pr;simp at *;lia
 | true =>
   obtain ⟨ps,j,pr⟩:=ro;obtain ⟨cd,dd,sl,es,ep,h1,h2,q⟩:=md (I.hok a _ j) pr;exact ⟨cd,dd,sl,es,ep,h1,h2,q, .inr ⟨_,Rd.of j⟩⟩
end
section
noncomputable def iP (to tk tx:TEd):TEd:=fun ρ M Q=>to ρ M fun x M1 => ∃ a t kvs,x = .ref a/\M1 a=some (.dct t kvs)/\tk ρ M1 fun k M2=>tx ρ M2 fun z M3 => ∃ t' kvs',M3 a=some (.dct t' kvs')/\eA t' k=true/\Q ((dget kvs' k).getD z) M3
theorem sf {to tk tx:TEd} (h1:ad to) (h2:ad tk) (j:ad tx):ad (iP to tk tx):=fun ρ M Q Q' i q=>h1 _ _ _ _ (fun x O ⟨a,t,kvs,e,B,F⟩=>⟨a,t,kvs,e,B,h2 _ _ _ _ (fun k M2 G=>j _ _ _ _ (fun z U ⟨t',kvs',J,ok,L⟩=>⟨t',kvs',J,ok,i _ _ L⟩) G) F⟩) q
section
variable {X:Cx}
theorem zO {K:Frag} {M:Mem} {H:Hp} (rm:RM K M H) {a:Addr} {t:Bool} {kvs:List (D×D)} (e:M a=some (.dct t kvs)):IsD H a:=by
 have ro:=rm a _ e
 cases t with
 | false=>obtain ⟨ps,j,_⟩:=ro;exact .inl ⟨_,Rd.of j⟩
 | true=>obtain ⟨ps,j,_⟩:=ro;exact .inr ⟨_,Rd.of j⟩
theorem xR {o e f:Expr} {to tk tx:TEd} {apos cpos:Pos} (Y:X.A.units+1 < Gv) (mo:ad to) (mk:ad tk) (mx:ad tx) (ho:PE X o (lE X.K to)) (he:PE X e (lE X.K tk)) (hf:PE X f (lE X.K tx)) (m:M2 X o "get" apos e f cpos) :
 PE X (.Call (.Attribute o "get" apos) [e,f] [] cpos) (lE X.K (iP to tk tx)):=by
 refine PE.imp (u9 Y ho he hf m) fun σ H Q h => ?_;obtain ⟨ρ,M,rs,rm,q⟩:=h;refine ⟨ρ,M,rs,rm,mo _ _ _ _ (fun x Z ⟨a,t,kvs,e,e1,q1⟩ v H1 L j rd1 => ?_) q⟩;subst e
 cases Nl.mp rd1
 have B:=rs.mono (L.stab rm);refine ⟨a,rfl,zO j e1, ρ,Z,B,j,mk _ _ _ _ (fun k M2 q2 v2 H2 O F G => ?_) q1⟩;have J:=B.mono (O.stab j);refine ⟨ρ,M2,J,F,mx _ _ _ _ (fun z M3 ⟨t',kvs',e3,ok,q3⟩ v3 H3 U rm3 rd3 => ?_) q2⟩;obtain ⟨w,g,g1,g2⟩:=jd rm3 e3 ok (G.mono (U.stab F));refine ⟨w,g, ?_⟩;refine q3 _ H3 (L.trans (O.trans U)) rm3 ?_
 cases e4:dget kvs' k with
 | none=>rw [g2 e4];exact rd3
 | some d =>
   obtain ⟨w',e5,r5⟩:=g1 d e4;rw [e5];exact r5
end
end
end Mi
end L2
namespace L2
open PySem PySem.Spec PyProof.Rows
namespace Mi
end Mi
end L2
namespace L2
open PySem PySem.Spec PyProof.Rows
namespace Mi
end Mi
end L2
namespace L2
open PySem PySem.Spec PyProof.Rows
namespace Mi
end Mi
end L2
namespace L2
open PySem PySem.Spec PyProof.Rows
section
section
variable {prog:Ep} {w:EM} {A:F5} {E:h6->hH->Prop} {s:hH}
theorem xS:typeLookup (.type "list") "keys" = pure none:=by rw [typeLookup_type,Kg];kernel_rfl
theorem xT {l:Addr} {o:Obj} {xs:Array h6} {k:Nat} {Q:Option h6->hH->Prop} (B:A.handled=none) (ho:s.heap.get? l=some o) (z:o.cls = .type "list") (hd:o.data = .seq xs k) (j:o.dict=none)
 (q:∀ h' tk,(∀ b o,s.heap.get? b=some o->h'.get? b=some o)->Q none { s with heap:=h',toks:=tk }):Ec (model prog w) A (getAttr? (.ref l) "keys") Q E s:=by
 have ty:s.TypeIs (.ref l) "list" := ⟨_,ho,z⟩;unfold getAttr?;unfold mkText;refine gV ?_;refine gV (wpAny_fresh ?_);refine q7 ?_;unfold getAttrBy?;refine gV (GP ?_);unfold getAttrBy;refine Fh ?_;refine gV (GF (s := { s with toks:=s.toks+1 }) ty ?_)
 refine gV (GZ F.slot_list_getattribute.lookup ?_);refine Ka (by decide) ?_
 unfold getAttrByItsOwn hookBefore;rw [if_neg (by decide)]
 refine gV (q7 ?_);refine gV (GP (Fh ?_));unfold callGetattribute boundAndCalled;rw [if_neg (by decide)]
 refine gV (GZ (F.slot_list_getattribute.bind _) ?_);dsimp only;obtain ⟨cls,dd,dat,sl⟩:=o;dsimp only at z hd j;subst z hd j;refine K0 F.slot_list_getattribute (s := { s with toks:=s.toks+1 }) ty am_entry_list_getattribute (F.args_list_getattribute_2 _ _) ((meets_getattribute_miss_list l xs k sl "keys" s.toks xS (by decide) (by decide)).inModel prog w) ⟨ho,B,fun h' tk a ne => ?_⟩
 ·have ne:s.heap.NewAttrErr h' a (.ref l) "keys" := ne;obtain ⟨t,u,he⟩:=ne.there;unfold getattributeRaised;refine gV (GU (T := "AttributeError") (b:=true) ⟨_,he,rfl⟩ (by rw [Ii];kernel_rfl) ?_)
  rw [if_pos rfl];unfold hookBehind;rw [if_neg (by decide)]
  refine gV (GZ am_list_getattr_none ?_);unfold hookOrError attributeErrorLeaves;dsimp only;rw [if_pos (by decide)]
  refine gV (Mt ?_);refine gV (GU (T := "AttributeError") (b:=true) ⟨_,he,rfl⟩ (by rw [Ii];kernel_rfl) ?_)
  rw [if_pos rfl];exact q7 (q h' tk ne.keeps)
end
end
section
theorem mf:entryFor table "dict.update.loop" = some G8.«dict.update.loop» := Mf (by kernel_rfl)
theorem mj:plainId "dict.update.loop" = true:=by decide +kernel
section
variable {X:Cx} {pins:List (Addr×Obj)} {σ:St} {H:Hp}
def PrV (H:Hp) (v:V) (kv:List Key×V):Prop := ∃ t b,v = .ref t/\H t=some (.tup [.ref b,kv.2])/\H b=some (.tup (kv.1.map kV))
noncomputable abbrev bF (kvs:List (List Key×V)):List (List Key×V):=kvs.foldl (fun a kv=>bf a kv.1 kv.2) []
theorem pS (kvs:List (List Key×V)):(bF kvs).length<=kvs.length:=by
 have g:∀ (r:List (List Key×V)) (a:List (List Key×V)),(r.foldl (fun a kv=>bf a kv.1 kv.2) a).length<=a.length+r.length:=by
  intro r
  induction r with
  | nil=>intro a;simp
  | cons x r ih =>
    intro a;have h1:=ih (bf a x.1 x.2);have h2:=cD a x.1 x.2;simp only [Gc,Fg];lia
 have:=g kvs [];simpa using this
theorem iQ {α β:Type} {R : α -> β -> Prop}:∀ {l:List α} {m:List β} {i:Nat} {x : α},ES R l m->l[i]? = some x -> ∃ y,m[i]? = some y/\R x y
 | _,_,_,_, .nil,e=>by simp at e
 | _,_,0,_, .cons r _,e=>by simp at e;subst e;exact ⟨_,rfl,r⟩
 | _,_,i+1,x, .cons _ t,e=>by
   simp at e;obtain ⟨y,h1,h2⟩:=iQ t e;exact ⟨y,by simpa using h1,h2⟩
theorem xU {A:F5} (hu:A.units+1 < Gv) (hn:A.handled=none) {l it p:Addr} {vs:List V} {kvs:List (List Key×V)} (Z:H p=none) (Y:H l=some (.lst vs)) (G:ES (PrV H) vs kvs) (hz:vs.length < DY) {R:Result->hH->Prop} (hf:bT X pins H it) (j:it≠p) :
 ∀ (k i:Nat) (s:hH),vs.length - i=k->i<=vs.length->Inv X pins σ (upd H p (.dT (bF (kvs.take i)))) s->s.heap.IsListIter it l i ->
  (∀ s',Inv X pins σ (upd H p (.dT (bF kvs))) s'->R (.ok (.ret .none)) s') ->
  IB (model X.prog X.w) A (.builtin "dict.update.loop" ⟨[.ref p, .ref it,Jy i, .none],[]⟩) R s:=by
 have J:l≠p:=fun z=>by rw [z,Z] at Y;cases Y
 have hlen:vs.length=kvs.length:=FZ G;obtain ⟨f0,f1,f2,f3,f4,f5⟩:=hf;intro k
 induction k with
 | zero =>
   intro i s hk hi I st q;have BJ:i=vs.length:=by lia
   obtain ⟨its,rv,pl,_⟩:=I.list (SqL.of (K:=X.K) ((aj J).trans Y));refine IX mf ?_;unfold G8.«dict.update.loop»;dsimp only;refine gV (Kc hn st pl.isList (by have:=rv.length;simp;lia) fun h' eb => ?_)
   refine gV ?_;unfold Builtin.Dict.addKeywords;refine gV ?_;have B:=I.turned (t':=s.toks) (h':=h') (fun b o F e=>eb b o F e) ((aj j).trans f0) f1 f3 f4 f5;rw [BJ,hlen,List.take_length] at B;exact q7 (q7 (q7 (q _ B)))
 | succ k ih =>
   intro i s hk hi I st q;have L:i < vs.length:=by lia
   obtain ⟨its,rv,pl,_⟩:=I.list (SqL.of (K:=X.K) ((aj J).trans Y));obtain ⟨u,BK,ru⟩:=rv.get (D0 L);obtain ⟨kv,BL,t,b,hv,ht,F⟩:=iQ G (D0 L);rw [hv] at ru
   cases (show u=Ff t from ru)
   refine IX mf ?_;rw [Lk (by rfl) (by rfl)]
   unfold G8.«dict.update.loop»;dsimp only;refine gV (JS st pl.isList (x := .ref t) (by simpa using BK) fun h' st' sb => ?_)
   have B:=I.turned (t':=s.toks) (h':=h') (fun b o F e=>(sb.2 b F).trans e) ((aj j).trans f0) f1 f3 f4 f5;dsimp only;have BM:t≠p:=fun z=>by rw [z,Z] at ht;cases ht
   have BN:b≠p:=fun z=>by rw [z,Z] at F;cases F
   obtain ⟨tits,rt,tt,_⟩:=B.tuple (SqT.of (K:=X.K) ((aj BM).trans ht));obtain ⟨ob,O,BO,nt,BP⟩:=id tt
   cases rt with
   | cons r1 rt =>
     cases rt with
     | cons r2 rt =>
       cases rt
       cases (show _=Ff b from r1)
       rename_i uv;refine gV (Fh ?_);refine gV (wpAny_tryCatch ?_);unfold Builtin.Dict.pairItems;refine gV (GF (T := "tuple") (s := { s with heap:=h' }) ⟨ob,O,BO⟩ ?_)
       rw [if_pos (by decide)]
       refine gV (G3 (s := { s with heap:=h' }) O BP ?_)
       refine q7 ?_;refine Fh ?_;obtain ⟨z,hd,xs,rel,dd⟩:=kw (a:=p) B.hok av;have BQ:xs.length<=DY:=by rw [<- FZ rel];exact z
       have U:upd H p (.dT (bF (kvs.take i))) b=some (.tup (kv.1.map kV)):=(aj BN).trans F;have BR:(bf (bF (kvs.take i)) kv.1 kv.2).length<=DY:=by
        have h1:=cD (bF (kvs.take i)) kv.1 kv.2;have h2:=pS (kvs.take i);rw [Eu] at h2;lia
       have etk:bf (bF (kvs.take i)) kv.1 kv.2=bF (kvs.take (i+1)):=by
        unfold bF;rw [List.take_succ,BL,Ik];rfl
       refine Ll (hsz:=BQ) (knd:=Hz (aD X.prog X.w)) (Hb hu) (dm B.hok U) dd fun h2 dd' hs => ?_;obtain ⟨q',es,ep,hq,g2,g3,g4,_,g5⟩:=dd';have I2:=fG (t':=s.toks+(Hz (aD X.prog X.w)).draws kv.1) B (a:=p) (ob := .dT (bf (bF (kvs.take i)) kv.1 kv.2)) (by rw [av];exact Gu) hs ⟨q',hq⟩ ⟨BR,hd,_,(rel.put kv.1 U r2).keeps fun c ys ec => ?_,q',es,ep,hq,g2,g3,g4,g5⟩
       ·rw [wu,etk] at I2;refine q7 ⟨L6 mj _,ih (i+1) _ (by lia) (by lia) I2 ?_ q⟩
        exact st'.at fun o e=>(hs.2 it j).trans e
       ·rw [aj (oR ec av (fun z=>nomatch z))];exact ec
end
section
variable {X:Cx}
theorem iR (hu:X.A.units+16 < Gv) (hc:X.calm=true):CallR X (.type "dict") (fun xs H Q => ∃ l vs kvs,xs=[V.ref l]/\H l=some (.lst vs)/\ES (PrV H) vs kvs/\vs.length < DY /\ ∀ p,H p=none->Q (.ref p) (upd H p (.dT (bF kvs)))):=by
 intro pins s σ H xs us Q I r h;obtain ⟨l,vs,kvs,rfl,J,L,hz,q⟩:=h
 cases r with
 | cons r1 rr =>
 cases rr
 cases (show _=Ff l from r1)
 have Z:=I.ok.hd hc;have O:H s.heap.objs.size=none:=I.hok.fresh (E3 _);have I1:=I.laid (a:=s.heap.objs.size) (o := .dT []) (t':=s.toks) (fun _ _ q=>h7 _ q) (E3 _) (gE s.heap I.big);have U:l≠s.heap.objs.size:=fun z=>by rw [z,O] at J;cases J
 refine callType_codes (Q₁ := fun obj s₁ => obj = .ref s.heap.objs.size/\s₁ = { s with heap:=s.heap.push { cls := .type "dict",data := .dict #[] } }) F.kt_called_dict (F.kt_typeCall_dict_1 _) F.entry_dict_init (kt_code_dict_new _ ⟨rfl,rfl⟩) fun obj s₁ h₁ => ?_
 obtain ⟨rfl,rfl⟩:=h₁;refine ⟨⟨_,E1 _ rfl,rfl⟩,F.args_dict_init_2 _ _, ?_⟩;unfold G8.«dict.__init__»;refine gV ?_;unfold Builtin.Dict.selfAndRest;unfold Builtin.Dict.notOrdered;rw [if_pos (by decide)]
 have tyd:Shared.TypeIs { s with heap:=s.heap.push { cls := .type "dict",data := .dict #[] } } (.ref s.heap.objs.size) "dict" := ⟨_,E1 _ rfl,rfl⟩
 refine gV (gV (GF tyd ?_));rw [if_neg (by decide)]
 refine q7 ?_;refine gV (q7 (q7 ?_));unfold Builtin.Dict.updateCommon Builtin.Dict.updateFrom;dsimp only;obtain ⟨its,rv,pl,_⟩:=I1.list (SqL.of (K:=X.K) ((aj U).trans J));have il:=pl.isList;refine gV (GF il.typeIs ?_);rw [if_pos (by decide)]
 obtain ⟨ob,nn,e1,j,B,G⟩:=id pl;refine gV (xT Z e1 j G B fun h1 tk kp => ?_);rw [if_pos (show (none:Option h6).isNone=true from rfl)];refine gV (FW ?_);have Y:=I1.kept (t':=tk) kp;refine gV (G9 (s := { s with heap:=h1,toks:=tk }) (PlainL.isList (⟨ob,nn,kp _ _ e1,j,B,G⟩)) ?_)
 have I3:=Y.kept (t':=tk) (h':=h1.push { cls := .type "list_iterator",data := .fields #[.ref l, .int 0 0] }) fun b o e=>h7 _ e;refine q7 ⟨L6 mj _, ?_⟩;have hle:s.heap.objs.size < h1.objs.size:=E6 (kp _ _ (E1 _ rfl));have hf:bT X pins H h1.objs.size:=by
  have:=Y.fpOk (H':=upd H s.heap.objs.size (.dT [])) (E3 _) (Y.hok.fresh (E3 _));exact ⟨by rw [<- this.1,aj (Gn hle)],this.2⟩
 refine xU (A:=X.A.in1) (X:=X) (pins:=pins) (σ := σ) (H:=H) (p:=s.heap.objs.size) (kvs:=kvs) (by have:X.A.in1.units=X.A.units+1:=rfl;lia) Z O J L hz hf (Gn hle) vs.length 0 _ (by lia) (by lia) I3 ⟨_,E1 _ rfl,rfl,rfl⟩ fun s' I' => ?_
 exact ⟨rfl, .ref s.heap.objs.size,_,I',rfl,q _ O⟩
end
end
end L2
namespace L2
namespace Mi
open PySem PySem.Spec PyProof.Rows
section
section
variable {X:Cx}
noncomputable def pT (kvs:List (D×D)):List (D×D):=kvs.foldl (fun a kv=>bM a kv.1 kv.2) []
noncomputable def pU:RAd:=fun ds M Q => ∃ a kvs,ds=[.ref a]/\M a=some (.lst (kvs.map fun kv:D×D => .tup [kv.1,kv.2]))/\(∀ kv∈kvs,bu kv.1=true)/\kvs.length < DY /\ ∀ p,M p=none->Q (.ref p) (ag M p (.dct true (pT kvs)))
theorem kb:aM pU:=fun _ _ _ _ h ⟨a,kvs,e,j,z,B,q⟩=>⟨a,kvs,e,j,z,B,fun p n=>h _ _ (q p n)⟩
theorem mm {K:Frag} {H:Hp}:∀ {kvs:List (D×D)} {vs:List V},RDs K H (kvs.map fun kv:D×D => .tup [kv.1,kv.2]) vs->(∀ kv∈kvs,bu kv.1=true) ->
 ∃ ps:List (List Key×V),ES (PrV H) vs ps/\ES (fun (p:D×D) (q:List Key×V)=>RKeys p.1 q.1/\RD K H p.2 q.2) kvs ps
 | [],vs,r,_=>by rw [RDs.nil_iff.mp r];exact ⟨[], .nil, .nil⟩
 | kv::kvs,vs,r,h=>by
   rw [Ew] at r;obtain ⟨v,vr,rfl,G,J⟩:=Nm.mp r;obtain ⟨ps,h1,h2⟩:=mm J fun x hx=>h x (E7 _ hx);have z:=h kv (Ef ..);obtain ⟨k,v⟩:=kv;obtain ⟨ks,j⟩:=fH z
   cases k <;> first
    | exact j.elim
    | (obtain ⟨t,us,rfl,B,ru⟩:=Nz rfl G
       obtain ⟨Z,ur,rfl,L,ru⟩:=Nm.mp ru;obtain ⟨O,U,rfl,Y,ru⟩:=Nm.mp ru;rw [RDs.nil_iff.mp ru] at B;obtain ⟨b,ws,rfl,F,rw'⟩:=Nz (fI z) L;rw [dr j rw'] at F;exact ⟨(ks,O)::ps, .cons ⟨t,b,rfl,B,F⟩ h1, .cons ⟨j,Y⟩ h2⟩)
theorem mn {K:Frag} {H:Hp}:∀ {kvs:List (D×D)} {ps:List (List Key×V)} {a:List (D×D)} {b:List (List Key×V)},ES (fun (p:D×D) (q:List Key×V)=>RKeys p.1 q.1/\RD K H p.2 q.2) kvs ps->ES (fun (p:D×D) (q:List Key×V)=>RKeys p.1 q.1/\RD K H p.2 q.2) a b ->
 ES (fun (p:D×D) (q:List Key×V)=>RKeys p.1 q.1/\RD K H p.2 q.2) (kvs.foldl (fun a kv=>bM a kv.1 kv.2) a) (ps.foldl (fun a kv=>bf a kv.1 kv.2) b)
 | _,_,_,_, .nil,h=>h
 | _,_,_,_, .cons r t,h=>by
   have g:=mn t (gK (RK:=RKeys) RKeys.inj RKeys.fun r.1 r.2 h);exact g
theorem nI (j:X.A.units+16 < Gv) (B:X.calm=true):CallR X (.type "dict") (lR X.K pU):=by
 refine CallR.of (iR j B) fun vs H Q h => ?_;obtain ⟨ds,M,rm,rs,a,kvs,rfl,e,F,G,q⟩:=h;obtain ⟨v,rfl,r⟩:=rs.one
 cases Nl.mp r
 obtain ⟨us,J,ru⟩:=rm _ _ e;obtain ⟨ps,h1,h2⟩:=mm ru F;refine ⟨a,us,ps,rfl,J,h1,by rw [ru.length,r4];exact G,fun p n => ?_⟩
 have st:Stab H (upd H p (.dT (bF ps))):=(Nw (M:=M) n).stab rm;exact q p (rm.out n) (.ref p) _ (Ext.lay n) (rm.lay n ⟨_,av,Nq (mn h2 .nil) fun _ _ z=>⟨z.1,z.2.mono st⟩⟩) (Nl.mpr rfl)
end
end
end Mi
end L2
namespace L2
namespace Dk
open PySem PySem.Spec PyProof.Rows
section
variable {prog:Ep} {w:EM} {A:F5} {E:h6->hH->Prop} {s:hH}
noncomputable def kO (d:Addr) (i n ep:Nat):Obj := { cls := .type "dict_keyiterator",data := .fields #[.ref d, .int i 0, .int n 0, .int ep 0] }
theorem slot_next:Slot "dict_keyiterator" "__next__" "dict_keyiterator.__next__" := .of (owner := "dict_keyiterator") (n := "__next__") (by rw [typeLookup_type,Kg];kernel_rfl) (by decide +kernel) (by decide +kernel) (by decide +kernel) (.inl (by decide +kernel)) (by rw [Ii];kernel_rfl)
theorem iS:entryFor table "dict_keyiterator.__next__" = some G8.«dict_keyiterator.__next__» := Mf (by kernel_rfl)
theorem kc (a:h6):argsOk "dict_keyiterator.__next__" ⟨[a],[]⟩:=by unfold argsOk;kernel_rfl
theorem sg {it:Addr} (ty:s.TypeIs (.ref it) "dict_keyiterator") {types:List String} {Q:Bool->hH->Prop} (q:Q (types.any fun t => [Fm "dict_keyiterator",Fm "object"].contains (Fm t)) s):Ec (model prog w) A (Jk (.ref it) types) Q E s:=by
 have hm:=L7;unfold Jk
 wp_walk
 exact q
theorem nx_item {it d:Addr} {i ep:Nat} {cd:h6} {dd:Option Addr} {sl:Array (Option h6)} {es:Array Gq} {e:Gq} {Q:Option h6->hH->Prop} (hi:s.heap.get? it=some (kO d i es.size ep)) (hd:s.heap.get? d=some { cls:=cd,dict:=dd,data := .dict es ep,slots:=sl }) (he:es[i]? = some e)
 (q:∀ h',h'.get? it=some (kO d (i+1) es.size ep)->Fz it s.heap h'->Q (some e.key) { s with heap:=h' }):Ec (model prog w) A (I8 (.ref it)) Q E s:=by
 have ty:s.TypeIs (.ref it) "dict_keyiterator" := ⟨_,hi,rfl⟩;unfold I8;refine gV (GP (EG (name:=Fc "__next__") ty slot_next (F6 slot_next ty iS ?_ (kc _))));unfold G8.«dict_keyiterator.__next__»;have hm:=L7
 wp_walk
 dsimp only;rw [if_neg (by simp)]
 simp only [Ed,he];refine gV (FU (Q:=fun n s'=>n=0/\s'=s) ?_ (fun n s' hs => ?_) fun _ _ z=>z)
 ·wp_walk
  exact ⟨by kernel_rfl,rfl⟩
 obtain ⟨rfl,rfl⟩:=hs;refine gV (sg ty ?_);refine gV (ER hi (by simp) fun h1 j s1 => ?_)
 rw [if_neg (by decide +kernel)] at j
 have j:h1.get? it=some (kO d (i+1) es.size ep):=j;have B:Shared.TypeIs { s' with heap:=h1 } (.ref it) "dict_keyiterator" := ⟨_,j,rfl⟩
 refine gV (Fh ?_);refine gV (sg B ?_);refine Kz (by decide +kernel) ?_
 refine q7 (q7 ⟨_,rfl,q7 ?_⟩);exact q h1 j s1
theorem nx_end {it d:Addr} {ep:Nat} {cd:h6} {dd:Option Addr} {sl:Array (Option h6)} {es:Array Gq} {Q:Option h6->hH->Prop} (j:A.handled=none) (hi:s.heap.get? it=some (kO d es.size es.size ep)) (hd:s.heap.get? d=some { cls:=cd,dict:=dd,data := .dict es ep,slots:=sl })
 (q:∀ h',(∀ b o,b≠it->s.heap.get? b=some o->h'.get? b=some o)->Q none { s with heap:=h' }):Ec (model prog w) A (I8 (.ref it)) Q E s:=by
 have ty:s.TypeIs (.ref it) "dict_keyiterator" := ⟨_,hi,rfl⟩;unfold I8;refine gV (GP (EG (name:=Fc "__next__") ty slot_next (F6 slot_next ty iS ?_ (kc _))));unfold G8.«dict_keyiterator.__next__»;have hm:=L7
 wp_walk
 dsimp only;rw [if_neg (by simp)]
 have he:es[es.size]? = none:=Il (E3 _);simp only [Ed,he];refine gV (FU (Q:=fun n s'=>n=0/\s'=s) ?_ (fun n s' hs => ?_) fun _ _ z=>z)
 ·wp_walk
  exact ⟨by kernel_rfl,rfl⟩
 obtain ⟨rfl,rfl⟩:=hs;refine gV (ER hi (by simp) fun h1 F s1 => ?_)
 refine gV (m:=newExc (.type "StopIteration") []) ?_;simp only [newExc,newTuple];refine gV (Fv ?_ (by size_fits))
 refine gV (m:=Jg _ _) (GZ (a:=H4) (by first | rfl | (simp only [Jg];rfl)) (Fv ?_ (by size_fits)))
 simp only [raiseNew];refine gV (wpAny_handled ?_)
 first | rw [show A.in1.handled=none from j] | rw [j]
 refine gV (q7 (Mt ?_));exact gV (GU (T := "StopIteration") (b:=true) ⟨_,E1 _ rfl,rfl⟩ Kr (q7 (q _ fun b o B e=>h7 _ (h7 _ (s1.extBut b o B e)))))
theorem it_dict {d:Addr} {es:Array Gq} {ep:Nat} {dd:Option Addr} {sl:Array (Option h6)} {Q:h6->hH->Prop} (j:(d==FF)=false) (hd:s.heap.get? d=some { cls := .type "dict",dict:=dd,data := .dict es ep,slots:=sl })
 (q:Q (.ref s.heap.objs.size) { s with heap:=s.heap.push (kO d 0 es.size ep) }):Ec (model prog w) A (Le (.ref d)) Q E s:=by
 have ty:s.TypeIs (.ref d) "dict" := ⟨_,hd,rfl⟩;refine wpAny_pyIter_slot ty Mg (F6 Mg ty F.entry_dict_iter ?_ (F.args_dict_iter_1 _));unfold G8.«dict.__iter__»
 wp_walk
 exact ⟨_,rfl, "dict_keyiterator",_,⟨_,E1 _ rfl,rfl⟩,slot_next.lookup,q⟩
theorem walk (hn:A.handled=none) (it d:Addr) (hne:d≠it) (es:Array Gq) (ep:Nat) :
 Walks prog w A it [it,d] [it] es.size (fun i v => ∃ e,es[i]? = some e/\v=e.key) (fun i h=>h.get? it=some (kO d i es.size ep) /\ ∃ cd dd sl,h.get? d=some { cls:=cd,dict:=dd,data := .dict es ep,slots:=sl }) where
 sub:=fun b hb=>by simp at hb;simp [hb]
 frame:=fun _ _ _ st k=>⟨k it (by simp) _ st.1,by obtain ⟨cd,dd,sl,h⟩:=st.2;exact ⟨cd,dd,sl,k d (by simp) _ h⟩⟩
 item:=fun i s Q E hi st q=>by
  obtain ⟨h1,cd,dd,sl,h2⟩:=st;refine nx_item (e:=es[i]) h1 h2 (EC hi) fun h' e' s' => ?_;exact q _ h' s.toks ⟨_,EC hi,rfl⟩ ⟨e',cd,dd,sl,s'.extBut d _ hne h2⟩ fun b o hb x=>s'.extBut b o (fun z=>hb (by simp [z])) x
 done:=fun s Q E st q=>by
  obtain ⟨h1,cd,dd,sl,h2⟩:=st;exact nx_end hn h1 h2 fun h' k=>q h' s.toks fun b o hb x=>k b o (fun z=>hb (by simp [z])) x
 self:=fun i s Q E st q=>KA ⟨_,st.1,rfl,rfl⟩ q
theorem si {d:Addr} {Q:Bool->hH->Prop} (ty:s.TypeIs (.ref d) "dict") (q:Q false s):Ec (model prog w) A (J6 (.ref d)) Q E s:=by
 unfold J6;refine gV (wpAny_specialOf ty F.slot_dict_len.lookup ?_);generalize j:("dict.__len__":String)=z
 (fail_if_success (clear j z));wp_delta
 rw [show splitId z=some ("dict", "__len__") from by subst j;decide +kernel]
 subst j;refine gV (GU (b:=true) ty (by rw [Ii];kernel_rfl) ?_)
 rw [if_neg (by decide)]
 refine Kz (by decide +kernel) ?_
 refine gV (GF ty ?_);exact q7 q
open Builtin.List in
theorem v5 (hn:A.handled=none) {S d:Addr} {es:Array Gq} {ep c:Nat} {dd:Option Addr} {sl:Array (Option h6)} {R:Result->hH->Prop} (res:h6) (Z:(d==FF)=false) (hd:s.heap.get? d=some { cls := .type "dict",dict:=dd,data := .dict es ep,slots:=sl }) (Y:s.heap.get? S=some { cls := .type "list",data := .seq #[] c }) (hz:es.size<=DY)
 (q:∀ (h':Heap) (tk:Nat) (acc':Array h6) (c':Nat),(∀ b o,b≠S->s.heap.get? b=some o->h'.get? b=some o)->h'.get? S=some { cls := .type "list",data := .seq acc' c' }->acc'.toList=es.toList.map (·.key)->s.toks<=tk->R (.ok (.ret res)) { s with heap:=h',toks:=tk }) :
 Ec (model prog w) A.in1 (listExtendWith (.ref S) (.ref d) res) (fun fin s'=>match fin with | .done f=>R (.ok f) s' | .again c'=>c'.quiet=true/\IB (model prog w) A c' R s') (fun e s'=>R (.error e) s') s:=by
 have ty:s.TypeIs (.ref d) "dict" := ⟨_,hd,rfl⟩;have G:S≠d:=fun e=>by rw [e,hd] at Y;simp at Y
 have h1:listSameRef (.ref S) (.ref d)=false:=by simp [listSameRef,G]
 unfold listExtendWith;refine gV (GF ty ?_);rw [if_neg (by rw [h1];decide)]
 refine gV (it_dict Z hd ?_);refine gV (Fh (si (s := { s with heap:=s.heap.push (kO d 0 es.size ep) }) ⟨_,h7 _ hd,rfl⟩ ?_))
 have B:=E6 Y;have J:=E6 hd;have W:=(walk (prog:=prog) (w:=w) (A:=A.in1) hn s.heap.objs.size d (EJ J) es ep).toS;have BJ:S∉[s.heap.objs.size,d]:=fun hm=>by
  simp only [Eb,EL,or_false] at hm
  rcases hm with e | e
  ·exact absurd (e ▸ B) (Fx _)
  ·exact G e
 refine Kz (by decide +kernel) ?_
 refine gV (FW ?_);unfold listTouch;have L:(s.heap.push (kO d 0 es.size ep)).get? S=some (Md "list" #[] c):=h7 _ Y;refine gV (gV (ID L rfl ?_ (by simp) (by simp)))
 have O:=HR L (fun x=>x.push H4);refine ID O rfl ?_ (by simp;decide) (by simp)
 have BK:=HR O (fun x=>x.pop);have oth:∀ b o,b≠S->s.heap.get? b=some o->(((s.heap.push (kO d 0 es.size ep)).update S (Ha fun x=>x.push H4)).update S (Ha fun x=>x.pop)).get? b=some o:=fun b o U e=>by
  rw [FN _ _ _ _ U,FN _ _ _ _ U];exact h7 _ e
 have hit:(((s.heap.push (kO d 0 es.size ep)).update S (Ha fun x=>x.push H4)).update S (Ha fun x=>x.pop)).get? s.heap.objs.size=some (kO d 0 es.size ep):=by
  rw [FN _ _ _ _ (Gn B),FN _ _ _ _ (Gn B)];exact E1 _ rfl
 refine q7 ⟨L6 F.plain_extend_loop _,codeAny_extend_loopS W hz _ BJ _ es.size 0 _ _ _ rfl (G2 _) ⟨hit,_,_,_,oth d _ G.symm hd⟩ BK (ItemsOf.nil _) fun s' acc c' hm BL ha => ?_⟩;rw [hm.eq_with];refine q _ _ acc c' (fun b o U e => ?_) BL ?_ hm.toks
 ·exact hm.heap b o (fun z=>by
   simp only [Eb,EL,or_false] at z
   rcases z with z | z
   ·exact U z
   ·exact absurd (z ▸ E6 e) (Fx _)) (oth b o U e)
 ·obtain ⟨g1,g2⟩:=ha;apply GG;intro j;rw [Er,Eo,Er]
  by_cases hj:j < es.size
  ·obtain ⟨e,he,hv⟩:=g2 j (acc[j]'(by lia)) (EC (by lia))
   rw [EC (by lia),hv,he];rfl
  ·rw [Il (by lia),Il (by lia)];rfl
theorem collect_dict (L:A.handled=none) {d:Addr} {es:Array Gq} {ep:Nat} {dd:Option Addr} {sl:Array (Option h6)} {Q:List h6->hH->Prop} (j:(d==FF)=false) (hd:s.heap.get? d=some { cls := .type "dict",dict:=dd,data := .dict es ep,slots:=sl }) (O:es.size<=DY)
 (q:∀ (h':Heap) (tk:Nat),(∀ b o,s.heap.get? b=some o->h'.get? b=some o)->s.toks<=tk->Q (es.toList.map (·.key)) { s with heap:=h',toks:=tk }):Ec (model prog w) A (collect (.ref d)) Q E s:=by
 unfold collect;refine gV (wpAny_runValue (IX F.entry_proto_collect ?_));unfold G8.«proto.collect»;dsimp only;refine gV (JA ?_ (by simp))
 refine q7 ⟨Code.quiet_builtin _ (by decide +kernel), ?_⟩
 refine IX entry_list_iadd' ?_;unfold G8.«list.__iadd__»;refine gV (GZ (a:=(Ff s.heap.objs.size,[Ff d])) (by kernel_rfl) ?_)
 have z:(s.heap.push { cls:=Fm "list",data:=IF [].toArray }).get? s.heap.objs.size=some { cls:=Fm "list",data:=IF #[] 0 }:=E1 _ rfl;rw [Lk (by rfl) (by rfl)]
 refine FU (v5 (s := { s with heap:=s.heap.push { cls:=Fm "list",data:=IF [].toArray } }) (R:=fun r s'=>r = .ok (.ret (.ref s.heap.objs.size))/\Ec (model prog w) A (do
  let o <- load s.heap.objs.size
  match o.data with
  | .seq xs _=>pure xs.toList
  | _=>unsupported "internal:collect") Q E s') L (Ff s.heap.objs.size) j (h7 _ hd) z O fun h' tk acc c' kp B U G=>⟨rfl, ?_⟩) (fun fn s' h => ?_) (fun e s' h => ?_)
 ·refine gV (wpAny_load B ?_);refine q7 ?_;rw [U];exact q h' tk (fun b o e=>kp b o (EJ (E6 e)) (h7 _ e)) G
 ·cases fn with
  | done f =>
    obtain ⟨e,h⟩:=h
    cases e
    exact h
  | again c' =>
    refine ⟨h.1,I9 h.2 fun r s1 J => ?_⟩;obtain ⟨rfl,J⟩:=J;exact J
 ·cases h.1
end
end Dk
end L2
namespace L2
namespace Mi
open PySem PySem.Spec PyProof.Rows L2.Srt
noncomputable def mq:RAd:=fun ds M Q => ∃ a t kvs sh,ds=[.ref a]/\M a=some (.dct t kvs)/\jj sh=true/\(∀ kv∈kvs,hs sh kv.1=true) /\ ∀ p ys,M p=none->ys.Perm (kvs.map (·.1))->m9 ys->Q (.ref p) (ag M p (.lst ys))
theorem iT:aM mq:=fun _ _ _ _ h ⟨a,t,kvs,sh,e,j,z,B,q⟩=>⟨a,t,kvs,sh,e,j,z,B,fun p ys n F hs=>h _ _ (q p ys n F hs)⟩
theorem ot {K:Frag} {H:Hp}:∀ {kvs:List (D×D)} {es:List Gq},ES (jk K H) kvs es -> ∃ vs,RDs K H (kvs.map (·.1)) vs/\Vals vs (es.map (·.key))
 | _,_, .nil=>⟨[],RDs.nil, .nil⟩
 | _,_, .cons r t=>by
   obtain ⟨vs,h1,h2⟩:=ot t;obtain ⟨kV,vV,g1,g2,_,_⟩:=r;exact ⟨kV::vs,RDs.cons g1 h1, .cons g2 h2⟩
section
variable {X:Cx}
theorem mw (L:X.A.units+16 < Gv) (O:X.calm=true):CallR X (.builtin "sorted") (lR X.K mq):=by
 intro pins s σ H xs us Q I r h;obtain ⟨ds,M,rm,rs,a,t,kvs,sh,rfl,e,hok,j,q⟩:=h;obtain ⟨v,rfl,rv⟩:=rs.one;obtain ⟨u,rfl,ru⟩:=cB r
 cases Nl.mp rv
 cases (show u=Ff a from ru)
 obtain ⟨cd,dd,sl,es,ep,hd,U,z,Y⟩:=xQ I rm e;obtain ⟨t1,t2,B⟩:=ig I Y;obtain ⟨vs,h1,h2⟩:=ot z;have F:cd = .type "dict" := by
  obtain ⟨o,g1,g2⟩:=t1;rw [hd] at g1;cases g1;exact g2
 subst F;have Z:X.A.in1.handled=none:=I.ok.hd O;exact nH (cap:=DY) pO L I rm h1 hok (fun d hd=>by
  obtain ⟨kv,G,rfl⟩:=ED.mp hd;exact j kv G) q h2 (by have:=h2.length;rw [r4] at this;simp at this;lia) (by have:=h2.length;rw [r4] at this;simp at this;lia) fun E R hR=>Dk.collect_dict Z B hd U fun h' tk kp J=>hR h' tk kp J
end
end Mi
end L2
namespace L2
open PySem PySem.Spec PyProof.Rows
namespace Mi
end Mi
end L2
namespace L2
namespace Mi
open PySem PySem.Spec PyProof.Rows
end Mi
end L2
namespace L2
open PySem PySem.Spec PyProof.Rows
section
section
variable {X:Cx} {pins:List (Addr×Obj)} {σ:St} {H:Hp} {s:hH}
theorem Inv.freeze (I:Inv X pins σ H s) {a:Addr} {ps:List (List Key×V)} (e:H a=some (.dT ps)):∃ o,Inv X pins σ (upd H a (.frz o (.dT ps))) s:=by
 obtain ⟨B,j,xs,pr,o,es,ep,h1,h2,F,G,J⟩:=id (I.hok a _ e);have mu:Mut (H a):=by rw [e];exact Gu
 have u:Un X.fs [] H (upd H a (.frz o (.dT ps))) s.heap s.heap:=Un.write mu (.inl rfl) (fun b u _ q=>q) ⟨_,h1⟩;have ok:HOk X.prog X.w (upd H a (.frz o (.dT ps))) s.heap:=HOk.write I.hok mu (.inl rfl) (fun b u _ q=>q) ⟨_,h1⟩
  ⟨h1,(I.hok a _ e).stay (fun b u _ q=>q) (fun b q=>by rw [aj (fun z=>by subst z;rw [e] at q;cases q)];exact q) (fun b xs q=>by rw [aj (fun z=>by subst z;rw [e] at q;cases q)];exact q)⟩
 exact ⟨o,I.un (t':=s.toks) u ok⟩
end
noncomputable def Itk (n:Nat) (G:Hp->Prop) (yl:Nat->V->Hp->Prop):It:=⟨fun i H=>i < n/\G H,fun i H x H'=>H'=H/\yl i x H,fun i H=>n<=i/\G H⟩
theorem sj {P:Ep} {w:EM} {K:Frag} {tg:Expr} (a it:Addr) {cd:h6} {dd:Option Addr} {sl:Array (Option h6)} {es:Array Gq} {ep:Nat} {G:Hp->Prop} {yl:Nat->V->Hp->Prop}
 (U:∀ H,G H -> ∃ u,H a=some (.frz { cls:=cd,dict:=dd,data := .dict es ep,slots:=sl } u)) (Z:∀ i H h,HOk P w H h->G H -> ∀ e,es[i]? = some e -> ∃ x,RelV x e.key/\yl i x H) :
 eT P w K tg (Itk es.size G yl) [it] it (fun i h=>i<=es.size/\h.get? it=some (Dk.kO a i es.size ep)) where
 mem:=by simp
 obj:=fun i h st b q=>by
  have e:b=it:=by simpa using q
  subst e;exact ⟨_,st.2,fun v z=>by cases z⟩
 keep:=fun i h h' st k=>⟨st.1,k it (by simp) _ st.2⟩
 item:=by
  intro X B hw F Y i pins s σ H E I hf st j;subst B hw F;obtain ⟨hi,j⟩:=j;obtain ⟨u,J⟩:=U H j;obtain ⟨f0,f1,f2,L,f4,O⟩:=hf it (by simp)
  obtain ⟨x,rx,yx⟩:=Z i H s.heap I.hok j es[i] (EC hi);refine Dk.nx_item (e:=es[i]) st.2 (I.hok a _ J).1 (EC hi) fun h' st' sb => ?_;have I1:Inv X pins σ H { s with heap:=h' }:=I.turned (t':=s.toks) (fun b o q e=>(sb.2 b q).trans e) f0 f1 L f4 O
  exact ⟨_,rfl,ku (s := { s with heap:=h' }) (n := "dict_keyiterator") st' rfl rfl (by decide) ⟨x,H,I1,rx,⟨rfl,yx⟩,⟨hi,st'⟩,fun b q=>(hf b q).1⟩⟩
 done:=by
  intro X B hw F Y i pins s σ H E I hf st j;subst B hw F;obtain ⟨hi,j⟩:=j;obtain ⟨u,J⟩:=U H j;obtain ⟨f0,f1,f2,L,f4,O⟩:=hf it (by simp)
  have e:i=es.size:=by have:=st.1;lia
  subst e;exact Dk.nx_end (I.ok.hd Y) st.2 (I.hok a _ J).1 fun h' k=>⟨rfl,I.turned (t':=s.toks) (fun b o q e=>k b o q e) f0 f1 L f4 O⟩
 self:=fun A i s Q E st h=>KA ⟨_,st.2,rfl,rfl⟩ h
namespace Mi
section
variable {X:Cx}
noncomputable def pV (i:Nat) (t:TSd):TSd:=fun A ρ M => ∃ a kvs, ρ[i]? = some (some (.ref a))/\((M a=some (.dct true kvs)/\t A ρ (ag M a (.fdc kvs)))∨(M a=some (.fdc kvs)/\t A ρ M))
theorem v6 {i:Nat} {t:TSd} (h:aI t):aI (pV i t):=fun a b ρ M l ⟨p,kvs,e,q⟩=>⟨p,kvs,e,q.imp (fun q=>⟨q.1,h _ _ _ _ l q.2⟩) fun q=>⟨q.1,h _ _ _ _ l q.2⟩⟩
theorem zP {st:Stmt} {i:Nat} {t:TSd} (h:PS X st (lS X.K t)):PS X st (lS X.K (pV i t)):=by
 intro pins s σ H D I ⟨ρ,M,A,rs,rm,lk,a,kvs,e,q⟩
 rcases q with ⟨m,q⟩ | ⟨m,q⟩
 ·obtain ⟨ps,j,pr⟩:=rm a _ m;obtain ⟨o,I'⟩:=I.freeze j;have sb:Stab H (upd H a (.frz o (.dT ps))):=rm.stabPut m;exact h pins s σ _ D I' ⟨ρ,ag M a (.fdc kvs),A,rs.mono sb,rm.put m ⟨o,ps,av,Nq pr fun _ _ z=>⟨z.1,z.2.mono sb⟩⟩,lk.ext (Ext.put m),q⟩
 ·exact h pins s σ H D I ⟨ρ,M,A,rs,rm,lk,q⟩
noncomputable def iU (ta:TEd):TId:=fun ρ M R=>ta ρ M fun x M1 => ∃ a kvs,x = .ref a/\M1 a=some (.fdc kvs)/\R (kvs.map (·.1)) (fun _=>True) M1
theorem sk {ta:TEd} (h:ad ta):bQ (iU ta):=fun ρ M Q Q' i q=>h _ _ _ _ (fun x B ⟨a,ds,e,j,z⟩=>⟨a,ds,e,j,i _ _ _ z⟩) q
theorem ou {K:Frag} {H:Hp}:∀ {kvs:List (D×D)} {es:List Gq},ES (jk K H) kvs es -> ∀ (i:Nat) (e:Gq),es[i]? = some e -> ∃ (kv:D×D) (v:V),kvs[i]? = some kv/\RD K H kv.1 v/\RelV v e.key
 | _,_, .nil,_,_,h=>by simp at h
 | _,_, .cons r t,0,_,h=>by
   simp at h;subst h;obtain ⟨kV,vV,g1,g2,_,_⟩:=r;exact ⟨_,kV,rfl,g1,g2⟩
 | _,_, .cons _ t,i+1,e,h=>by
   obtain ⟨kv,v,h1,h2⟩:=ou t i e (by simpa using h)
   exact ⟨kv,v,by simpa using h1,h2⟩
theorem xV {tg e:Expr} {ta:TEd} (m:ad ta) (he:PE X e (lE X.K ta)):PI X tg e (lI X.K (iU ta)):=by
 intro pins s σ H R I h;obtain ⟨ρ,M,rs,rm,q⟩:=h;have hq:lE X.K ta σ H (fun v H1 => ∃ a kvs B,v = .ref a/\Ext M H B H1/\RM X.K B H1/\B a=some (.fdc kvs) /\ ∀ J,fe X.K H1 (kvs.map (·.1)) (fun _=>True) J->R J H1) :=
  ⟨ρ,M,rs,rm,m _ _ _ _ (fun x B ⟨a,kvs,e,O,U⟩ v H1 Y j rd1=>by
    subst e
    cases Nl.mp rd1
    exact ⟨a,kvs,B,rfl,Y,j,O,fun J ij=>U J H1 Y j ij⟩) q⟩
 refine thn (he pins s σ H _ I hq) fun u s1 ⟨x,H1,F,r1,a,kvs,B,e0,Y,j,O,U⟩ => ?_;subst e0
 cases r1
 obtain ⟨o,ps,Z,pr⟩:=j _ _ O;obtain ⟨g0,ok⟩:=F.hok a _ Z;obtain ⟨cd,dd,sl,es,ep,g1,g2,g3⟩:=md ok pr;obtain ⟨ty,_,BJ⟩:=ig F (.inr ⟨ps, .inr ⟨o,Z⟩⟩);rw [g0] at g1
 cases g1
 have BK:cd = .type "dict" := by
  obtain ⟨o,h1,h2⟩:=ty;rw [g0] at h1;cases h1;exact h2
 subst BK;have lz:kvs.length=es.size:=by have:=bS g3;simpa using this
 refine Dk.it_dict BJ g0 ?_;refine ⟨s1.heap.objs.size,[s1.heap.objs.size],_,_,H1,rfl,F.kept (t':=s1.toks) fun b o e=>h7 _ e,sj (G:=fun H=>H a=some (.frz { cls := .type "dict",dict:=dd,data := .dict es ep,slots:=sl } (.dT ps))/\ES (fun (p:D×D) (q:List Key×V)=>RKeys p.1 q.1/\RD X.K H p.2 q.2) kvs ps) (yl:=fun i x H => ∃ kv,kvs[i]? = some kv/\RD X.K H kv.1 x) a _ (fun H h=>⟨_,h.1⟩) (fun i H h hok ⟨ha,pr'⟩ e he => ?_),⟨G2 _,E1 _ rfl⟩,fun b hb => ?_,U _ ?_⟩
 ·obtain ⟨z0,ok'⟩:=hok a _ ha;obtain ⟨cd,dd,sl',es',ep',z1,_,z3⟩:=md ok' pr';rw [z0] at z1
  cases z1
  obtain ⟨kv,v,y1,y2,y3⟩:=ou z3 i e (by simpa using he)
  exact ⟨v,y3,kv,y1,y2⟩
 ·have e:b=s1.heap.objs.size:=by simpa using hb
  subst e;exact F.fpOk (E3 _) (F.hok.fresh (E3 _))
 ·intro M' H' st rm' _ i;have L:=st.frz _ _ _ Z;have pr':ES (fun (p:D×D) (q:List Key×V)=>RKeys p.1 q.1/\RD X.K H' p.2 q.2) kvs ps:=Nq pr fun _ _ z=>⟨z.1,z.2.mono st⟩;rw [r4,lz];refine ⟨fun hi=>⟨hi,L,pr'⟩,fun hi=>⟨⟨hi,L,pr'⟩,fun x H'' y => ?_⟩⟩;obtain ⟨e,kv,y1,y2⟩:=y;subst e;exact ⟨.inl rfl,kv.1,by rw [Eo,y1];rfl,y2⟩
end
end Mi
end
end L2
namespace L2
open PySem PySem.Spec PyProof.Rows
namespace Mi
end Mi
end L2
namespace L2
namespace Mi
open PySem PySem.Spec PyProof.Rows
end Mi
end L2
namespace L2
open PySem PySem.Spec PyProof.Rows
namespace Mi
end Mi
end L2
namespace L2
namespace Mi
open PySem PySem.Spec PyProof.Rows
section
section
variable {X:Cx}
noncomputable def v7 (neg:Bool):R2d:=fun k x M Q => ∃ a t kvs,x = .ref a/\M a=some (.dct t kvs)/\eA t k=true/\Q (.bl (if neg then !(dget kvs k).isSome else (dget kvs k).isSome)) M
theorem v8 {neg:Bool}:aR (v7 neg):=fun _ _ _ _ _ h ⟨a,t,kvs,j,z,B,q⟩=>⟨a,t,kvs,j,z,B,h _ _ q⟩
theorem zQ {K:Frag} {M:Mem} {H:Hp} {a:Addr} {t:Bool} {kvs:List (D×D)} {k:D} {v:V} (rm:RM K M H) (e:M a=some (.dct t kvs)) (ok:eA t k=true) (rk:RD K H k v):∃ o,DGet H a v o/\o.isSome=(dget kvs k).isSome:=by
 obtain ⟨o,g,g1,g2⟩:=jd rm e ok rk;refine ⟨o,g, ?_⟩
 cases h:dget kvs k with
 | none=>rw [g2 h];rfl
 | some d=>obtain ⟨w,rfl,_⟩:=g1 d h;rfl
theorem sn (j:X.A.units+1 < Gv):OpR X (FL .NotIn) (l2 X.K (v7 true)):=by
 intro pins s σ H y x u v Q I ry rx h;obtain ⟨dk,dx,M,rm,rk,rd,a,t,kvs,rfl,e,ok,q⟩:=h
 cases Nl.mp rd
 cases rx
 obtain ⟨o,g,ho⟩:=zQ rm e ok rk;exact wP j I g ry fun s' I'=>⟨.bl (!o.isSome),H,I',rfl,by rw [ho];exact q _ H Ext.refl rm (Np.mpr rfl)⟩
end
end
end Mi
end L2
namespace L2
open PySem PySem.Spec PyProof.Rows
section
noncomputable def tD1 (tk tv:TE):TE:=fun σ H Q => ∀ p,H p=none->kH [(tk,tv)] σ (upd H p (.dT [])) fun ps H2 => ∃ x y,ps=[(x,y)]/\H2 p=some (.dT []) /\ ∃ b k,x = .ref b/\H2 b=some (.tup (k.map kV))/\Q (.ref p) (upd H2 p (.dT [(k,y)]))
theorem B2 {X:Cx} {pos:Pos} {ke ve:Expr} {tk tv:TE} (F:X.A.units+1 < Gv) (G:PE X ke tk) (J:PE X ve tv):PE X (.Dict [some ke] [ve] pos) (tD1 tk tv):=by
 intro pins s σ H Q I q;have L:=I.hok.fresh (E3 s.heap.objs.size);have O:=I.laid (a:=s.heap.objs.size) (o := .dT []) (h':=s.heap.push { cls := .type "dict",data := .dict #[] }) (t':=s.toks) (fun _ _ q=>h7 _ q) (E3 _) (gE s.heap I.big);have pp:PPs X pos [some ke] [ve] [(tk,tv)]:=u8 G J wQ;refine wpAny_Dict_any rfl rfl (by simp) (by simp) (thn (pp pins _ σ _ (fun ps H2 => ∃ x y,ps=[(x,y)]/\H2 s.heap.objs.size=some (.dT []) /\ ∃ b k,x = .ref b/\H2 b=some (.tup (k.map kV))/\Q (.ref s.heap.objs.size) (upd H2 s.heap.objs.size (.dT [(k,y)]))) O ?_) fun ws s2 ⟨ps,H2,j,rel,x,y,ep,e,b,k,ex,eb,U⟩ => ?_)
 ·exact q _ L
 ·subst ep ex
  cases rel with
  | @cons _ w _ _ h t =>
   cases t
   obtain ⟨Y,Z⟩:=w;obtain ⟨h1,h2⟩:=h
   cases (show Y=Ff b from h1)
   obtain ⟨z,hd,xs,rk,dd⟩:=kw j.hok e
   cases rk
   unfold storeAll;rw [GB];refine gV (gV (Ll (hsz:=by simp) (show (Hz (aD X.prog X.w)).room X.A from Nat.lt_of_succ_lt F) (dm j.hok eb) dd fun h' dd' hs => ?_))
   refine q7 (q7 ⟨.ref s.heap.objs.size,_, ?_,rfl,U⟩);obtain ⟨qo,es,ep,B,g2,g3,g4,_,g5⟩:=dd';have rel':KT H2 [(k,y)] (storedH [] k b Z):=KT.put (kvs := []) (xs := []) .nil k eb h2;refine fG j (by rw [e];exact Gu) hs ⟨qo,B⟩ ⟨by rw [D1];simp,hd,_,rel'.keeps fun c ys ec => ?_,qo,es,ep,B,g2,g3,g4,g5⟩
   rw [aj (oR ec e (fun z=>nomatch z))];exact ec
theorem so {X:Cx}:CallR X (.builtin "len") (fun xs H Q => ∃ a kvs,xs=[.ref a]/\H a=some (.dT kvs)/\Q (.int kvs.length) H):=by
 intro pins s σ H xs us Q I r h;obtain ⟨a,kvs,rfl,e,q⟩:=h;obtain ⟨u,rfl,rx⟩:=cB r
 cases rx
 obtain ⟨z,hd,ys,rel,o,es,ep,ho,G,j,he,J,O⟩:=kw I.hok e;have hlen:es.size=kvs.length:=by
  rw [FZ rel, <- El,he,r4]
 have B:s.TypeIs (.ref a) "dict" := ⟨_,ho,G.1⟩;have mt:MeetsIn X.prog X.w (G8.«dict.__len__» ⟨[.ref a],[]⟩) (fun _ R s=>s.heap.get? a=some o/\R (.ok (.ret (.int kvs.length s.toks))) { s with toks:=s.toks+1 }) := .of_wp fun A R s ⟨ho,h⟩=>by
  show Ec _ _ (dictSize a >>= _) _ _ s;unfold dictSize;refine gV (gV (wpAny_dictEntries ho j (q7 ?_)));show Ec _ _ (Builtin.Dict.pendingCount a >>= _) _ _ s;refine gV (wpAny_pendingCount_other hd (wpAny_ret_mkInt ?_));rw [Nat.add_zero,hlen];exact h
 have L:=dM;rw [D1] at z;refine Calls.call_function_entry kind_len plain_len entry_len (args_len1 _) ?_;unfold G8.«len»;refine gV (m:=oneArg "len" _) (q7 ?_);refine gV (m:=callSpecial? (.ref a) (Fc "__len__")) (EG (name:=Fc "__len__") B MQ (K0 MQ B F.entry_dict_len (F.args_dict_len_1 _) mt ⟨ho, ?_⟩));show Ec _ _ _ _ _ { s with toks:=s.toks+1 }
 refine gV (Fh (q7 ?_));refine gV (Jv ?_);show Ec _ _ (if ((kvs.length:Nat):Int) < 0 then _ else _) _ _ _
 rw [if_neg (by omega)]
 show Ec _ _ (if ((kvs.length:Nat):Int)≥2 ^ 63 then _ else _) _ _ _
 rw [if_neg (by omega)]
 exact gV (wpAny_mkInt (q7 ⟨_,rfl,⟨.int kvs.length,H,I.tok _,⟨_,rfl⟩,q⟩⟩))
namespace Mi
section
variable {X:Cx}
noncomputable def pW:RAd:=fun xs M Q => ∃ a kvs,xs=[.ref a]/\M a=some (.dct true kvs)/\Q (.int kvs.length) M
theorem kf:aM pW:=fun _ _ _ _ h ⟨a,kvs,e,l,q⟩=>⟨a,kvs,e,l,h _ _ q⟩
theorem nJ:CallR X (.builtin "len") (lR X.K pW):=by
 refine CallR.of so fun vs H Q h => ?_;obtain ⟨ds,M,rm,rs,a,kvs,rfl,e,q⟩:=h;obtain ⟨v,rfl,r⟩:=rs.one
 cases Nl.mp r
 obtain ⟨ps,j,pr⟩:=rm _ _ e;exact ⟨a,ps,rfl,j,by rw [<- FZ pr];exact q _ H Ext.refl rm (Nk.mpr rfl)⟩
noncomputable def wD1 (tk tv:TEd):TEd:=fun ρ M Q => ∀ p,M p=none->tk ρ (ag M p (.dct true [])) fun k M1=>tv ρ M1 fun v M2=>bu k=true/\M2 p=some (.dct true [])/\Q (.ref p) (ag M2 p (.dct true [(k,v)]))
theorem xW {tk tv:TEd} (j:ad tk) (z:ad tv):ad (wD1 tk tv):=fun ρ M Q Q' i q p n=>j _ _ _ _ (fun k G B=>z _ _ _ _ (fun v M2 ⟨a,b,F⟩=>⟨a,b,i _ _ F⟩) B) (q p n)
theorem B3 {ke ve:Expr} {tk tv:TEd} {pos:Pos} (hu:X.A.units+1 < Gv) (mk:ad tk) (mv:ad tv) (hk:PE X ke (lE X.K tk)) (hv:PE X ve (lE X.K tv)):PE X (.Dict [some ke] [ve] pos) (lE X.K (wD1 tk tv)):=by
 refine PE.imp (B2 hu hk hv) fun σ H Q h => ?_;obtain ⟨ρ,M,rs,rm,q⟩:=h;intro p n;have x0:Ext M H (ag M p (.dct true [])) (upd H p (.dT [])):=Ext.lay n;have B:RM X.K (ag M p (.dct true [])) (upd H p (.dT [])):=rm.lay n ⟨[],av, .nil⟩;have F:=rs.mono (x0.stab rm);refine ⟨ρ,_,F,B,mk _ _ _ _ (fun k M1 q1 v1 H1 U G L => ?_) (q p (rm.out n))⟩;refine ⟨ρ,M1,F.mono (U.stab B),G,mv _ _ _ _ (fun v M2 ⟨ok,em,q2⟩ v2 H2 Y j O => ?_) q1⟩;have J:=L.mono (Y.stab G);obtain ⟨ps,hp,pr⟩:=j _ _ em
 cases pr
 obtain ⟨kq,z⟩:=fH ok
 cases k <;> first
  | exact z.elim
  | (obtain ⟨b,us,rfl,Z,ru⟩:=Nz (fI ok) J
     rw [dr z ru] at Z;refine ⟨_,_,rfl,hp,b,kq,rfl,Z, ?_⟩;have st:Stab H2 (upd H2 p (.dT [(kq,v2)])):=j.stabPut em;exact q2 _ _ ((x0.trans (U.trans Y)).trans (Ext.put em)) (j.put (o := .dct true [(_,v)]) em ⟨_,av, .cons ⟨z,O.mono st⟩ .nil⟩) (Nl.mpr rfl))
end
end Mi
end
end L2
namespace L2
namespace It
open PySem PySem.Spec PyProof.Rows
end It
open PySem PySem.Spec PyProof.Rows
namespace Mi
end Mi
end L2
namespace L2
open PySem PySem.Spec PyProof.Rows
namespace Mi
end Mi
end L2
namespace L2
open PySem PySem.Spec PyProof.Rows
namespace Mi
open L2.Srt
end Mi
end L2
namespace L2
open PySem PySem.Spec PyProof.Rows
end L2
namespace L2
namespace Mi
open PySem PySem.Spec PyProof.Rows
end Mi
end L2
namespace L2
open PySem PySem.Spec PyProof.Rows
namespace Mi
end Mi
end L2
namespace L2
namespace Mi
open PySem PySem.Spec PyProof.Rows
section
mutual
noncomputable def GV (K:Frag):D->h6->Prop
 | .int i,v => ∃ t,v = .int i t
 | .str x,v => ∃ t,v = .str x t
 | .tup ds,v => ∃ a o its n,v = .ref a/\K.lookup a=some o/\o.cls = .type "tuple" /\ o.data = .seq its n/\its.size<=DY/\fk ds=false/\GVs K ds its.toList
 | _,_=>False
noncomputable def GVs (K:Frag):List D->List h6->Prop
 | [],us=>us=[]
 | d::ds,us => ∃ u r,us=u::r/\GV K d u/\GVs K ds r
end
end
section
inductive BOp where | add | sub | mul | fdiv | mod | pow
inductive COp where | eq | ne | lt | le | gt | ge | ninD
inductive BF where | len | abs | max2 | min2 | int | list | tuple | all | any | dict | sortk | lenT
inductive MF where | append | extend
inductive MF0 where | clear
mutual
inductive MG where
 | name (i:Nat)
 | tup (gs:MGs)
inductive MGs where
 | nil
 | cons (g:MG) (r:MGs)
end
mutual
inductive ME where
 | var (i:Nat)
 | int (i:Int)
 | bl (b:Bool)
 | non
 | bin (op:BOp) (a b:ME)
 | neg (a:ME)
 | cmp (op:COp) (a b:ME)
 | and (es:MEs)
 | or (es:MEs)
 | not (a:ME)
 | ite (c:MT) (a b:ME)
 | tup (es:MEs)
 | lst (es:MEs)
 | ix (a b:ME)
 | sl (a:ME) (lo hi:MO)
 | call (f:Nat) (es:MEs)
 | blt (f:BF) (es:MEs)
 | isin (a:ME) (T:String)
 | dnew (t:Bool)
 | d1 (k v:ME)
 | dget (o k x:ME)
 | meth (m:MF) (o a:ME)
 | comp (fr:List (Option Nat)) (N:List Str) (c:MC)
inductive MEs where
 | nil
 | cons (e:ME) (r:MEs)
inductive MO where
 | none
 | some (e:ME)
inductive MT where
 | tru (e:ME)
 | cmp (op:COp) (a b:ME)
 | and (ts:MTs)
 | or (ts:MTs)
 | not (t:MT)
inductive MTs where
 | nil
 | cons (t:MT) (r:MTs)
inductive MI where
 | seq (e:ME)
 | rng1 (a:ME)
 | rng2 (a b:ME)
 | zip (a b:ME)
 | enum (a:ME)
 | keys (a:ME)
inductive MC where
 | last (src:MI) (g:MG) (ifs:MTs) (elt:ME)
 | more (src:MI) (g:MG) (ifs:MTs) (rest:MC)
end
mutual
inductive MS where
 | asg (g:MG) (e:ME)
 | par (i j:Nat) (a b:ME)
 | put (o i e:ME)
 | drop (e:ME)
 | ret (e:ME)
 | ite (c:MT) (a b:MSs)
 | for (g:MG) (src:MI) (b:MSs)
 | while (c:MT) (b:MSs)
 | frz (i:Nat) (s:MS)
 | pass | brk | cnt
inductive MSs where
 | nil
 | cons (s:MS) (r:MSs)
end
noncomputable def opB:BOp->R2d
 | .add=>eY | .sub=>kR | .mul=>eB | .fdiv=>kx | .mod=>gG | .pow=>pB
noncomputable def opC:COp->R2d
 | .eq=>wEq | .ne=>wNe | .lt=>wLt | .le=>wLe | .gt=>wGt | .ge=>wGe| .ninD=>v7 true
noncomputable def opF:BF->RAd
 | .len=>eZ | .lenT=>pW | .abs=>kW | .max2=>ky | .min2=>kz | .int=>kX | .list=>pG | .tuple=>ir| .all=>uW | .any=>uX| .dict=>pU | .sortk=>mq
noncomputable def opM:MF->D->List D->Mem->QD->Prop
 | .append=>je | .extend=>jf
noncomputable def zR:MF0->D->List D->Mem->QD->Prop
 | .clear=>zC
theorem mz:∀ o,aR (opB o)
 | .add=>ug | .sub=>uh | .mul=>ui | .fdiv=>r6 | .mod=>uj | .pow=>uk
theorem eL:∀ o,aR (opC o)
 | .eq=>wZ | .ne=>xa | .lt=>xf | .le=>xg | .gt=>xh | .ge=>xi| .ninD=>v8
theorem v9:∀ o,aM (opF o)
 | .len=>kU | .lenT=>kf | .abs=>kY | .max2=>jL | .min2=>jM | .int=>kZ | .list=>jN | .tuple=>iu| .all=>lD | .any=>lF| .dict=>kb | .sortk=>iT
theorem va:∀ o,iD (opM o)
 | .append=>gv | .extend=>gw
noncomputable abbrev Phi:=Nat->RAd
mutual
noncomputable def bG:MG->BT
 | .name i=>br i
 | .tup gs=>jg (bGs gs)
noncomputable def bGs:MGs->BTs
 | .nil=>eF
 | .cons g r=>bB (bG g) (bGs r)
end
mutual
noncomputable def wE (Φ:Phi):ME->TEd
 | .var i=>bo i
 | .int i=>wC (.int i)
 | .bl b=>wC (.bl b)
 | .non=>wC .non
 | .bin op a b=>wOp (opB op) (wE Φ a) (wE Φ b)
 | .neg a=>wUn pC (wE Φ a)
 | .cmp op a b=>wOp (opC op) (wE Φ a) (wE Φ b)
 | .and es=>wAnds Φ es
 | .or es=>wOrs Φ es
 | .not a=>iA (wE Φ a)
 | .ite c a b=>wIf (wT Φ c) (wE Φ a) (wE Φ b)
 | .tup es=>wAr kN (wA Φ es)
 | .lst es=>wAr kP (wA Φ es)
 | .ix a b=>wOp wIx (wE Φ a) (wE Φ b)
 | .sl a lo hi=>wSl (wE Φ a) (wO Φ lo) (wO Φ hi)
 | .call f es=>wAr (Φ f) (wA Φ es)
 | .blt f es=>wAr (opF f) (wA Φ es)
 | .isin a T=>iC T (wE Φ a)
 | .dnew t=>iK t
 | .d1 k v=>wD1 (wE Φ k) (wE Φ v)
 | .dget o k x=>iP (wE Φ o) (wE Φ k) (wE Φ x)
 | .meth m o a=>wBM (opM m) (wE Φ o) (aW (wE Φ a) bU)
 | .comp fr _ c=>wCmp Φ fr c
noncomputable def wA (Φ:Phi):MEs->TAd
 | .nil=>bU
 | .cons e r=>aW (wE Φ e) (wA Φ r)
noncomputable def wAnds (Φ:Phi):MEs->TEd
 | .nil=>fun _ _ _=>False
 | .cons e .nil=>wE Φ e
 | .cons e (.cons f r)=>iz (wE Φ e) (wAnds Φ (.cons f r))
noncomputable def wOrs (Φ:Phi):MEs->TEd
 | .nil=>fun _ _ _=>False
 | .cons e .nil=>wE Φ e
 | .cons e (.cons f r)=>lh (wE Φ e) (wOrs Φ (.cons f r))
noncomputable def wO (Φ:Phi):MO->TOd
 | .none=>dO
 | .some e=>iB (wE Φ e)
noncomputable def wT (Φ:Phi):MT->TTd
 | .tru e=>lf (wE Φ e)
 | .cmp op a b=>eX (wOp (opC op) (wE Φ a) (wE Φ b))
 | .and ts=>wAndTs Φ ts
 | .or ts=>wOrTs Φ ts
 | .not t=>iw (wT Φ t)
noncomputable def wAndTs (Φ:Phi):MTs->TTd
 | .nil=>fun _ _ _=>False
 | .cons e .nil=>wT Φ e
 | .cons e (.cons f r)=>iy (wT Φ e) (wAndTs Φ (.cons f r))
noncomputable def wOrTs (Φ:Phi):MTs->TTd
 | .nil=>fun _ _ _=>False
 | .cons e .nil=>wT Φ e
 | .cons e (.cons f r)=>lg (wT Φ e) (wOrTs Φ (.cons f r))
noncomputable def wTl (Φ:Phi):MTs->List TTd
 | .nil => []
 | .cons t r=>wT Φ t::wTl Φ r
noncomputable def wI (Φ:Phi):MI->TId
 | .seq e=>ll (wE Φ e)
 | .rng1 a=>iE (aW (wE Φ a) bU)
 | .rng2 a b=>iF (aW (wE Φ a) (aW (wE Φ b) bU))
 | .zip a b=>lm (wE Φ a) (wE Φ b)
 | .enum a=>iG (wE Φ a)
 | .keys a=>iU (wE Φ a)
noncomputable def wCl (Φ:Phi):MC->TCd
 | .last src g ifs elt=>da (wI Φ src) (bG g) (bj (wTl Φ ifs) (bZ (wE Φ elt)))
 | .more src g ifs rest=>da (wI Φ src) (bG g) (bj (wTl Φ ifs) (wCl Φ rest))
noncomputable def wCmp (Φ:Phi) (fr:List (Option Nat)):MC->TEd
 | .last src g ifs elt=>fM fr (wI Φ src) (bG g) (bj (wTl Φ ifs) (bZ (wE Φ elt)))
 | .more src g ifs rest=>fM fr (wI Φ src) (bG g) (bj (wTl Φ ifs) (wCl Φ rest))
end
mutual
noncomputable def wS (Φ:Phi):MS->TSd
 | .asg g e=>gJ (wE Φ e) (bG g)
 | .par i j a b=>lu (aW (wE Φ a) (aW (wE Φ b) bU)) (bB (br i) (bB (br j) eF))
 | .put o i e=>lB (wE Φ e) (wE Φ o) (wE Φ i)
 | .drop e=>iJ (wE Φ e)
 | .ret e=>lr (wE Φ e)
 | .ite c a b=>sIf (wT Φ c) (wSs Φ a) (wSs Φ b)
 | .for g src b=>lw (wI Φ src) (bG g) (wSs Φ b)
 | .while c b=>fi (wT Φ c) (wSs Φ b)
 | .frz i s=>pV i (wS Φ s)
 | .pass=>fN
 | .brk=>fh
 | .cnt=>iI
noncomputable def wSs (Φ:Phi):MSs->TSd
 | .nil=>fN
 | .cons s r=>lq (wS Φ s) (wSs Φ r)
end
section
variable {Φ:Phi} (hΦ:∀ f,aM (Φ f))
include hΦ
mutual
theorem mE:∀ m,ad (wE Φ m)
 | .var _=>ud
 | .int _=>kM
 | .bl _=>kM
 | .non=>kM
 | .bin op a b=>dN (mz op) (mE a) (mE b)
 | .neg a=>wW kS (mE a)
 | .cmp op a b=>dN (eL op) (mE a) (mE b)
 | .and es=>mAnds es
 | .or es=>mOrs es
 | .not a=>rl (mE a)
 | .ite c a b=>xr (mT c) (mE a) (mE b)
 | .tup es=>fJ qX (mA es)
 | .lst es=>fJ qY (mA es)
 | .ix a b=>dN nU (mE a) (mE b)
 | .sl a lo hi=>xv (mE a) (mO lo) (mO hi)
 | .call f es=>fJ (hΦ f) (mA es)
 | .blt f es=>fJ (v9 f) (mA es)
 | .isin a T=>rq (mE a)
 | .dnew _=>rP
 | .d1 k v=>xW (mE k) (mE v)
 | .dget o k x=>sf (mE o) (mE k) (mE x)
 | .meth m o a=>xA (va m) (mE o) (ar (mE a) aw)
 | .comp fr _ c=>mCmp fr c
theorem mA:∀ m,aV (wA Φ m)
 | .nil=>aw
 | .cons e r=>ar (mE e) (mA r)
theorem mAnds:∀ m,ad (wAnds Φ m)
 | .nil=>fun _ _ _ _ _ q=>q.elim
 | .cons e .nil=>mE e
 | .cons e (.cons f r)=>rj (mE e) (mAnds (.cons f r))
theorem mOrs:∀ m,ad (wOrs Φ m)
 | .nil=>fun _ _ _ _ _ q=>q.elim
 | .cons e .nil=>mE e
 | .cons e (.cons f r)=>uD (mE e) (mOrs (.cons f r))
theorem mO:∀ m,eE (wO Φ m)
 | .none=>nC
 | .some e=>rp (mE e)
theorem mT:∀ m,aF (wT Φ m)
 | .tru e=>uB (mE e)
 | .cmp op a b=>ue (dN (eL op) (mE a) (mE b))
 | .and ts=>mAndTs ts
 | .or ts=>mOrTs ts
 | .not t=>rg (mT t)
theorem mAndTs:∀ m,aF (wAndTs Φ m)
 | .nil=>fun _ _ _ _ _ q=>q.elim
 | .cons e .nil=>mT e
 | .cons e (.cons f r)=>rh (mT e) (mAndTs (.cons f r))
theorem mOrTs:∀ m,aF (wOrTs Φ m)
 | .nil=>fun _ _ _ _ _ q=>q.elim
 | .cons e .nil=>mT e
 | .cons e (.cons f r)=>uC (mT e) (mOrTs (.cons f r))
theorem mTl:∀ m, ∀ t∈wTl Φ m,aF t
 | .nil=>by rw [wTl];intro t j;simp at j
 | .cons t r=>by
  rw [wTl];intro t' j
  rcases Eb.mp j with e | e
  ·rw [e];exact mT t
  ·exact mTl r t' e
theorem mI:∀ m,bQ (wI Φ m)
 | .seq e=>uI (mE e)
 | .rng1 a=>rE (ar (mE a) aw)
 | .rng2 a b=>rF (ar (mE a) (ar (mE b) aw))
 | .zip a b=>uJ (mE a) (mE b)
 | .enum a=>rG (mE a)
 | .keys a=>sk (mE a)
theorem mCl:∀ m,bR (wCl Φ m)
 | .last src g ifs elt=>gx (mI src) (aK (bw (mE elt)) (mTl ifs))
 | .more src g ifs rest=>gx (mI src) (aK (mCl rest) (mTl ifs))
theorem mCmp (fr:List (Option Nat)):∀ m,ad (wCmp Φ fr m)
 | .last src g ifs elt=>jO (mI src) (aK (bw (mE elt)) (mTl ifs))
 | .more src g ifs rest=>jO (mI src) (aK (mCl rest) (mTl ifs))
end
mutual
theorem mS:∀ m,aI (wS Φ m)
 | .asg g e=>uM (mE hΦ e)
 | .par i j a b=>uN (ar (mE hΦ a) (ar (mE hΦ b) aw))
 | .put o i e=>uT (mE hΦ e) (mE hΦ o) (mE hΦ i)
 | .drop e=>rK (mE hΦ e)
 | .ret e=>uK (mE hΦ e)
 | .ite c a b=>uL (mT hΦ c) (mSs a) (mSs b)
 | .for g src b=>uO (mI hΦ src) (mSs b)
 | .while c b=>pJ (mT hΦ c) (mSs b)
 | .frz i s=>v6 (mS s)
 | .pass=>jQ
 | .brk=>pI
 | .cnt=>rH
theorem mSs:∀ m,aI (wSs Φ m)
 | .nil=>jQ
 | .cons s r=>rJ (mS s) (mSs r)
end
end
end
section
structure Ctx where
 Γ:List Str
 N:List Str
 sc:Scope
 fn:List Str
 cs:List (Str×D)
noncomputable def glB (sc:Scope) (x:Str):Bool:=sc.names.lookup x==some .globalImplicit
noncomputable def vc (sc:Scope) (x:Str):Bool:=sc.names.lookup x==some .local || sc.names.lookup x==some .cell || sc.names.lookup x==some .free
noncomputable def vd (sc:Scope) (x:Str):Bool:=sc.names.lookup x==some .local || sc.names.lookup x==some .cell
noncomputable def aN:Expr->Bool
 | .Starred .. => false
 | _=>true
noncomputable def mC:Expr->Bool
 | .Name .. | .Call .. | .Subscript .. | .Constant .. | .BinOp .. | .Attribute .. => true
 | _=>false
noncomputable def dR:Expr->Bool
 | .Slice .. => false
 | _=>true
noncomputable def fw:Expr->Bool
 | .ListComp .. | .SetComp .. | .DictComp .. => false
 | _=>true
noncomputable def iV:Expr->Bool
 | .Set .. => false
 | _=>true
noncomputable def fX:Expr->Bool
 | .Call .. => false
 | _=>true
noncomputable def opO:BOp->Lr
 | .add => .Add | .sub => .Sub | .mul => .Mult | .fdiv => .FloorDiv | .mod => .Mod | .pow => .Pow
noncomputable def vf:COp->CmpOp
 | .eq => .Eq | .ne => .NotEq | .lt => .Lt | .le => .LtE | .gt => .Gt | .ge => .GtE| .ninD => .NotIn
noncomputable def mD:BF->Str
 | .len => "len" | .lenT => "len" | .abs => "abs" | .max2 => "max" | .min2 => "min" | .int => "int" | .list => "list" | .tuple => "tuple"| .all => "all" | .any => "any"| .dict => "dict" | .sortk => "sorted"
noncomputable def zS:MF->Str
 | .append => "append" | .extend => "extend"
noncomputable def bltNames:List Str := ["len", "abs", "max", "min", "int", "list", "tuple", "sum", "isinstance", "range", "bool", "str", "dict", "zip", "enumerate", "reversed", "sorted", "all", "any", "set"]
noncomputable def gO (sc osc:Scope):Scope :=
 { sc with names:=sc.names.map fun (n,k)=>if (k == .free&&osc.kind == .function&&osc.names.lookup n==some .cell) then (n, .cell) else (n,k) }
theorem nK (sc:Scope) (env:Env):relabel sc env=gO sc env.scope:=rfl
noncomputable def vg (sc osc:Scope) (oN N':List Str) (fr:List (Option Nat)):Bool :=
 decide (sc.kind = .function)&&decide ((sc.names.map (·.1)).Nodup)&&decide (N'.Nodup)
  && sc.names.all (fun x => !(x.2 == .free) || osc.names.lookup x.1==some .cell || osc.names.lookup x.1==some .free)
  && decide (fr.length=N'.length)
  && (Ei N'.length).all fun i=>match fr[i]?,N'[i]? with
   | some (some j),some x=>decide (oN[j]? = some x)&&sc.names.any (fun y=>decide (y=(x,EE)))
   | _,_=>true
theorem pk {p:Prop} [d:Decidable p] {t:p->Bool} (h:dite p t (fun _=>false)=true):∃ c,t c=true:=by
 cases d with
 | isTrue c=>exact ⟨c,h⟩
 | isFalse c=>cases h
noncomputable def eM (e:Expr) (f:Str->Pos->Bool):Bool:=if h:e.ctorIdx=23 then @Nc.elim (fun _=>Bool) e h f else false
@[elab_as_elim]
theorem fY {P:Expr->Prop} (e:Expr) {f:Str->Pos->Bool} (h:eM e f=true) (k:∀ a b,f a b=true->P (.Name a b)):P e :=
 (pk h).elim fun c => @Nc.elim (fun e => ∀ c, @Nc.elim (fun _=>Bool) e c f=true->P e) e c (fun a b _ h=>k a b h) c
noncomputable def dG (e:Expr) (f:Const->Nat->Pos->Bool):Bool:=if h:e.ctorIdx=19 then @L8.elim (fun _=>Bool) e h f else false
@[elab_as_elim]
theorem fy {P:Expr->Prop} (e:Expr) {f:Const->Nat->Pos->Bool} (h:dG e f=true) (k:∀ a b c,f a b c=true->P (.Constant a b c)):P e :=
 (pk h).elim fun c => @L8.elim (fun e => ∀ c, @L8.elim (fun _=>Bool) e c f=true->P e) e c (fun a b c _ h=>k a b c h) c
noncomputable def sr (e:Expr) (f:Expr->Lr->Expr->Pos->Bool):Bool:=if h:e.ctorIdx=2 then @N6.elim (fun _=>Bool) e h f else false
@[elab_as_elim]
theorem zT {P:Expr->Prop} (e:Expr) {f:Expr->Lr->Expr->Pos->Bool} (h:sr e f=true) (k:∀ a b c d,f a b c d=true->P (.BinOp a b c d)):P e :=
 (pk h).elim fun c => @N6.elim (fun e => ∀ c, @N6.elim (fun _=>Bool) e c f=true->P e) e c (fun a b c d _ h=>k a b c d h) c
noncomputable def eN (e:Expr) (f:UnaryOp->Expr->Pos->Bool):Bool:=if h:e.ctorIdx=3 then @LL.elim (fun _=>Bool) e h f else false
@[elab_as_elim]
theorem gP {P:Expr->Prop} (e:Expr) {f:UnaryOp->Expr->Pos->Bool} (h:eN e f=true) (k:∀ a b c,f a b c=true->P (.UnaryOp a b c)):P e :=
 (pk h).elim fun c => @LL.elim (fun e => ∀ c, @LL.elim (fun _=>Bool) e c f=true->P e) e c (fun a b c _ h=>k a b c h) c
noncomputable def gQ (e:Expr) (f:Expr->List CmpOp->List Expr->Pos->Bool):Bool:=if h:e.ctorIdx=15 then @LM.elim (fun _=>Bool) e h f else false
@[elab_as_elim]
theorem mF {P:Expr->Prop} (e:Expr) {f:Expr->List CmpOp->List Expr->Pos->Bool} (h:gQ e f=true) (k:∀ a b c d,f a b c d=true->P (.Compare a b c d)):P e :=
 (pk h).elim fun c => @LM.elim (fun e => ∀ c, @LM.elim (fun _=>Bool) e c f=true->P e) e c (fun a b c d _ h=>k a b c d h) c
noncomputable def dS (e:Expr) (f:BoolOp->List Expr->Pos->Bool):Bool:=if h:e.ctorIdx=0 then @My.elim (fun _=>Bool) e h f else false
@[elab_as_elim]
theorem fZ {P:Expr->Prop} (e:Expr) {f:BoolOp->List Expr->Pos->Bool} (h:dS e f=true) (k:∀ a b c,f a b c=true->P (.BoolOp a b c)):P e :=
 (pk h).elim fun c => @My.elim (fun e => ∀ c, @My.elim (fun _=>Bool) e c f=true->P e) e c (fun a b c _ h=>k a b c h) c
noncomputable def su (e:Expr) (f:Expr->Expr->Expr->Pos->Bool):Bool:=if h:e.ctorIdx=5 then @N7.elim (fun _=>Bool) e h f else false
@[elab_as_elim]
theorem zU {P:Expr->Prop} (e:Expr) {f:Expr->Expr->Expr->Pos->Bool} (h:su e f=true) (k:∀ a b c d,f a b c d=true->P (.IfExp a b c d)):P e :=
 (pk h).elim fun c => @N7.elim (fun e => ∀ c, @N7.elim (fun _=>Bool) e c f=true->P e) e c (fun a b c d _ h=>k a b c d h) c
noncomputable def dy (e:Expr) (f:List Expr->Nat->Pos->Bool):Bool:=if h:e.ctorIdx=25 then @N8.elim (fun _=>Bool) e h f else false
@[elab_as_elim]
theorem dU {P:Expr->Prop} (e:Expr) {f:List Expr->Nat->Pos->Bool} (h:dy e f=true) (k:∀ a b c,f a b c=true->P (.Tuple a b c)):P e :=
 (pk h).elim fun c => @N8.elim (fun e => ∀ c, @N8.elim (fun _=>Bool) e c f=true->P e) e c (fun a b c _ h=>k a b c h) c
noncomputable def wb (e:Expr) (f:List Expr->Pos->Bool):Bool:=if h:e.ctorIdx=24 then @Nf.elim (fun _=>Bool) e h f else false
@[elab_as_elim]
theorem B4 {P:Expr->Prop} (e:Expr) {f:List Expr->Pos->Bool} (h:wb e f=true) (k:∀ a b,f a b=true->P (.List a b)):P e :=
 (pk h).elim fun c => @Nf.elim (fun e => ∀ c, @Nf.elim (fun _=>Bool) e c f=true->P e) e c (fun a b _ h=>k a b h) c
noncomputable def cT (e:Expr) (f:Expr->Expr->Pos->Bool):Bool:=if h:e.ctorIdx=21 then @KD.elim (fun _=>Bool) e h f else false
@[elab_as_elim]
theorem eO {P:Expr->Prop} (e:Expr) {f:Expr->Expr->Pos->Bool} (h:cT e f=true) (k:∀ a b c,f a b c=true->P (.Subscript a b c)):P e :=
 (pk h).elim fun c => @KD.elim (fun e => ∀ c, @KD.elim (fun _=>Bool) e c f=true->P e) e c (fun a b c _ h=>k a b c h) c
noncomputable def pX (e:Expr) (f:Expr->List Expr->List JY->Pos->Bool):Bool:=if h:e.ctorIdx=16 then @Ng.elim (fun _=>Bool) e h f else false
@[elab_as_elim]
theorem wc {P:Expr->Prop} (e:Expr) {f:Expr->List Expr->List JY->Pos->Bool} (h:pX e f=true) (k:∀ a b c d,f a b c d=true->P (.Call a b c d)):P e :=
 (pk h).elim fun c => @Ng.elim (fun e => ∀ c, @Ng.elim (fun _=>Bool) e c f=true->P e) e c (fun a b c d _ h=>k a b c d h) c
noncomputable def iW (e:Expr) (f:Expr->Str->Pos->Bool):Bool:=if h:e.ctorIdx=20 then @KG.elim (fun _=>Bool) e h f else false
@[elab_as_elim]
theorem pY {P:Expr->Prop} (e:Expr) {f:Expr->Str->Pos->Bool} (h:iW e f=true) (k:∀ a b c,f a b c=true->P (.Attribute a b c)):P e :=
 (pk h).elim fun c => @KG.elim (fun e => ∀ c, @KG.elim (fun _=>Bool) e c f=true->P e) e c (fun a b c _ h=>k a b c h) c
noncomputable def sv (e:Expr) (f:Option Expr->Option Expr->Option Expr->Pos->Bool):Bool:=if h:e.ctorIdx=26 then @N9.elim (fun _=>Bool) e h f else false
@[elab_as_elim]
theorem zV {P:Expr->Prop} (e:Expr) {f:Option Expr->Option Expr->Option Expr->Pos->Bool} (h:sv e f=true) (k:∀ a b c d,f a b c d=true->P (.Slice a b c d)):P e :=
 (pk h).elim fun c => @N9.elim (fun e => ∀ c, @N9.elim (fun _=>Bool) e c f=true->P e) e c (fun a b c d _ h=>k a b c d h) c
noncomputable def kg (e:Expr) (f:Expr->List F3->Scope->Pos->Bool):Bool:=if h:e.ctorIdx=8 then @L9.elim (fun _=>Bool) e h f else false
@[elab_as_elim]
theorem sx {P:Expr->Prop} (e:Expr) {f:Expr->List F3->Scope->Pos->Bool} (h:kg e f=true) (k:∀ a b c d,f a b c d=true->P (.ListComp a b c d)):P e :=
 (pk h).elim fun c => @L9.elim (fun e => ∀ c, @L9.elim (fun _=>Bool) e c f=true->P e) e c (fun a b c d _ h=>k a b c d h) c
noncomputable def pZ (e:Expr) (f:List (Option Expr)->List Expr->Pos->Bool):Bool:=if h:e.ctorIdx=6 then @Nh.elim (fun _=>Bool) e h f else false
@[elab_as_elim]
theorem wd {P:Expr->Prop} (e:Expr) {f:List (Option Expr)->List Expr->Pos->Bool} (h:pZ e f=true) (k:∀ a b c,f a b c=true->P (.Dict a b c)):P e :=
 (pk h).elim fun c => @Nh.elim (fun e => ∀ c, @Nh.elim (fun _=>Bool) e c f=true->P e) e c (fun a b c _ h=>k a b c h) c
noncomputable def eP (e:Stmt) (f:List Expr->Expr->Pos->Bool):Bool:=if h:e.ctorIdx=5 then @Mz.elim (fun _=>Bool) e h f else false
@[elab_as_elim]
theorem gR {P:Stmt->Prop} (e:Stmt) {f:List Expr->Expr->Pos->Bool} (h:eP e f=true) (k:∀ a b c,f a b c=true->P (.Assign a b c)):P e :=
 (pk h).elim fun c => @Mz.elim (fun e => ∀ c, @Mz.elim (fun _=>Bool) e c f=true->P e) e c (fun a b c _ h=>k a b c h) c
noncomputable def sy (e:Stmt) (f:Expr->Pos->Bool):Bool:=if h:e.ctorIdx=24 then @Ni.elim (fun _=>Bool) e h f else false
@[elab_as_elim]
theorem zW {P:Stmt->Prop} (e:Stmt) {f:Expr->Pos->Bool} (h:sy e f=true) (k:∀ a b,f a b=true->P (.Expr a b)):P e :=
 (pk h).elim fun c => @Ni.elim (fun e => ∀ c, @Ni.elim (fun _=>Bool) e c f=true->P e) e c (fun a b _ h=>k a b h) c
noncomputable def mG (e:Stmt) (f:Option Expr->Pos->Bool):Bool:=if h:e.ctorIdx=3 then @MA.elim (fun _=>Bool) e h f else false
@[elab_as_elim]
theorem vh {P:Stmt->Prop} (e:Stmt) {f:Option Expr->Pos->Bool} (h:mG e f=true) (k:∀ a b,f a b=true->P (.Return a b)):P e :=
 (pk h).elim fun c => @MA.elim (fun e => ∀ c, @MA.elim (fun _=>Bool) e c f=true->P e) e c (fun a b _ h=>k a b h) c
noncomputable def zX (e:Stmt) (f:Expr->List Stmt->List Stmt->Pos->Bool):Bool:=if h:e.ctorIdx=12 then @Stmt.If.elim (fun _=>Bool) e h f else false
@[elab_as_elim]
theorem BE {P:Stmt->Prop} (e:Stmt) {f:Expr->List Stmt->List Stmt->Pos->Bool} (h:zX e f=true) (k:∀ a b c d,f a b c d=true->P (.If a b c d)):P e :=
 (pk h).elim fun c => @Stmt.If.elim (fun e => ∀ c, @Stmt.If.elim (fun _=>Bool) e c f=true->P e) e c (fun a b c d _ h=>k a b c d h) c
noncomputable def we (e:Stmt) (f:Expr->Expr->List Stmt->List Stmt->Pos->Bool):Bool:=if h:e.ctorIdx=9 then @Stmt.For.elim (fun _=>Bool) e h f else false
@[elab_as_elim]
theorem B5 {P:Stmt->Prop} (e:Stmt) {f:Expr->Expr->List Stmt->List Stmt->Pos->Bool} (h:we e f=true) (k:∀ a b c d e,f a b c d e=true->P (.For a b c d e)):P e :=
 (pk h).elim fun c => @Stmt.For.elim (fun e => ∀ c, @Stmt.For.elim (fun _=>Bool) e c f=true->P e) e c (fun a b c d e _ h=>k a b c d e h) c
noncomputable def ow (e:Stmt) (f:Expr->List Stmt->List Stmt->Pos->Bool):Bool:=if h:e.ctorIdx=11 then @Na.elim (fun _=>Bool) e h f else false
@[elab_as_elim]
theorem xX {P:Stmt->Prop} (e:Stmt) {f:Expr->List Stmt->List Stmt->Pos->Bool} (h:ow e f=true) (k:∀ a b c d,f a b c d=true->P (.While a b c d)):P e :=
 (pk h).elim fun c => @Na.elim (fun e => ∀ c, @Na.elim (fun _=>Bool) e c f=true->P e) e c (fun a b c d _ h=>k a b c d h) c
noncomputable def sB (e:Stmt) (f:Pos->Bool):Bool:=if h:e.ctorIdx=25 then @Nj.elim (fun _=>Bool) e h f else false
@[elab_as_elim]
theorem zY {P:Stmt->Prop} (e:Stmt) {f:Pos->Bool} (h:sB e f=true) (k:∀ a,f a=true->P (.Pass a)):P e :=
 (pk h).elim fun c => @Nj.elim (fun e => ∀ c, @Nj.elim (fun _=>Bool) e c f=true->P e) e c (fun a _ h=>k a h) c
noncomputable def ox (e:Stmt) (f:Pos->Bool):Bool:=if h:e.ctorIdx=26 then @Nb.elim (fun _=>Bool) e h f else false
@[elab_as_elim]
theorem xY {P:Stmt->Prop} (e:Stmt) {f:Pos->Bool} (h:ox e f=true) (k:∀ a,f a=true->P (.Break a)):P e :=
 (pk h).elim fun c => @Nb.elim (fun e => ∀ c, @Nb.elim (fun _=>Bool) e c f=true->P e) e c (fun a _ h=>k a h) c
noncomputable def iX (e:Stmt) (f:Pos->Bool):Bool:=if h:e.ctorIdx=27 then @La.elim (fun _=>Bool) e h f else false
@[elab_as_elim]
theorem q0 {P:Stmt->Prop} (e:Stmt) {f:Pos->Bool} (h:iX e f=true) (k:∀ a,f a=true->P (.Continue a)):P e :=
 (pk h).elim fun c => @La.elim (fun e => ∀ c, @La.elim (fun _=>Bool) e c f=true->P e) e c (fun a _ h=>k a h) c
noncomputable def lv0 {α:Type} (xs:List α) (b:Bool):Bool:=xs.isEmpty&&b
noncomputable def lvc {α:Type} (xs:List α) (f : α -> List α -> Bool):Bool:=match xs with
 | y::r=>f y r
 | [] => false
noncomputable def lv1 {α:Type} (xs:List α) (f : α -> Bool):Bool:=lvc xs fun y r=>lv0 r (f y)
noncomputable def lv2 {α:Type} (xs:List α) (f : α -> α -> Bool):Bool:=lvc xs fun y r=>lv1 r (f y)
noncomputable def os {α:Type} (o:Option α) (f : α -> Bool):Bool:=match o with
 | some x=>f x
 | none=>false
noncomputable def on {α:Type} (o:Option α) (b:Bool):Bool:=o.isNone&&b
@[elab_as_elim]
theorem gS {α:Type} {P:List α -> Prop} (xs:List α) {b:Bool} (h:lv0 xs b=true) (k:b=true->P []):P xs:=by
 cases xs with
 | nil=>exact k h
 | cons _ _=>cases h
@[elab_as_elim]
theorem zZ {α:Type} {P:List α -> Prop} (xs:List α) {f : α -> List α -> Bool} (h:lvc xs f=true) (k:∀ y r,f y r=true->P (y::r)):P xs:=by
 cases xs with
 | nil=>cases h
 | cons y r=>exact k y r h
@[elab_as_elim]
theorem cw {α:Type} {P:List α -> Prop} (xs:List α) {f : α -> Bool} (h:lv1 xs f=true) (k:∀ y,f y=true->P [y]):P xs :=
 zZ xs h fun y r h=>gS r h fun h=>k y h
@[elab_as_elim]
theorem jl {α:Type} {P:List α -> Prop} (xs:List α) {f : α -> α -> Bool} (h:lv2 xs f=true) (k:∀ y z,f y z=true->P [y,z]):P xs :=
 zZ xs h fun y r h=>cw r h fun z h=>k y z h
@[elab_as_elim]
theorem jos {α:Type} {P:Option α -> Prop} (o:Option α) {f : α -> Bool} (h:os o f=true) (k:∀ x,f x=true->P (some x)):P o:=by
 cases o with
 | none=>cases h
 | some x=>exact k x h
@[elab_as_elim]
theorem jon {α:Type} {P:Option α -> Prop} (o:Option α) {b:Bool} (h:on o b=true) (k:b=true->P none):P o:=by
 cases o with
 | none=>exact k h
 | some x=>cases h
theorem bI {a b:Bool} (h:(a&&b)=true):a=true/\b=true:=by rwa [hW] at h
noncomputable def cG (e:Expr) (g:Str->List Expr->Bool):Bool:=pX e fun f xs ks _=>lv0 ks (eM f fun x _=>g x xs)
@[elab_as_elim]
theorem dz {P:Expr->Prop} (e:Expr) {g:Str->List Expr->Bool} (h:cG e g=true) (k:∀ x xs p pos,g x xs=true->P (.Call (.Name x p) xs [] pos)):P e :=
 wc e h fun f xs ks pos h=>gS ks h fun h=>fY f h fun x p h=>k x xs p pos h
noncomputable def q8 (e:Expr) (g:Expr->Str->List Expr->Pos->Pos->Bool):Bool:=pX e fun f xs ks p=>lv0 ks (iW f fun o n q=>g o n xs q p)
@[elab_as_elim]
theorem wf {P:Expr->Prop} (e:Expr) {g:Expr->Str->List Expr->Pos->Pos->Bool} (h:q8 e g=true) (k:∀ o n xs q p,g o n xs q p=true->P (.Call (.Attribute o n q) xs [] p)):P e :=
 wc e h fun f xs ks pos h=>gS ks h fun h=>pY f h fun o n q h=>k o n xs q pos h
noncomputable def iSl (e:Expr) (g:Expr->Option Expr->Option Expr->Option Expr->Bool):Bool:=cT e fun x y _=>sv y fun l u s _=>g x l u s
@[elab_as_elim]
theorem jSl {P:Expr->Prop} (e:Expr) {g:Expr->Option Expr->Option Expr->Option Expr->Bool} (h:iSl e g=true) (k:∀ x l u s p pos,g x l u s=true->P (.Subscript x (.Slice l u s p) pos)):P e :=
 eO e h fun x y pos h=>zV y h fun l u s p h=>k x l u s p pos h
mutual
noncomputable def okG:MG->Ctx->Expr->Bool
 | .name i,C,e=>eM e fun x _=>decide (C.N[i]? = some x)&&vd C.sc x&&(C.sc.names.lookup x==some .local || C.fn.contains x)
 | .tup gs,C,e=>dy e fun es _ _=>okGs gs C es
noncomputable def okGs:MGs->Ctx->List Expr->Bool
 | .nil,_,es=>es.isEmpty
 | .cons g r,C,es=>match es with
  | e::es=>aN e&&okG g C e&&okGs r C es
  | [] => false
end
mutual
noncomputable def okE:ME->Ctx->Expr->Bool
 | .var i,C,e=>eM e fun x _=>decide (C.N[i]? = some x)&&vc C.sc x && !(x==("__debug__":Str)) && !(x==("__classdict__":Str))
 | .int i,_,e=>dG e fun c _ _=>decide (c = .int i)
 | .bl i,_,e=>dG e fun c _ _=>decide (c = .bool i)
 | .non,_,e=>dG e fun c _ _=>decide (c = .none)
 | .bin op a b,C,e=>sr e fun l o r _=>decide (o=opO op)&&okE a C l&&okE b C r
 | .neg a,C,e=>eN e fun o x _=>decide (o = .USub)&&okE a C x
 | .cmp op a b,C,e=>gQ e fun l os rs _=>lv1 os fun o=>lv1 rs fun r=>decide (o=vf op)&&okE a C l&&okE b C r && !(HG o r)
 | .and es,C,e=>dS e fun o xs _=>decide (o = .And) && !xs.isEmpty&&okEs es C xs
 | .or es,C,e=>dS e fun o xs _=>decide (o = .Or) && !xs.isEmpty&&okEs es C xs
 | .not a,C,e=>eN e fun o x _=>decide (o = .Not)&&okE a C x
 | .ite c a b,C,e=>su e fun t x y _=>okT c C t&&okE a C x&&okE b C y
 | .tup es,C,e=>dy e fun xs _ _=>okEs es C xs
 | .lst es,C,e=>wb e fun xs _=>okEs es C xs
 | .ix a b,C,e=>cT e fun x y _=>dR y&&okE a C x&&okE b C y
 | .sl a lo hi,C,e=>iSl e fun x l u s=>on s (okE a C x&&okO lo C l&&okO hi C u)
 | .call f es,C,e=>cG e fun x xs=>decide (C.Γ[f]? = some x)&&glB C.sc x && !(x==("__debug__":Str))&&okEs es C xs
 | .blt f es,C,e=>cG e fun x xs=>decide (x=mD f)&&glB C.sc x && !xs.isEmpty&&okEs es C xs
 | .isin a T,C,e=>cG e fun x xs=>lv2 xs fun y w=>eM w fun z _=>decide (x = "isinstance")&&glB C.sc x&&glB C.sc z&&decide (z=Fc T)&&decide (T∈["bool", "int", "str", "tuple", "list", "dict"])&&aN y&&okE a C y
 | .d1 k v,C,e=>pZ e fun ks vs _=>lv1 ks fun x=>os x fun x=>lv1 vs fun y=>okE k C x&&okE v C y
 | .dnew _,_,e=>pZ e fun ks vs _=>lv0 ks (lv0 vs true)
 | .dget o k x,C,e=>q8 e fun y n xs ap cp=>lv2 xs fun e1 e2=>decide (n = "get")&&fX y&&(ap.endLine==cp.line)&&aN e1&&aN e2&&okE o C y&&okE k C e1&&okE x C e2
 | .meth m o a,C,e=>q8 e fun x n xs ap cp=>lv1 xs fun y=>decide (n=zS m)&&fX x&&(ap.endLine==cp.line)&&aN y&&okE o C x&&okE a C y
 | .comp fr N' c,C,e=>kg e fun elt gens sc _=>vg sc C.sc C.N N' fr&&okC c C ⟨C.Γ,N',gO sc C.sc,(sc.names.filter (·.2 == .cell)).map (·.1),C.cs⟩ gens elt
noncomputable def okEs:MEs->Ctx->List Expr->Bool
 | .nil,_,es=>es.isEmpty
 | .cons m r,C,es=>match es with
  | e::es=>aN e&&okE m C e&&okEs r C es
  | [] => false
noncomputable def okO:MO->Ctx->Option Expr->Bool
 | .none,_,e=>e.isNone
 | .some m,C,e=>match e with
  | some e=>okE m C e
  | none=>false
noncomputable def okT:MT->Ctx->Expr->Bool
 | .tru m,C,e=>mC e&&okE m C e
 | .cmp op a b,C,e=>gQ e fun l os rs _=>lv1 os fun o=>lv1 rs fun r=>decide (o=vf op)&&okE a C l&&okE b C r && !(HG o r)
 | .and ts,C,e=>dS e fun o xs _=>decide (o = .And) && !xs.isEmpty&&okTs ts C xs
 | .or ts,C,e=>dS e fun o xs _=>decide (o = .Or) && !xs.isEmpty&&okTs ts C xs
 | .not t,C,e=>eN e fun o x _=>decide (o = .Not)&&okT t C x
noncomputable def okTs:MTs->Ctx->List Expr->Bool
 | .nil,_,es=>es.isEmpty
 | .cons m r,C,es=>match es with
  | e::es=>okT m C e&&okTs r C es
  | [] => false
noncomputable def okI:MI->Ctx->Expr->Expr->Bool
 | .seq m,C,_,e=>iV e&&okE m C e
 | .keys m,C,_,e=>iV e&&okE m C e
 | .rng1 a,C,_,e=>cG e fun x xs=>lv1 xs fun y=>decide (x = "range")&&glB C.sc x&&aN y&&okE a C y
 | .rng2 a b,C,_,e=>cG e fun x xs=>lv2 xs fun y z=>decide (x = "range")&&glB C.sc x&&aN y&&aN z&&okE a C y&&okE b C z
 | .enum a,C,t,e=>cG e fun x xs=>lv1 xs fun y=>dy t fun _ _ _=>decide (x = "enumerate")&&glB C.sc x&&aN y&&okE a C y
 | .zip a b,C,t,e=>cG e fun x xs=>lv2 xs fun y z=>dy t fun _ _ _=>decide (x = "zip")&&glB C.sc x&&aN y&&aN z&&okE a C y&&okE b C z
noncomputable def okC:MC->Ctx->Ctx->List F3->Expr->Bool
 | .last src g ifs m,Cs,C,gens,elt=>match gens with
  | [⟨t,it,fs,a⟩] => decide (a=0)&&okI src Cs t it&&okG g C t&&okTs ifs C fs&&okE m C elt
  | _=>false
 | .more src g ifs rest,Cs,C,gens,elt=>match gens with
  | ⟨t,it,fs,a⟩::g2::gs=>decide (a=0)&&okI src Cs t it&&okG g C t&&okTs ifs C fs&&okC rest C C (g2::gs) elt
  | _=>false
end
noncomputable def aX (sc:Scope) (ts:List Expr):List Str:=ts.filterMap fun
 | .Name id pos=>if sc.names.lookup id==some .local&&pos.line==(ts.head?.map (·.pos.line)).getD 0 then some id else none
 | _=>none
noncomputable def q9 (sc:Scope) (ts vs:List Expr):Bool := !(ts.length==2 || ts.length==3) || vs.length != ts.length || (aX sc ts).length != ts.length || (aX sc ts).eraseDups.length != (aX sc ts).length || vs.all (Lb 8)
noncomputable def qa (C:Ctx) (i:Nat) (x:Str):Bool:=decide (C.N[i]? = some x)&&decide (C.sc.names.lookup x=some .local)
noncomputable def qb (sc:Scope) (ts vs:List Expr) (ns:List Str):Bool := !(!(ts.length==2 || ts.length==3) || vs.length != ts.length) && !(vs.any fun | .Starred .. => true | _=>false)&&decide (aX sc ts=ns) && !((aX sc ts).length != ts.length || (aX sc ts).eraseDups.length != (aX sc ts).length) && !(vs.all (Lb 8)) && !(vs.all (constantsAlone 8))
noncomputable def iY (sc:Scope) (tg e:Expr):Bool:=match tg,e with
 | .Tuple ts _ _, .Tuple vs _ _=>q9 sc ts vs
 | .Tuple ..,_=>true
 | .Name ..,_=>true
 | _,_=>false
noncomputable def A0 (sc:Scope) (x:Str) (px:Pos) (e:Expr):Bool:=match e with
 | .DictComp _ _ _ s _ => !(sc.names.lookup x==some .local&&px.line==e.pos.line && !(s.names.any fun (n,k)=>n==x&&(k == .local || k == .cell)))
 | _=>true
noncomputable def qc (sc:Scope) (x:Str) (px:Pos) (e:Expr):Bool:=match e with
 | .ListComp _ _ s _=>sc.names.lookup x==some .local&&px.line==e.pos.line && !(s.names.any fun (n,k)=>n==x&&(k == .local || k == .cell))
 | _=>false
mutual
noncomputable def okS:MS->Ctx->Stmt->Bool
 | .asg g m,C,s=>eP s fun ts e _=>lv1 ts fun tg=>okG g C tg&&okE m C e&&iY C.sc tg e&&(match tg with | .Name x px=>A0 C.sc x px e | _=>fw e)
 | .par i j a b,C,s=>eP s fun ts e _=>lv1 ts fun tg=>dy tg fun ts _ _=>dy e fun es _ _=>lv2 ts fun t u=>lv2 es fun e f=>eM t fun x px=>eM u fun y py=>qa C i x&&qa C j y&&decide (i≠j)&&aN e&&aN f&&okE a C e&&okE b C f&&qb C.sc [.Name x px, .Name y py] [e,f] [x,y]
 | .put o i m,C,s=>eP s fun ts e _=>lv1 ts fun tg=>cT tg fun x y _=>dR y&&fw e&&okE o C x&&okE i C y&&okE m C e
 | .drop m,C,s=>sy s fun e _=>fw e&&okE m C e
 | .ret m,C,s=>mG s fun o _=>os o fun e=>okE m C e
 | .ite c a b,C,s=>zX s fun t x y _=>okT c C t&&okSs a C x&&okSs b C y
 | .for g src b,C,s=>we s fun tg it body els _=>lv0 els (iV it&&okG g C tg&&okI src C tg it&&okSs b C body)
 | .while c b,C,s=>ow s fun t body els _=>lv0 els (okT c C t&&okSs b C body)
 | .frz _ m,C,s=>okS m C s
 | .pass,_,s=>sB s fun _=>true
 | .brk,_,s=>ox s fun _=>true
 | .cnt,_,s=>iX s fun _=>true
noncomputable def okSs:MSs->Ctx->List Stmt->Bool
 | .nil,_,ss=>ss.isEmpty
 | .cons m r,C,ss=>match ss with
  | s::ss=>okS m C s&&okSs r C ss
  | [] => false
end
theorem al {e:Expr} {es:List Expr} {env:Env} (h:aN e=true):Et (e::es) env=(false,eval e env)::Et es env:=by
 cases e <;> first | rfl | (simp [aN] at h;done)
theorem kh {e:Expr} {es:List Expr} {env:Env} (h:aN e=true):FV (e::es) env=(false,assign e env)::FV es env:=by
 cases e <;> first | rfl | (simp [aN] at h;done)
theorem qd {e:Expr} {env:Env} (h:mC e=true):∀ whole,isTrue e env whole=(do let v <- whole;Jr e.pos;holding [v] (truthy v)):=by
 intro w
 cases e <;> first | rfl | (simp [mC] at h;done)
theorem vj {e:Expr} (h:dR e=true):j8 e:=by
 intro o i
 cases e <;> first | rfl | (simp [dR] at h;done)
theorem mH {e:Expr} {env:Env} (h:iV e=true):∀ x,G6 e env x=pure x:=by
 intro x
 cases e <;> first | rfl | (simp [iV] at h;done)
theorem gT {e:Expr} {n:Str} {env:Env} (h:fX e=true):L4 e n env (eval e env)=eval e env:=by
 cases e <;> first | rfl | (simp [fX] at h;done)
theorem jm {e:Expr} {t:Option Expr} {l:Nat} {env:Env} (h:fw e=true):HX e t l env=pure false:=by
 cases e <;> first | rfl | (simp [fw] at h;done)
end
section
noncomputable def lSp (K:Frag) (r:RAd):Sp:=fun vs H Q _=>lR K r vs H Q
structure Good (C:Ctx) (Φ:Phi) (k:Nat) (X:Cx):Prop where
 hx:∀ e s,X.xe e s->False
 calm:X.calm=true
 N:X.N=C.N
 sc:X.env.scope=C.sc
 nd:X.N.Nodup
 fn:∀ x∈C.fn,X.fn x=true
 room:Room k X.A
 mgB:∀ x∈bltNames,X.mg x=none
 fns:∀ (i:Nat) (x:Str),C.Γ[i]? = some x -> ∃ f fd ps,X.mg x=some (.ref f)/\J2 X.K Fn x=some (some (.ref f))/\Hx X.K (.ref f)=true/\Binds X.K fd ps []/\dj X.prog X.w X.K X.mg X.base CX0 k f fd ps (lSp X.K (Φ i))
 mono:∀ f,aM (Φ f)
 cs:∀ x d,(x,d)∈C.cs -> ∃ u,X.mg x=some u/\GV X.K d u
section
variable {C:Ctx} {Φ:Phi} {k:Nat} {X:Cx}
theorem Good.units (G:Good C Φ k X):X.A.units+64 < Gv:=G.room.units
theorem Good.gl (G:Good C Φ k X) {x:Str} (h:glB C.sc x=true):Gl X x:=by
 show X.env.scope.names.lookup x=_;rw [G.sc];simpa [glB] using h
theorem Good.vis (G:Good C Φ k X) {x:Str} (h:vc C.sc x=true):Vis X.env.scope x:=by
 unfold Vis;rw [G.sc];simp [vc] at h
 rcases h with (h | h) | h
 ·exact .inl h
 ·exact .inr (.inl h)
 ·exact .inr (.inr h)
theorem Good.loc (G:Good C Φ k X) {x:Str} (h:vd C.sc x=true):Loc X.env.scope x:=by
 unfold Loc;rw [G.sc];simpa [vd] using h
theorem Good.own (G:Good C Φ k X) {x:Str} (h:(C.sc.names.lookup x==some .local || C.fn.contains x)=true):X.fn x=true∨X.env.scope.names.lookup x=some .local:=by
 rw [G.sc];simp at h
 rcases h with h | h
 ·exact .inr h
 ·exact .inl (G.fn x h)
theorem A1 (G:Good C Φ k X):∀ o:BOp,OpR X (Fy (opO o)) (l2 X.K (opB o))
 | .add=>um | .sub=>uo | .mul=>uq | .fdiv=>r8 | .mod=>uu | .pow=>uw
theorem oz (G:Good C Φ k X):∀ o:COp,OpR X (FL (vf o)) (l2 X.K (opC o))
 | .eq=>xb (by have:=G.units;lia) | .ne=>xc (by have:=G.units;lia) | .lt=>xj | .le=>xk | .gt=>xm | .ge=>xo| .ninD=>sn (by have:=G.units;lia)
theorem A2 (G:Good C Φ k X) {f:BF} {e:Expr} {es:List Expr} {t:TAd} {p pos:Pos} (mt:aV t) (q:Gl X (mD f)) (z:PA X (e::es) (lA X.K t))
 (he:Et (e::es) X.env=(false,eval e X.env)::Et es X.env) (j:(HS pos (Et es X.env)).any (·.1)=false):PE X (.Call (.Name (mD f) p) (e::es) [] pos) (lE X.K (wAr (opF f) t)):=by
 cases f with
 | lenT=>exact PE.imp (bA nJ q (G.mgB _ (by decide)) PySem.boot_len z (by decide) (by decide) he j) (bb kf mt)
 | len=>exact PE.imp (bA pD q (G.mgB _ (by decide)) PySem.boot_len z (by decide) (by decide) he j) (bb kU mt)
 | abs=>exact PE.imp (bA pE q (G.mgB _ (by decide)) (by decide +kernel) z (by decide) (by decide) he j) (bb kY mt)
 | max2=>exact PE.imp (bA (ny G.calm) q (G.mgB _ (by decide)) (by decide +kernel) z (by decide) (by decide) he j) (bb jL mt)
 | min2=>exact PE.imp (bA (nA G.calm) q (G.mgB _ (by decide)) (by decide +kernel) z (by decide) (by decide) he j) (bb jM mt)
 | int=>exact PE.imp (dC pF q (G.mgB _ (by decide)) (by decide +kernel) z (by decide) (by decide) he j) (bb kZ mt)
 | list=>exact PE.imp (dC nB q (G.mgB _ (by decide)) (by decide +kernel) z (by decide) (by decide) he j) (bb jN mt)
 | tuple=>exact PE.imp (dC lc q (G.mgB _ (by decide)) (by decide +kernel) z (by decide) (by decide) he j) (bb iu mt)
 | all=>exact PE.imp (bA (pM G.calm) q (G.mgB _ (by decide)) (by decide +kernel) z (by decide) (by decide) he j) (bb lD mt)
 | any=>exact PE.imp (bA (pN G.calm) q (G.mgB _ (by decide)) (by decide +kernel) z (by decide) (by decide) he j) (bb lF mt)
 | dict=>exact PE.imp (dC (nI (by have:=G.units;lia) G.calm) q (G.mgB _ (by decide)) (by decide +kernel) z (by decide) (by decide) he j) (bb kb mt)
 | sortk=>exact PE.imp (bA (mw (by have:=G.units;lia) G.calm) q (G.mgB _ (by decide)) (by decide +kernel) z (by decide) (by decide) he j) (bb iT mt)
theorem xZ (G:Good C Φ k X) {f:Nat} {x:Str} {e:Expr} {es:List Expr} {t:TAd} {p pos:Pos} (mt:aV t) (hf:C.Γ[f]? = some x) (z:Gl X x) (j:(x==("__debug__":Str))=false) (B:PA X (e::es) (lA X.K t))
 (he:Et (e::es) X.env=(false,eval e X.env)::Et es X.env) (q:(HS pos (Et es X.env)).any (·.1)=false):PE X (.Call (.Name x p) (e::es) [] pos) (lE X.K (wAr (Φ f) t)):=by
 obtain ⟨a,fd,ps,hm,_,J,L,F⟩:=G.fns f x hf;refine PE.imp (wK F G.room z hm J L .nil vW B j he q) fun σ H Q h => ?_;have h2:=bb (G.mono f) mt σ H Q h;have:(fun vs H1=>lSp X.K (Φ f) (vs++[]) H1 Q E0)=fun vs H1=>lR X.K (Φ f) vs H1 Q:=by
  funext vs H1;rw [Fe];rfl
 show (lA X.K t) σ H _;rw [this];exact h2
theorem vm (G:Good C Φ k X) {f:Nat} {x:Str} {p pos:Pos} (hf:C.Γ[f]? = some x) (z:Gl X x) (j:(x==("__debug__":Str))=false):PE X (.Call (.Name x p) [] [] pos) (lE X.K (wAr (Φ f) bU)):=by
 obtain ⟨a,fd,ps,hm,_,B,J,F⟩:=G.fns f x hf;refine PE.imp (tW F G.room z hm B J .nil vW j) fun σ H Q h => ?_;obtain ⟨ρ,M,rs,rm,q⟩:=h;exact ⟨[],M,rm,RDs.nil,q⟩
theorem gU {env:Env} {pos:Pos}:∀ {es:List Expr},es.all aN=true->(HS pos (Et es env)).any (·.1)=false
 | [],_=>rfl
 | e::es,h=>by
   simp only [IC,hW] at h;rw [al h.1];show (false || (HS pos (Et es env)).any (·.1))=false
   rw [gU h.2];rfl
theorem fA:∀ {ms:MEs} {es:List Expr},okEs ms C es=true->es.all aN=true
 | .nil,[],_=>rfl
 | .nil,_::_,h=>by simp [okEs] at h
 | .cons m r,[],h=>by simp [okEs] at h
 | .cons m r,e::es,h=>by
  simp only [okEs,hW] at h;simp only [IC,hW];exact ⟨h.1.1,fA h.2⟩
theorem oA:∀ {gs:MGs} {es:List Expr},okGs gs C es=true -> ∀ ds ρ ρ',bGs gs ds ρ = some ρ'->ds.length=es.length
 | .nil,es,h,ds, ρ, ρ',e=>by
  simp [okGs] at h;subst h;rw [bGs] at e
  cases ds with
  | nil=>rfl
  | cons _ _=>cases e
 | .cons g r,[],h,_,_,_,_=>by simp [okGs] at h
 | .cons g r,x::es,h,ds, ρ, ρ',e=>by
  simp only [okGs,hW] at h;rw [bGs] at e
  cases ds with
  | nil=>cases e
  | cons d ds =>
    simp only [bB] at e
    cases e1:bG g d ρ with
    | none=>rw [e1] at e;cases e
    | some ρ1 =>
      rw [e1] at e;simp [oA h.2 ds ρ1 ρ' e]
theorem mJ {env:Env}:∀ {gs:MGs} {es:List Expr},okGs gs C es=true->(FV es env).length=es.length/\(FV es env).findIdx? (·.1)=none
 | .nil,es,h=>by simp [okGs] at h;subst h;exact ⟨rfl,rfl⟩
 | .cons g r,[],h=>by simp [okGs] at h
 | .cons g r,x::es,h=>by
  simp only [okGs,hW] at h;obtain ⟨a,b⟩:=mJ (env:=env) h.2;rw [kh h.1.1];refine ⟨by simp [a], ?_⟩
  rw [List.findIdx?_cons];simp [b]
mutual
theorem sG (G:Good C Φ k X):∀ (m:MG) (e:Expr),okG m C e=true->PG X e (lG X.K (bG m))
 | .name i,e,h=>by
  refine fY e h fun x _ h => ?_;simp only [hW] at h;exact xB G.nd (by rw [G.N];exact of_decide_eq_true h.1.1) (G.loc h.1.2) (G.own h.2)
 | .tup gs,e,h=>by
  refine dU e h fun es _ _ h => ?_;rw [bG];obtain ⟨a,b⟩:=mJ (env:=X.env) h;exact zD G.calm (oA h) (sGs G gs _ h) a b
theorem sGs (G:Good C Φ k X):∀ (m:MGs) (es:List Expr),okGs m C es=true->PGs X es (lGs X.K (bGs m))
 | .nil,es,h=>by
  simp [okGs] at h;subst h;exact xC
 | .cons g r,[],h=>by simp [okGs] at h
 | .cons g r,e::es,h=>by
  simp only [okGs,hW] at h;exact uH (sG G g e h.1.2) (sGs G r es h.2) (by rw [kh h.1.1];rfl)
end
theorem PB.imp {F:Sem Fin->Sem Fin} {t t':TC} (h:PB X F t) (i:∀ σ H N,t' σ H N->t σ H N):PB X F t':=fun pins s σ H N k Q E I q hk=>h pins s σ H N k Q E I (i _ _ _ q) hk
theorem iZ {sc osc:Scope} {oN N':List Str} {fr:List (Option Nat)} (h:vg sc osc oN N' fr=true):aZ sc osc oN N' fr:=by
 simp only [vg,hW,decide_eq_true_eq] at h;obtain ⟨⟨⟨⟨⟨h1,h2⟩,F⟩,G⟩,J⟩,L⟩:=h;refine ⟨h1,h2,F,fun x hx e => ?_,J,fun i j x hi hf => ?_⟩
 ·have z:=HD.mp G x hx;rw [e] at z;simpa using z
 ·have B:i < N'.length:=(DZ.mp hi).1;have q:=HD.mp L i (GQ.mpr B);rw [hf,hi] at q;simp only [hW,decide_eq_true_eq,GY] at q;obtain ⟨a,y,O,e⟩:=q;exact ⟨a,by rw [<- e];exact O⟩
theorem Good.blk (G:Good C Φ k X) {sc:Scope} {N':List Str} {fr:List (Option Nat)} (B:aZ sc C.sc C.N N' fr) (s:hH) (H:Hp) (fp:List Addr) :
 Good ⟨C.Γ,N',gO sc C.sc,(sc.names.filter (·.2 == .cell)).map (·.1),C.cs⟩ Φ k (aH X sc N' s H fp):=by
 refine ⟨fun _ _ h=>h,G.calm,rfl, ?_,B.ndN,fun x hx => ?_,G.room,G.mgB,G.fns,G.mono,G.cs⟩
 ·show relabel sc X.env=_;rw [nK,G.sc]
 ·obtain ⟨y,q,e⟩:=ED.mp hx;obtain ⟨h1,h2⟩:=Gz.mp q;obtain ⟨n,kd⟩:=y;have j:kd = .cell:=by simpa using h2
  subst j;have e':n=x:=e;subst e';show (sc.names.lookup n==some .cell)=true;rw [aQ B.nd h1];rfl
end
end
section
section
variable {Φ:Phi} {k:Nat}
theorem de {C:Ctx} {X:Cx} (G:Good C Φ k X) {F:Sem Fin->Sem Fin} {p:Addr} {tb:TCd} {ifs:List Expr} {ts:List TTd} (mb:bR tb) (mt:∀ t∈ts,aF t) (j:PB X F (lC X.K p tb)) (q:ES (fun c t=>PT X c t) ifs (ts.map (lT X.K))) :
 PB X (fun k=>bg ifs X.env >>= fun ok=>if ok=true then F k else k) (lC X.K p (bj ts tb)) :=
 PB.imp (ua G.hx j q) (iH mb mt)
theorem fB {m:MC} {Cs C:Ctx} {g2:F3} {gs:List F3} {elt:Expr} (h:okC m Cs C (g2::gs) elt=true):g2.is_async=0:=by
 obtain ⟨t,i,f,a⟩:=g2
 cases m with
 | last src g ifs m =>
   cases gs with
   | nil=>simp only [okC,hW,decide_eq_true_eq] at h;exact h.1.1.1.1
   | cons _ _=>simp [okC] at h
 | more src g ifs rest =>
   cases gs with
   | nil=>simp [okC] at h
   | cons _ _=>simp only [okC,hW,decide_eq_true_eq] at h;exact h.1.1.1.1
theorem vp {C:Ctx} {X:Cx} (G:Good C Φ k X):∀ T∈["bool", "int", "str", "tuple", "list", "dict"],X.mg (Fc T)=none/\H8 (Fc T)=some (.type T)/\Fc T ≠ "__name__" /\ (Fc T==("__debug__":Str))=false:=by
 intro T j;simp only [Eb,EL,or_false] at j
 rcases j with rfl | rfl | rfl | rfl | rfl | rfl
 all_goals exact ⟨G.mgB _ (by decide),by decide +kernel,by decide,by decide⟩
mutual
theorem sE:∀ (m:ME) {C:Ctx} {X:Cx} (G:Good C Φ k X) (e:Expr),okE m C e=true->PE X e (lE X.K (wE Φ m))
 | .var i,C,X,G,e,h=>by
  refine fY e h fun x _ h => ?_;simp only [hW,FJ,decide_eq_true_eq] at h;exact zo (by rw [G.N];exact h.1.1.1) (G.vis h.1.1.2) h.1.2 h.2
 | .int i,C,X,G,e,h=>by
  refine fy e h fun c _ _ h => ?_;rw [of_decide_eq_true h];exact le_int
 | .bl i,C,X,G,e,h=>by
  refine fy e h fun c _ _ h => ?_;rw [of_decide_eq_true h];exact AM
 | .non,C,X,G,e,h=>by
  refine fy e h fun c _ _ h => ?_;rw [of_decide_eq_true h];exact zp
 | .bin op a b,C,X,G,e,h=>by
  refine zT e h fun l o r _ h => ?_;simp only [hW,decide_eq_true_eq] at h;rw [h.1.1];exact AN (A1 G op) (mz op) (mE G.mono a) (mE G.mono b) (sE a G _ h.1.2) (sE b G _ h.2)
 | .neg a,C,X,G,e,h=>by
  refine gP e h fun o x _ h => ?_;replace h:=bI h;obtain ⟨ho,h⟩:=h
  cases of_decide_eq_true ho
  exact AO uz kS (mE G.mono a) (sE a G _ h)
 | .cmp op a b,C,X,G,e,h=>by
  refine mF e h fun l os rs pos h => ?_;refine cw os h fun o h => ?_;refine cw rs h fun r h => ?_;simp only [hW,decide_eq_true_eq] at h;obtain ⟨⟨⟨ho,O⟩,hb⟩,hm⟩:=h;rw [FJ] at hm;subst ho;exact zq (oz G op) (eL op) (mE G.mono a) (mE G.mono b) (sE a G _ O) (sE b G _ hb) hm
 | .and es,C,X,G,e,h=>by
  refine fZ e h fun o xs _ h => ?_;replace h:=bI h;obtain ⟨ho,h⟩:=h;obtain ⟨ho,j⟩:=bI ho
  cases of_decide_eq_true ho
  exact sAnds es G _ _ h (by intro z;rw [z] at j;cases j)
 | .or es,C,X,G,e,h=>by
  refine fZ e h fun o xs _ h => ?_;replace h:=bI h;obtain ⟨ho,h⟩:=h;obtain ⟨ho,j⟩:=bI ho
  cases of_decide_eq_true ho
  exact sOrs es G _ _ h (by intro z;rw [z] at j;cases j)
 | .not a,C,X,G,e,h=>by
  refine gP e h fun o x _ h => ?_;replace h:=bI h;obtain ⟨ho,h⟩:=h
  cases of_decide_eq_true ho
  exact zB (mE G.mono a) (sE a G _ h)
 | .ite c a b,C,X,G,e,h=>by
  refine zU e h fun t x y _ h => ?_;simp only [hW] at h;exact AV (mT G.mono c) (mE G.mono a) (mE G.mono b) (sT c G _ h.1.1) (sE a G _ h.1.2) (sE b G _ h.2)
 | .tup es,C,X,G,e,h=>by
  refine dU e h fun xs _ _ h => ?_;exact zt (mA G.mono es) (sA es G _ h)
 | .lst es,C,X,G,e,h=>by
  refine B4 e h fun xs _ h => ?_;exact zu (mA G.mono es) (sA es G _ h)
 | .ix a b,C,X,G,e,h=>by
  refine eO e h fun x y _ h => ?_;simp only [hW] at h;exact AQ (BB (by have:=G.units;lia)) nU (mE G.mono a) (mE G.mono b) (sE a G _ h.1.2) (sE b G _ h.2) (vj h.1.1)
 | .sl a lo hi,C,X,G,e,h=>by
  refine jSl e h fun x l u s p pos h => ?_;refine jon s h fun  h => ?_;simp only [hW] at h;exact AW (mE G.mono a) (mO G.mono lo) (mO G.mono hi) (sE a G _ h.1.1) (sO lo G _ h.1.2) (sO hi G _ h.2)
 | .call f es,C,X,G,e,h=>by
  refine dz e h fun x xs p pos h => ?_;simp only [hW,decide_eq_true_eq,FJ] at h;have Y:=sA es G _ h.2;have q:=fA h.2
  cases xs with
  | nil =>
    cases es with
    | nil=>exact vm G h.1.1.1 (G.gl h.1.1.2) h.1.2
    | cons _ _=>simp [okEs] at h
  | cons y ys =>
    simp only [IC,hW] at q;exact xZ G (mA G.mono es) h.1.1.1 (G.gl h.1.1.2) h.1.2 Y (al q.1) (gU q.2)
 | .blt f es,C,X,G,e,h=>by
  refine dz e h fun x xs p pos h => ?_;simp only [hW,decide_eq_true_eq,FJ] at h;have Y:=sA es G _ h.2;have q:=fA h.2;obtain ⟨⟨⟨rfl,L⟩,j⟩,_⟩:=h
  cases xs with
  | nil=>simp at j
  | cons y ys =>
    simp only [IC,hW] at q;exact A2 G (mA G.mono es) (G.gl L) Y (al q.1) (gU q.2)
 | .d1 a b,C,X,G,e,h=>by
  refine wd e h fun ks vs _ h => ?_;refine cw ks h fun x h => ?_;refine jos x h fun x h => ?_;refine cw vs h fun y h => ?_;simp only [hW] at h;exact B3 (by have:=G.units;lia) (mE G.mono a) (mE G.mono b) (sE a G _ h.1) (sE b G _ h.2)
 | .dnew t,C,X,G,e,h=>by
  refine wd e h fun ks vs _ h => ?_;refine gS ks h fun  h => ?_;refine gS vs h fun  h => ?_;exact xI
 | .dget o k' x,C,X,G,e,h=>by
  refine wf e h fun y n xs ap cp h => ?_;refine jl xs h fun e1 e2 h => ?_;simp only [hW,decide_eq_true_eq] at h;obtain ⟨⟨⟨⟨⟨⟨⟨rfl,J⟩,U⟩,Z⟩,BJ⟩,ho⟩,hk⟩,hx⟩:=h;have st:Et [e1,e2] X.env=[(false,eval e1 X.env),(false,eval e2 X.env)]:=by
   rw [al Z,al BJ];rfl
  refine xR (by have:=G.units;lia) (mE G.mono o) (mE G.mono k') (mE G.mono x) (sE o G _ ho) (sE k' G _ hk) (sE x G _ hx) ⟨gT J, ?_,U, ?_⟩
  ·rw [st];rfl
  ·rw [st];rfl
 | .isin a T,C,X,G,e,h=>by
  refine dz e h fun x xs p pos h => ?_;refine jl xs h fun y w h => ?_;refine fY w h fun z p2 h => ?_;simp only [hW,decide_eq_true_eq] at h;obtain ⟨⟨⟨⟨⟨⟨rfl,L⟩,BK⟩,hz⟩,hT⟩,hs⟩,O⟩:=h;obtain ⟨n1,n2,n3,n4⟩:=vp G T hT;subst hz;exact xz hT (mE G.mono a) (sE a G _ O) (G.gl L) (G.mgB _ (by decide)) (G.gl BK) n1 n2 n3 n4 (al hs) rfl
 | .meth m o a,C,X,G,e,h=>by
  refine wf e h fun x n xs ap cp h => ?_;refine cw xs h fun y h => ?_;simp only [hW,decide_eq_true_eq] at h;obtain ⟨⟨⟨⟨⟨hn,J⟩,U⟩,hs⟩,ho⟩,O⟩:=h;subst hn;have pa:PA X [y] (lA X.K (aW (wE Φ a) bU)):=bH (mE G.mono a) aw (sE a G _ O) dq (al hs);have few:((HS cp (Et [y] X.env)).all (fun x => !x.1)&&(backToKw cp (Mq [] X.env)).all (fun x=>x.1.isSome)&&decide (([y]:List Expr).length+([]:List JY).length+(if ([]:List JY).isEmpty then 0 else 1) < 30))=true:=by
   rw [al hs];rfl
  cases m with
  | append=>exact PE.imp (vU JM PySem.F.slot_list_append PySem.F.type_list_append jE (sE o G _ ho) pa (gT J) few U (al hs) rfl) (nV gv (mE G.mono o) (ar (mE G.mono a) aw) uF)
  | extend=>exact PE.imp (vU JM PySem.F.slot_list_extend PySem.F.type_list_extend qO (sE o G _ ho) pa (gT J) few U (al hs) rfl) (nV gw (mE G.mono o) (ar (mE G.mono a) aw) uG)
 | .comp fr N' c,C,X,G,e,h=>by
  refine sx e h fun elt gens sc pos h => ?_;simp only [hW] at h;have B:aZ sc X.env.scope X.N N' fr:=by rw [G.sc,G.N];exact iZ h.1
  have B':aZ sc C.sc C.N N' fr:=iZ h.1
  cases c with
  | last src g ifs m =>
    have h2:=h.2;simp only [okC] at h2
    split at h2
    ·rename_i t it fs a;simp only [hW,decide_eq_true_eq] at h2;obtain ⟨⟨⟨⟨rfl,hi⟩,L⟩,ht⟩,he⟩:=h2;refine PE.imp (gu G.calm G.hx B (fun g' z=>by simp at z) (sI src G _ t hi).1 (fun s H fp=>sG (G.blk B' s H fp) g t L) (tb:=fun p=>lC X.K p (bj (wTl Φ ifs) (bZ (wE Φ m)))) (fun s H fp p => ?_) (sI src G _ t hi).2) (dD (mI G.mono src) (aK (bw (mE G.mono m)) (mTl G.mono ifs)))
     have G':=G.blk B' s H fp;exact de (p:=p) G' (bw (mE G.mono m)) (mTl G.mono ifs) (PB.imp (j9 G'.hx (sE m G' elt he) rfl) (fg (mE G.mono m))) (sTl ifs G' fs ht)
    ·cases h2
  | more src g ifs rest =>
    have h2:=h.2;simp only [okC] at h2
    split at h2
    ·rename_i t it fs a g2 gs;simp only [hW,decide_eq_true_eq] at h2;obtain ⟨⟨⟨⟨rfl,hi⟩,L⟩,ht⟩,he⟩:=h2;have BL:∀ g',(g2::gs)[0]? = some g'->g'.is_async=0:=fun g' z=>by
      have z':g2=g':=by simpa using z
      subst z';exact fB he
     refine PE.imp (gu G.calm G.hx B BL (sI src G _ t hi).1 (fun s H fp=>sG (G.blk B' s H fp) g t L) (tb:=fun p=>lC X.K p (bj (wTl Φ ifs) (wCl Φ rest))) (fun s H fp p => ?_) (sI src G _ t hi).2) (dD (mI G.mono src) (aK (mCl G.mono rest) (mTl G.mono ifs)));have G':=G.blk B' s H fp;exact de (p:=p) G' (mCl G.mono rest) (mTl G.mono ifs) (sCl rest G' elt (⟨t,it,fs,0⟩::g2::gs) sc pos 0 (.inl rfl) p he) (sTl ifs G' fs ht)
    ·cases h2
theorem sA:∀ (m:MEs) {C:Ctx} {X:Cx} (G:Good C Φ k X) (es:List Expr),okEs m C es=true->PA X es (lA X.K (wA Φ m))
 | .nil,C,X,G,es,h=>by
  simp [okEs] at h;subst h;exact dq
 | .cons m r,C,X,G,[],h=>by simp [okEs] at h
 | .cons m r,C,X,G,e::es,h=>by
  simp only [okEs,hW] at h;exact bH (mE G.mono m) (mA G.mono r) (sE m G e h.1.2) (sA r G es h.2) (al h.1.1)
theorem sAnds:∀ (m:MEs) {C:Ctx} {X:Cx} (G:Good C Φ k X) (es:List Expr) (pos:Pos),okEs m C es=true->es≠[]->PE X (.BoolOp .And es pos) (lE X.K (wAnds Φ m))
 | .nil,C,X,G,es,pos,h,j=>by simp [okEs] at h;exact absurd h j
 | .cons m r,C,X,G,[],pos,h,j=>absurd rfl j
 | .cons m .nil,C,X,G,e::es,pos,h,_=>by
  simp only [okEs,hW] at h;obtain ⟨h1,h2⟩:=h;simp at h2;subst h2;exact rn (sE m G e h1.2)
 | .cons m (.cons m2 r),C,X,G,e::es,pos,h,_=>by
  simp only [okEs,hW] at h;obtain ⟨h1,h2⟩:=h
  cases es with
  | nil=>simp at h2
  | cons f fs =>
    exact zA (mE G.mono m) (mAnds G.mono _) (sE m G e h1.2) (sAnds (.cons m2 r) G (f::fs) pos (by simpa only [okEs,hW] using h2) (by simp))
theorem sOrs:∀ (m:MEs) {C:Ctx} {X:Cx} (G:Good C Φ k X) (es:List Expr) (pos:Pos),okEs m C es=true->es≠[]->PE X (.BoolOp .Or es pos) (lE X.K (wOrs Φ m))
 | .nil,C,X,G,es,pos,h,j=>by simp [okEs] at h;exact absurd h j
 | .cons m r,C,X,G,[],pos,h,j=>absurd rfl j
 | .cons m .nil,C,X,G,e::es,pos,h,_=>by
  simp only [okEs,hW] at h;obtain ⟨h1,h2⟩:=h;simp at h2;subst h2;exact rn (sE m G e h1.2)
 | .cons m (.cons m2 r),C,X,G,e::es,pos,h,_=>by
  simp only [okEs,hW] at h;obtain ⟨h1,h2⟩:=h
  cases es with
  | nil=>simp at h2
  | cons f fs =>
    exact AU (mE G.mono m) (mOrs G.mono _) (sE m G e h1.2) (sOrs (.cons m2 r) G (f::fs) pos (by simpa only [okEs,hW] using h2) (by simp))
theorem sO:∀ (m:MO) {C:Ctx} {X:Cx} (G:Good C Φ k X) (e:Option Expr),okO m C e=true->PO X e (lO X.K (wO Φ m))
 | .none,C,X,G,e,h=>by
  simp [okO] at h;subst h;exact xt
 | .some m,C,X,G,none,h=>by simp [okO] at h
 | .some m,C,X,G,some e,h=>by
  simp only [okO] at h;exact xu (mE G.mono m) (sE m G e h)
theorem sT:∀ (m:MT) {C:Ctx} {X:Cx} (G:Good C Φ k X) (e:Expr),okT m C e=true->PT X e (lT X.K (wT Φ m))
 | .tru m,C,X,G,e,h=>by
  simp only [okT,hW] at h;exact zw (mE G.mono m) (sE m G e h.2) (qd h.1)
 | .cmp op a b,C,X,G,e,h=>by
  refine mF e h fun l os rs pos h => ?_;refine cw os h fun o h => ?_;refine cw rs h fun r h => ?_;simp only [hW,decide_eq_true_eq] at h;obtain ⟨⟨⟨ho,q⟩,B⟩,hm⟩:=h;rw [FJ] at hm;subst ho;exact zr (oz G op) (eL op) (mE G.mono a) (mE G.mono b) (sE a G _ q) (sE b G _ B) hm
 | .and ts,C,X,G,e,h=>by
  refine fZ e h fun o xs _ h => ?_;replace h:=bI h;obtain ⟨ho,h⟩:=h;obtain ⟨ho,j⟩:=bI ho
  cases of_decide_eq_true ho
  exact (sAndTs ts G _ _ h (by intro z;rw [z] at j;cases j)).pt
 | .or ts,C,X,G,e,h=>by
  refine fZ e h fun o xs _ h => ?_;replace h:=bI h;obtain ⟨ho,h⟩:=h;obtain ⟨ho,j⟩:=bI ho
  cases of_decide_eq_true ho
  exact (sOrTs ts G _ _ h (by intro z;rw [z] at j;cases j)).pt
 | .not t,C,X,G,e,h=>by
  refine gP e h fun o x _ h => ?_;replace h:=bI h;obtain ⟨ho,h⟩:=h
  cases of_decide_eq_true ho
  exact zx (mT G.mono t) (sT t G _ h)
theorem sAndTs:∀ (m:MTs) {C:Ctx} {X:Cx} (G:Good C Φ k X) (es:List Expr) (pos:Pos),okTs m C es=true->es≠[]->PW X (.BoolOp .And es pos) (lT X.K (wAndTs Φ m))
 | .nil,C,X,G,es,pos,h,j=>by simp [okTs] at h;exact absurd h j
 | .cons m r,C,X,G,[],pos,h,j=>absurd rfl j
 | .cons m .nil,C,X,G,e::es,pos,h,_=>by
  simp only [okTs,hW] at h;obtain ⟨h1,h2⟩:=h;simp at h2;subst h2;exact xq (sT m G e h1)
 | .cons m (.cons m2 r),C,X,G,e::es,pos,h,_=>by
  simp only [okTs,hW] at h;obtain ⟨h1,h2⟩:=h
  cases es with
  | nil=>simp at h2
  | cons f fs =>
    exact zz (mT G.mono m) (mAndTs G.mono _) (sT m G e h1) (sAndTs (.cons m2 r) G (f::fs) pos (by simpa only [okTs,hW] using h2) (by simp))
theorem sOrTs:∀ (m:MTs) {C:Ctx} {X:Cx} (G:Good C Φ k X) (es:List Expr) (pos:Pos),okTs m C es=true->es≠[]->PW X (.BoolOp .Or es pos) (lT X.K (wOrTs Φ m))
 | .nil,C,X,G,es,pos,h,j=>by simp [okTs] at h;exact absurd h j
 | .cons m r,C,X,G,[],pos,h,j=>absurd rfl j
 | .cons m .nil,C,X,G,e::es,pos,h,_=>by
  simp only [okTs,hW] at h;obtain ⟨h1,h2⟩:=h;simp at h2;subst h2;exact zy (sT m G e h1)
 | .cons m (.cons m2 r),C,X,G,e::es,pos,h,_=>by
  simp only [okTs,hW] at h;obtain ⟨h1,h2⟩:=h
  cases es with
  | nil=>simp at h2
  | cons f fs =>
    exact AT (mT G.mono m) (mOrTs G.mono _) (sT m G e h1) (sOrTs (.cons m2 r) G (f::fs) pos (by simpa only [okTs,hW] using h2) (by simp))
theorem sTl:∀ (m:MTs) {C:Ctx} {X:Cx} (G:Good C Φ k X) (es:List Expr),okTs m C es=true->ES (fun c t=>PT X c t) es ((wTl Φ m).map (lT X.K))
 | .nil,C,X,G,es,h=>by
  simp [okTs] at h;subst h;exact .nil
 | .cons m r,C,X,G,[],h=>by simp [okTs] at h
 | .cons m r,C,X,G,e::es,h=>by
  simp only [okTs,hW] at h;exact .cons (sT m G e h.1) (sTl r G es h.2)
theorem sI:∀ (m:MI) {C:Ctx} {X:Cx} (G:Good C Φ k X) (e tg:Expr),okI m C tg e=true->PI X tg e (lI X.K (wI Φ m)) /\ ∀ x,G6 e X.env x=pure x
 | .seq m,C,X,G,e,tg,h=>by
  simp only [okI,hW] at h;exact ⟨zG (mE G.mono m) (sE m G e h.2),mH h.1⟩
 | .keys m,C,X,G,e,tg,h=>by
  simp only [okI,hW] at h;exact ⟨xV (mE G.mono m) (sE m G e h.2),mH h.1⟩
 | .rng1 a,C,X,G,e,tg,h=>by
  refine dz e h fun x xs p pos h => ?_;refine cw xs h fun y h => ?_;simp only [hW,decide_eq_true_eq] at h;obtain ⟨⟨⟨rfl,q⟩,hs⟩,B⟩:=h;exact ⟨xD (ar (mE G.mono a) aw) (G.gl q) (G.mgB _ (by decide)) (bH (mE G.mono a) aw (sE a G _ B) dq (al hs)) (al hs),fun x=>rfl⟩
 | .rng2 a b,C,X,G,e,tg,h=>by
  refine dz e h fun x xs p pos h => ?_;refine jl xs h fun y z h => ?_;simp only [hW,decide_eq_true_eq] at h;obtain ⟨⟨⟨⟨⟨rfl,q⟩,hs⟩,j⟩,B⟩,F⟩:=h;exact ⟨xE (ar (mE G.mono a) (ar (mE G.mono b) aw)) (G.gl q) (G.mgB _ (by decide)) (bH (mE G.mono a) (ar (mE G.mono b) aw) (sE a G _ B) (bH (mE G.mono b) aw (sE b G _ F) dq (al j)) (al hs)) (by rw [al hs,al j];rfl) (al j),fun x=>rfl⟩
 | .enum a,C,X,G,e,tg,h=>by
  refine dz e h fun x xs p pos h => ?_;refine cw xs h fun y h => ?_;refine dU tg h fun ts kt pt h => ?_;simp only [hW,decide_eq_true_eq] at h;obtain ⟨⟨⟨rfl,q⟩,hs⟩,B⟩:=h;exact ⟨xF (mE G.mono a) (G.gl q) (G.mgB _ (by decide)) (bH (mE G.mono a) aw (sE a G _ B) dq (al hs)) (al hs),fun x=>rfl⟩
 | .zip a b,C,X,G,e,tg,h=>by
  refine dz e h fun x xs p pos h => ?_;refine jl xs h fun y z h => ?_;refine dU tg h fun ts kt pt h => ?_;simp only [hW,decide_eq_true_eq] at h;obtain ⟨⟨⟨⟨⟨rfl,q⟩,hs⟩,j⟩,B⟩,F⟩:=h;exact ⟨zI (mE G.mono a) (mE G.mono b) (G.gl q) (G.mgB _ (by decide)) (bH (mE G.mono a) (ar (mE G.mono b) aw) (sE a G _ B) (bH (mE G.mono b) aw (sE b G _ F) dq (al j)) (al hs)) (by rw [al hs,al j];rfl) (al j),fun x=>rfl⟩
theorem sCl:∀ (m:MC) {C:Ctx} {X:Cx} (G:Good C Φ k X) (elt:Expr) (gens:List F3) (sc:Scope) (pos:Pos) (d:Nat) (_:d=0∨d=d) (p:Addr),okC m C C (gens.drop (d+1)) elt=true ->
 PB X (aY elt gens sc pos d (.ref p) X.env) (lC X.K p (wCl Φ m))
 | .last src g ifs m,C,X,G,elt,gens,sc,pos,d,_,p,h=>by
  simp only [okC] at h
  split at h
  ·rename_i t it fs a hd;simp only [hW,decide_eq_true_eq] at h;obtain ⟨⟨⟨⟨rfl,hi⟩,q⟩,B⟩,he⟩:=h;have F:gens[d+1]? = some ⟨t,it,fs,0⟩:=by
    have z:(gens.drop (d+1))[0]? = some ⟨t,it,fs,0⟩:=by rw [hd];rfl
    rw [HW] at z;simpa using z
   have j:gens[d+1+1]? = none:=by
    have z:(gens.drop (d+1))[1]? = none:=by rw [hd];rfl
    rw [HW] at z;simpa using z
   refine PB.imp (jI G.hx G.calm F (fun g' z=>by rw [j] at z;cases z) (sI src G _ t hi).1 (sG G g t q) (de (p:=p) G (bw (mE G.mono m)) (mTl G.mono ifs) (PB.imp (j9 G.hx (sE m G elt he) j) (fg (mE G.mono m))) (sTl ifs G fs B)) (sI src G _ t hi).2) (gy (mI G.mono src) (aK (bw (mE G.mono m)) (mTl G.mono ifs)))
  ·cases h
 | .more src g ifs rest,C,X,G,elt,gens,sc,pos,d,_,p,h=>by
  simp only [okC] at h
  split at h
  ·rename_i t it fs a g2 gs hd;simp only [hW,decide_eq_true_eq] at h;obtain ⟨⟨⟨⟨rfl,hi⟩,q⟩,B⟩,he⟩:=h;have F:gens[d+1]? = some ⟨t,it,fs,0⟩:=by
    have z:(gens.drop (d+1))[0]? = some ⟨t,it,fs,0⟩:=by rw [hd];rfl
    rw [HW] at z;simpa using z
   have j:gens[d+1+1]? = some g2:=by
    have z:(gens.drop (d+1))[1]? = some g2:=by rw [hd];rfl
    rw [HW] at z;simpa using z
   have L:gens.drop (d+1+1)=g2::gs:=by
    have z:(gens.drop (d+1)).drop 1=g2::gs:=by rw [hd];rfl
    rw [Ji] at z;simpa using z
   have J:∀ g',gens[d+1+1]? = some g'->g'.is_async=0:=fun g' z=>by
    rw [j] at z;cases z;exact fB he
   refine PB.imp (jI G.hx G.calm F J (sI src G _ t hi).1 (sG G g t q) (de (p:=p) G (mCl G.mono rest) (mTl G.mono ifs) (sCl rest G elt gens sc pos (d+1) (.inr rfl) p (by rw [L];exact he)) (sTl ifs G fs B)) (sI src G _ t hi).2) (gy (mI G.mono src) (aK (mCl G.mono rest) (mTl G.mono ifs)))
  ·cases h
end
end
end
section
section
variable {Φ:Phi} {k:Nat} {C:Ctx} {X:Cx}
theorem vq {sc:Scope} {ts vs:List Expr} {kk j:Nat} {pp p2:Pos} {env:Env} (hs:env.scope=sc) (q:sc.kind = .function) (h:q9 sc ts vs=true):GJ [.Tuple ts kk pp] (.Tuple vs j p2) env=pure none:=by
 have z:env.blockKind = .function:=by unfold JD;rw [hs,q];rfl
 have h':q9 sc ts vs=true:=h;unfold GJ;dsimp only;rw [z]
 by_cases c1:(!(ts.length==2 || ts.length==3) || vs.length != ts.length)=true
 ·simp only [c1,Bool.true_or,if_true]
 ·simp only [Iv] at c1;rw [c1];simp only [Jz,bne_self_eq_false,FX,if_false]
  split
  ·rfl
  ·
    generalize B:List.filterMap _ ts=L;obtain rfl:L=aX sc ts:=by
     rw [<- B];unfold aX;congr 1
     funext x
     cases x <;> first | rfl | (unfold Lm;rw [hs])
    unfold q9 at h';rw [c1] at h';simp only [Jz,Kb] at h'
    by_cases c3:((aX sc ts).length != ts.length || (aX sc ts).eraseDups.length != (aX sc ts).length)=true
    ·rw [if_pos c3]
    ·rw [if_neg c3];have F:vs.all (Lb 8)=true:=by
      rcases h' with h' | h'
      ·exact absurd (Kb _ _ |>.mpr h') c3
      ·exact h'
     rw [if_pos F]
theorem y4 {sc:Scope} {ts vs:List Expr} {ns:List Str} {kk j:Nat} {pp p2:Pos} {env:Env} (hs:env.scope=sc) (q:sc.kind = .function) (h:qb sc ts vs ns=true):GJ [.Tuple ts kk pp] (.Tuple vs j p2) env=pure (some ns):=by
 have B:env.blockKind = .function:=by unfold JD;rw [hs,q];rfl
 simp only [qb,hW,FJ,decide_eq_true_eq] at h;obtain ⟨⟨⟨⟨⟨F,G⟩,J⟩,O⟩,U⟩,Y⟩:=h;unfold GJ;dsimp only;rw [B,F];simp only [Jz,bne_self_eq_false,FX,if_false]
 split
 ·next z=>exact absurd z (by rw [Iv];exact G)
 ·generalize Z:List.filterMap _ ts=L;obtain rfl:L=aX sc ts:=by
   rw [<- Z];unfold aX;congr 1
   funext x
   cases x <;> first | rfl | (unfold Lm;rw [hs])
  rw [O,U,Y,J];rfl
theorem oB {C:Ctx} {i:Nat} {x:Str} (h:qa C i x=true):C.N[i]? = some x/\C.sc.names.lookup x=some .local:=by
 simpa [qa] using h
theorem df {tg e:Expr} {l:Nat} {env:Env} {b:Bool} (h:HX e (some tg) l env=pure b):HF [tg] e l env=pure b:=by
 unfold HF;exact h
theorem y7 {sc:Scope} {tg e:Expr} {env:Env} (hs:env.scope=sc) (j:sc.kind = .function) (h:iY sc tg e=true):GJ [tg] e env=pure none:=by
 cases tg with
 | Tuple ts kk pp =>
   cases e with
   | Tuple vs q p2=>exact vq hs j h
   | _=>rfl
 | _=>first | rfl | (simp [iY] at h;done)
theorem mK {elt:Expr} {gens:List F3} {s sc:Scope} {pos px:Pos} {x:Str} {l:Nat} {env:Env} (hs:env.scope=sc) (j:sc.kind = .function) :
 HX (.ListComp elt gens s pos) (some (.Name x px)) l env=pure (qc sc x px (.ListComp elt gens s pos)):=by
 have q:env.blockKind = .function:=by unfold JD;rw [hs,j];rfl
 unfold HX;dsimp only;rw [q];unfold qc Lm;rw [hs];rfl
theorem sC {ek ev:Expr} {gens:List F3} {s sc:Scope} {pos px:Pos} {x:Str} {l:Nat} {env:Env} (hs:env.scope=sc) (j:sc.kind = .function) :
 HX (.DictComp ek ev gens s pos) (some (.Name x px)) l env=pure (sc.names.lookup x==some .local&&px.line==(Expr.DictComp ek ev gens s pos).pos.line && !(s.names.any fun (n,k)=>n==x&&(k == .local || k == .cell))):=by
 have q:env.blockKind = .function:=by unfold JD;rw [hs,j];rfl
 unfold HX;dsimp only;rw [q];unfold Lm;rw [hs];rfl
mutual
theorem sS:∀ (m:MS) (G:Good C Φ k X) (q:C.sc.kind = .function) (s:Stmt),okS m C s=true->PS X s (lS X.K (wS Φ m))
 | .asg g m,G,q,s,h=>by
  refine gR s h fun ts e pos h1 => ?_;clear h;refine cw ts h1 fun tg h => ?_;clear h1;simp only [hW] at h;obtain ⟨⟨⟨F,he⟩,U⟩,O⟩:=h;have hw:=y7 G.sc q U;have pg:=sG G g tg F;have plain:HF [tg] e pos.line X.env=pure false->PS X (.Assign [tg] e pos) (lS X.K (gJ (wE Φ m) (bG g))):=fun hs =>
   PS.imp (qA (sE m G e he) pg hs hw (by cases tg <;> first | rfl | (simp [iY] at U;done))) (uR (mE G.mono m))
  cases tg with
  | Tuple ts a b=>exact plain (df (jm O))
  | Name x px =>
    cases e with
    | ListComp elt gens sc cpos =>
      by_cases sw:qc C.sc x px (.ListComp elt gens sc cpos)=true
      ·cases g with
       | tup gs=>exact absurd F E2
       | name i =>
         cases m with
         | comp fr N' c =>
           replace he:=bI he;have B:aZ sc X.env.scope X.N N' fr:=by rw [G.sc,G.N];exact iZ he.1
           have B':aZ sc C.sc C.N N' fr:=iZ he.1;have Y:PG X (.Name x px) (i3 i):=by
            have F:=bI F;have F:=Iu (bI F.1) F.2;exact nM G.nd (by rw [G.N];exact of_decide_eq_true F.1.1) (G.loc F.1.2) (G.own F.2)
           have Z:∀ l,HX (.ListComp elt gens sc cpos) (some (.Name x px)) l X.env=pure true:=fun l=>by rw [mK G.sc q,sw]
           have mc:=mCmp G.mono fr c
           cases c with
           | last src g ifs m =>
             have h2:=he.2;simp only [okC] at h2
             split at h2
             ·rename_i t it fs a;simp only [hW,decide_eq_true_eq] at h2;obtain ⟨⟨⟨⟨rfl,hi⟩,L⟩,ht⟩,J⟩:=h2;refine PS.imp (iq (i:=i) (g:=lG X.K (bG g)) (wi:=lI X.K (wI Φ src)) G.calm G.hx B (fun g' z=>by simp at z) (sI src G _ t hi).1 (fun s H fp=>sG (G.blk B' s H fp) g t L) (tb:=fun p=>lC X.K p (bj (wTl Φ ifs) (bZ (wE Φ m)))) (fun s H fp p => ?_) (sI src G _ t hi).2 Y (Z _)) fun D σ H h => ?_
              ·have G':=G.blk B' s H fp;exact de (p:=p) G' (bw (mE G.mono m)) (mTl G.mono ifs) (PB.imp (j9 G'.hx (sE m G' elt J) rfl) (fg (mE G.mono m))) (sTl ifs G' fs ht)
              ·exact dD (mI G.mono src) (aK (bw (mE G.mono m)) (mTl G.mono ifs)) σ H _ (jS mc D σ H h)
             ·cases h2
           | more src g ifs rest =>
             have h2:=he.2;simp only [okC] at h2
             split at h2
             ·rename_i t it fs a g2 gs;simp only [hW,decide_eq_true_eq] at h2;obtain ⟨⟨⟨⟨rfl,hi⟩,L⟩,ht⟩,J⟩:=h2;have BJ:∀ g',(g2::gs)[0]? = some g'->g'.is_async=0:=fun g' z=>by
               have z':g2=g':=by simpa using z
               subst z';exact fB J
              refine PS.imp (iq (i:=i) (g:=lG X.K (bG g)) (wi:=lI X.K (wI Φ src)) G.calm G.hx B BJ (sI src G _ t hi).1 (fun s H fp=>sG (G.blk B' s H fp) g t L) (tb:=fun p=>lC X.K p (bj (wTl Φ ifs) (wCl Φ rest))) (fun s H fp p => ?_) (sI src G _ t hi).2 Y (Z _)) fun D σ H h => ?_
              ·have G':=G.blk B' s H fp;exact de (p:=p) G' (mCl G.mono rest) (mTl G.mono ifs) (sCl rest G' elt (⟨t,it,fs,0⟩::g2::gs) sc cpos 0 (.inl rfl) p J) (sTl ifs G' fs ht)
              ·exact dD (mI G.mono src) (aK (mCl G.mono rest) (mTl G.mono ifs)) σ H _ (jS mc D σ H h)
             ·cases h2
         | _=>exact absurd he E2
      ·refine plain ?_;simp only [Iv] at sw;refine df ?_;rw [mK G.sc q,sw]
    | SetComp _ _ _ _=>cases m <;> exact absurd he E2
    | DictComp _ _ _ _ _ =>
      refine plain (df ?_);rw [sC G.sc q];unfold A0 at O;simp only [FJ] at O;rw [O]
    | _=>exact plain (df rfl)
  | _=>simp [iY] at U
 | .par i j a b,G,q,s,h=>by
  refine gR s h fun ts e pos h => ?_;refine cw ts h fun tg h => ?_;refine dU tg h fun ts k p h => ?_;refine dU e h fun es k' p' h => ?_;refine jl ts h fun t u h => ?_;refine jl es h fun e f h => ?_;refine fY t h fun x px h => ?_;refine fY u h fun y py h => ?_;simp only [hW,decide_eq_true_eq] at h;obtain ⟨⟨⟨⟨⟨⟨⟨hi,hj⟩,BK⟩,n1⟩,n2⟩,U⟩,hb⟩,hw⟩:=h;obtain ⟨i1,i2⟩:=oB hi;obtain ⟨j1,j2⟩:=oB hj;exact PS.imp (yS G.calm G.nd (by rw [G.N];exact i1) (by rw [G.N];exact j1) BK (by rw [G.sc];exact i2) (by rw [G.sc];exact j2) (bH (mE G.mono a) (ar (mE G.mono b) aw) (sE a G _ U) (bH (mE G.mono b) aw (sE b G _ hb) dq (al n2)) (al n1)) (y4 G.sc q hw) (df rfl)) (rO (ar (mE G.mono a) (ar (mE G.mono b) aw)))
 | .put o i m,G,q,s,h=>by
  refine gR s h fun ts e pos h => ?_;refine cw ts h fun tg h => ?_;refine eO tg h fun x y tp h => ?_;simp only [hW] at h;obtain ⟨⟨⟨⟨BL,O⟩,ho⟩,hi⟩,he⟩:=h;exact zK (by have:=G.units;lia) (mE G.mono m) (mE G.mono o) (mE G.mono i) (sE m G e he) (sE o G x ho) (sE i G y hi) (df (jm O)) rfl (fun v=>by cases y <;> first | rfl | (simp [dR] at BL;done))
 | .drop m,G,q,s,h=>by
  refine zW s h fun e _ h => ?_;simp only [hW] at h;exact PS.imp (wD (sE m G _ h.2) (jm h.1)) (rM (mE G.mono m))
 | .ret m,G,q,s,h=>by
  refine vh s h fun o _ h => ?_;refine jos o h fun e h => ?_;rw [wS];exact PS.imp (yN (sE m G _ h)) (uQ (mE G.mono m))
 | .ite c a b,G,q,s,h=>by
  refine BE s h fun t x y _ h => ?_;simp only [hW] at h;exact PS.imp (Aw (sT c G _ h.1.1) (sSs a G q _ h.1.2) (sSs b G q _ h.2)) (xG (mT G.mono c))
 | .for g src b,G,q,s,h=>by
  refine B5 s h fun tg it body els _ h => ?_;refine gS els h fun  h => ?_;simp only [hW] at h;obtain ⟨⟨⟨hs,F⟩,hi⟩,hb⟩:=h;exact PS.imp (yU (fun e s z=>(G.hx e s z).elim) G.calm (sI src G _ _ hi).1 (sG G g _ F) (sSs b G q _ hb) (mH hs)) (uS (mI G.mono src) (mSs G.mono b))
 | .while c b,G,q,s,h=>by
  refine xX s h fun t body els _ h => ?_;refine gS els h fun  h => ?_;simp only [hW] at h;exact PS.imp (tQ (fun e s z=>(G.hx e s z).elim) (sT c G _ h.1) (sSs b G q _ h.2)) (pL (mT G.mono c) (mSs G.mono b))
 | .frz i m,G,q,s,h=>by
  simp only [okS] at h;exact zP (sS m G q s h)
 | .pass,G,q,s,h=>by
  refine zY s h fun _ h => ?_;exact PS.imp wB jR
 | .brk,G,q,s,h=>by
  refine xY s h fun _ h => ?_;exact PS.imp tO pK
 | .cnt,G,q,s,h=>by
  refine q0 s h fun _ h => ?_;exact PS.imp nv rL
theorem sSs:∀ (m:MSs) (G:Good C Φ k X) (j:C.sc.kind = .function) (s:List Stmt),okSs m C s=true->PSs X s (lS X.K (wSs Φ m))
 | .nil,G,j,s,h=>by
  simp [okSs] at h;subst h;exact PSs.imp wz jR
 | .cons m r,G,j,[],h=>by simp [okSs] at h
 | .cons m r,G,j,s::ss,h=>by
  simp only [okSs,hW] at h;exact PSs.imp (tN (sS m G j s h.1) (sSs r G j ss h.2)) (uP (mS G.mono m) (mSs G.mono r))
end
end
end
section
structure FD where
 name:Str
 st:Stmt
 N:List Str
 np:Nat
 body:MSs
noncomputable def dW (N:List Str) (ds:List D):ao:=ds.map some++DU (N.length - ds.length) none
noncomputable def phi (T:List FD):Nat->Phi
 | 0=>fun _ _ _ _=>False
 | k+1=>fun f ds M Q => ∃ d,T[f]? = some d/\ds.length=d.np/\wSs (phi T k) d.body { nx:=fun _ M'=>Q .non M',rt:=Q } (dW d.N ds) M
theorem gW (T:List FD):∀ k f,aM (phi T k f)
 | 0,f=>fun _ _ _ _ _ q=>q.elim
 | k+1,f=>fun ds M Q Q' h ⟨d,e,l,q⟩=>⟨d,e,l,mSs (gW T k) d.body { nx:=fun _ M'=>Q .non M',rt:=Q } { nx:=fun _ M'=>Q' .non M',rt:=Q' } _ _ ⟨fun _ M' q'=>h _ _ q',h,fun _ _ z=>z,fun _ _ z=>z⟩ q⟩
noncomputable def qe (Γ:List Str) (cs:List (Str×D)) (d:FD):Bool :=
 decide ((az d.st).kind = .function) && !(az d.st).isCoroutine && !(az d.st).isGenerator&&decide (d.N.Nodup)&&decide (d.np<=d.N.length)
  && (d.N.take d.np).all (fun x=>(az d.st).names.lookup x==some .local || (az d.st).names.lookup x==some .cell)
  && (az d.st).names.all (fun y => !(y.2 == .free))&&okSs d.body ⟨Γ,d.N,az d.st,d.N,cs⟩ (bP d.st)
theorem vt {Γ:List Str} {cs:List (Str×D)} {d:FD} (h:qe Γ cs d=true):fF d.N (d.N.take d.np) (az d.st)/\(d.N.take d.np).length=d.np/\okSs d.body ⟨Γ,d.N,az d.st,d.N,cs⟩ (bP d.st)=true:=by
 simp only [qe,hW,decide_eq_true_eq,FJ] at h;obtain ⟨⟨⟨⟨⟨⟨⟨h1,h2⟩,q⟩,B⟩,O⟩,F⟩,G⟩,J⟩:=h;have j:(d.N.take d.np).length=d.np:=by rw [Eu];lia
 refine ⟨⟨h1,h2,q,B,by rw [j],fun x hx => ?_,fun y L e => ?_⟩,j,J⟩
 ·have z:=HD.mp F x hx;simpa using z
 ·have z:=HD.mp G y L;rw [e] at z;simp at z
section
variable {P:Ep} {w:EM} {K:Frag} {mg:Str->Option h6} {base:Heap}
structure wg (K:Frag) (mg:Str->Option h6) (T:List FD) (cs:List (Str×D)):Prop where
 blt:∀ x∈bltNames,mg x=none
 fns:∀ (i:Nat) (d:FD),T[i]? = some d -> ∃ f fd,Fun K d.name d.name d.st f fd/\mg d.name=some (.ref f)/\J2 K Fn d.name=some (some (.ref f))/\Binds K fd (d.N.take d.np) []
 ok:∀ d∈T,qe (T.map (·.name)) cs d=true
 cst:∀ x d,(x,d)∈cs -> ∃ u,mg x=some u/\GV K d u
theorem sD {T:List FD} {cs:List (Str×D)} (O:wg K mg T cs):∀ (k i:Nat) (d:FD) (f:Addr) (fd:Hw),T[i]? = some d->Fun K d.name d.name d.st f fd->dj P w K mg base CX0 k f fd (d.N.take d.np) (lSp K (phi T k i))
 | 0,i,d,f,fd,e,F=>⟨fun vs H Q E h=>by obtain ⟨ds,M,_,_,q⟩:=h;exact q.elim,fun A outer s H args us vs Q E _ _ _ _ h=>by obtain ⟨ds,M,_,_,q⟩:=h;exact q.elim⟩
 | k+1,i,d,f,fd,e,F=>by
   obtain ⟨S,hl,hb⟩:=vt (O.ok d (Ez e));refine F.ok S (fun vs H Q E h => ?_) fun cdv A outer s H vs Q E hr h => ?_
   ·obtain ⟨ds,M,rm,rs,d',e',l,q⟩:=h;rw [e] at e';cases e';rw [rs.length,l,hl]
   ·obtain ⟨ds,M,rm,rs,d',e',l,q⟩:=h;rw [e] at e';cases e';have G:Good ⟨T.map (·.name),d.N,az d.st,d.N,cs⟩ (phi T k) k ((gD CX0 P w K mg base d.N d.name (az d.st) f cdv A outer s H E).nox):=by
     refine ⟨fun _ _ z=>z,rfl,rfl,rfl,S.nd,fun _ _=>rfl,hr,O.blt,fun j x hx => ?_,gW T k,O.cst⟩;have B:(T.map (·.name))[j]? = some x:=hx;rw [Eo] at B
     cases Y:T[j]? with
     | none=>rw [Y] at B;cases B
     | some d2 =>
       rw [Y] at B;cases B;obtain ⟨f2,U,Z,m2,n2,b2⟩:=O.fns j d2 Y;exact ⟨f2,U,_,m2,n2,Z.kp,b2,sD O k j d2 f2 U Y Z⟩
    refine ⟨_,sSs d.body G S.kind _ hb,dW d.N ds,M, { nx:=fun _ M'=>KE' K M H Q .non M',rt:=KE' K M H Q }, ?_,rm,⟨fun ρ M' σ H' x rs' rm' q' => ?_,fun d M' v H' x rm' rd' q'=>q' v H' x rm' rd',fun _ _ _ _ _ _ _ z=>z,fun _ _ _ _ _ _ _ z=>z⟩,q⟩
    ·refine ⟨by simp [cC,dW,rs.length],fun j dd J => ?_⟩
     unfold dW at J;unfold cC
     by_cases L:j < ds.length
     ·rw [E5 (by simpa using L),Eo] at J
      cases e3:ds[j]? with
      | none=>rw [e3] at J;cases J
      | some z =>
        rw [e3] at J;cases J;obtain ⟨v,hv,rv⟩:=rs.get e3;refine ⟨v, ?_,rv⟩;rw [E5 (by rw [r4,rs.length];exact L),Eo,hv];rfl
     ·rw [D2 (by simpa using L),EY] at J
      split at J <;> cases J
    ·exact q' .non H' x rm' (Nu.mpr rfl)
theorem A3 {T:List FD} {k i:Nat} {H:Hp} {a:Addr} {ns:List Int} (B:pv H) (F:SqL K H a (ns.map V.int)) (h:phi T k i [.con (ns.map D.int)] (fun _=>none) fun d _=>d = .bl true) :
 lSp K (phi T k i) [.ref a] H (fun v _=>v = .bl true) fun _ _ _=>False:=by
 have j:RM K (fun _=>none) H:=fun _ _ z=>by cases z
 refine ⟨[.con (ns.map D.int)],fun _=>none,j,RDs.cons (Nr.mpr ⟨a,ns.map V.int,rfl, ?_,NI ns⟩) RDs.nil,gW T k i [.con (ns.map D.int)] (fun _=>none) (fun d _=>d = .bl true) (KE' K (fun _=>none) H fun v _=>v = .bl true) (fun d M' e=>fun v H' x rm rd => ?_) h⟩
 ·rcases F with (z | ⟨o,z⟩) | z
  ·rcases B a with q | ⟨o,xs,q⟩
   ·rw [z] at q;cases q
   ·rw [z] at q;cases q
  ·exact .inl ⟨o,z⟩
  ·exact .inr z
 ·subst e;exact Np.mp rd
end
theorem eQ (us:List h6) (h:us.length=1):∃ a,us=[a]:=List.length_eq_one_iff.mp h
theorem bJ (us:List h6) (h:us.length=2):∃ a b,us=[a,b]:=by
 cases us with
 | nil=>cases h
 | cons a us=>obtain ⟨b,rfl⟩:=eQ us (Nat.succ.inj h);exact ⟨a,b,rfl⟩
theorem cU (us:List h6) (h:us.length=3):∃ a b c,us=[a,b,c]:=by
 cases us with
 | nil=>cases h
 | cons a us=>obtain ⟨b,c,rfl⟩:=bJ us (Nat.succ.inj h);exact ⟨a,b,c,rfl⟩
end
section
theorem A4 {T:List FD} {k f:Nat} {d:FD} {ds:List D} {M:Mem} {Q:QD} (e:T[f]? = some d) (l:ds.length=d.np) {ρ:ao} (r:dW d.N ds = ρ)
 (h:wSs (phi T k) d.body { nx:=fun _ M'=>Q .non M',rt:=Q } ρ M):phi T (k+1) f ds M Q:=⟨d,e,l,by rw [r];exact h⟩
theorem au {T:List FD} {n f:Nat} {d:FD} {ds:List D} {M:Mem} {Q:QD} (j : 1<=n) (e:T[f]? = some d) (l:ds.length=d.np) {ρ:ao} (r:dW d.N ds = ρ)
 (h:wSs (phi T (n - 1)) d.body { nx:=fun _ M'=>Q .non M',rt:=Q } ρ M):phi T n f ds M Q:=by
 obtain ⟨k,rfl⟩:∃ k,n=k+1:=⟨n - 1,by lia⟩
 exact A4 e l r h
theorem y8 {Φ:Phi} {D:bq} {ρ:ao} {M:Mem}:wSs Φ .nil D ρ M=D.nx ρ M:=by rw [wSs];rfl
theorem ce {Φ:Phi} {s:MS} {r:MSs} {D:bq} {ρ:ao} {M:Mem}:wSs Φ (.cons s r) D ρ M=wS Φ s { D with nx:=wSs Φ r D } ρ M:=by rw [wSs];rfl
theorem oC {ds:List D} {y:D} {M:Mem} {Q:QD}:wIx (.tup ds) y M Q = ∃ i d,y = .int i/\atI ds i=some d/\Q d M:=rfl
theorem oD {ds:List D} {y:D} {M:Mem} {Q:QD}:wIx (.con ds) y M Q = ∃ i d,y = .int i/\atI ds i=some d/\Q d M:=rfl
theorem aT {a:Addr} {i:Int} {ds:List D} {d:D} {M:Mem} {Q:QD} (h:M a=some (.lst ds)) (e:atI ds i=some d) (q:Q d M):wIx (.ref a) (.int i) M Q := .inl ⟨ds,i,d,h,rfl,e,q⟩
theorem bp {a:Addr} {i:Int} {ds:List D} {v:D} {j:Nat} {M:Mem} {Q:Mem->Prop} (h:M a=some (.lst ds)) (e:ixN ds.length i=some j) (q:Q (ag M a (.lst (ds.set j v)))):fO (.ref a) (.int i) v M Q:=⟨a,rfl, .inl ⟨ds,i,j,rfl,h,e,q⟩⟩
theorem y9 {a:Addr} {ds:List D} {M:Mem} {Q:QD} (h:M a=some (.lst ds)) (q:Q (.int ds.length) M):eZ [.ref a] M Q:=⟨_,_,rfl,by simp only [gI,h],q⟩
theorem ae {a:Addr} {ds:List D} {M:Mem} (h:M a=some (.lst ds)):aJ M (.ref a)=some ds:=by simp only [aJ,h]
theorem A5 {i:Int} {M:Mem} {Q:QD}:kX [.int i] M Q=Q (.int i) M:=by
 apply propext;constructor
 ·rintro (⟨j,e,q⟩ | ⟨k,e,q⟩)
  ·cases e;exact q
  ·cases e
 ·exact fun q => .inl ⟨i,rfl,q⟩
theorem A6 {b:Bool} {M:Mem} {Q:QD}:kX [.bl b] M Q=Q (.int (if b then 1 else 0)) M:=by
 apply propext;constructor
 ·rintro (⟨j,e,q⟩ | ⟨k,e,q⟩)
  ·cases e
  ·cases e;exact q
 ·exact fun q => .inr ⟨b,rfl,q⟩
theorem B6 {i j:Int} {M:Mem} {Q:QD}:wEq (.int i) (.int j) M Q=Q (.bl (i==j)) M:=by
 simp [wEq,rb,Fb]
theorem B7 {i j:Int} {M:Mem} {Q:QD}:wNe (.int i) (.int j) M Q=Q (.bl (!(i==j))) M:=by
 simp [wNe,rb,Fb]
theorem sF {i j:Int} {M:Mem} {Q:QD}:eY (.int i) (.int j) M Q=Q (.int (i+j)) M:=rfl
theorem sH {a b:List D} {M:Mem} {Q:QD}:eY (.tup a) (.tup b) M Q=((a≠[]∨True)/\a.length+b.length<=DY/\Q (.tup (a++b)) M):=rfl
theorem sJ {i j:Int} {M:Mem} {Q:QD}:kR (.int i) (.int j) M Q=Q (.int (i - j)) M:=rfl
theorem sK {i j:Int} {M:Mem} {Q:QD}:eB (.int i) (.int j) M Q=(MulOk i j/\Q (.int (i*j)) M):=rfl
theorem sL {ds:List D} {k:Int} {M:Mem} {Q:QD}:eB (.tup ds) (.int k) M Q=(-(2 ^ 63)<=k/\k < 2 ^ 63/\ds.length*k.toNat<=DY/\Q (.tup (DU k.toNat ds).flatten) M):=rfl
theorem oE {i j:Int} {M:Mem} {Q:QD}:kx (.int i) (.int j) M Q=(0 < j/\j < 2 ^ 256/\Q (.int (i / j)) M):=rfl
theorem sM {i j:Int} {M:Mem} {Q:QD}:gG (.int i) (.int j) M Q=(0 < j/\Q (.int (i % j)) M):=rfl
theorem sN {i j:Int} {M:Mem} {Q:QD}:pB (.int i) (.int j) M Q=(0<=j/\j<=1000000/\i.natAbs < 2 ^ 64/\Q (.int (i ^ j.toNat)) M):=rfl
theorem wj {i j:Int} {M:Mem} {Q:QD}:wLt (.int i) (.int j) M Q=Q (.bl (decide (i < j))) M:=rfl
theorem wk {i j:Int} {M:Mem} {Q:QD}:wLe (.int i) (.int j) M Q=Q (.bl (decide (i<=j))) M:=rfl
theorem qf {i j:Int} {M:Mem} {Q:QD}:wGt (.int i) (.int j) M Q=Q (.bl (decide (j < i))) M:=rfl
theorem wl {i j:Int} {M:Mem} {Q:QD}:wGe (.int i) (.int j) M Q=Q (.bl (decide (j<=i))) M:=rfl
theorem sP {i:Int} {M:Mem} {Q:QD}:pC (.int i) M Q=Q (.int (-i)) M:=rfl
theorem A7 {i:Int} {M:Mem} {Q:QD}:kW [.int i] M Q=Q (.int (if i < 0 then -i else i)) M:=by simp [kW]
theorem ya {i j:Int} {M:Mem} {Q:QD}:ky [.int i, .int j] M Q=Q (.int (if j > i then j else i)) M:=by
 apply propext;constructor
 ·rintro ⟨a,b,e,q⟩;cases e;exact q
 ·exact fun q=>⟨i,j,rfl,q⟩
theorem yb {i j:Int} {M:Mem} {Q:QD}:kz [.int i, .int j] M Q=Q (.int (if j < i then j else i)) M:=by
 apply propext;constructor
 ·rintro ⟨a,b,e,q⟩;cases e;exact q
 ·exact fun q=>⟨i,j,rfl,q⟩
theorem A8 {ds:List D} {M:Mem} {Q:QD}:eZ [.con ds] M Q=Q (.int ds.length) M:=by simp [eZ,gI]
theorem A9 {ds:List D} {M:Mem} {Q:QD}:eZ [.tup ds] M Q=Q (.int ds.length) M:=by simp [eZ,gI]
theorem sQ {ds:List D} {M:Mem}:aJ M (.tup ds)=some ds:=rfl
theorem sR {ds:List D} {M:Mem}:aJ M (.con ds)=some ds:=rfl
theorem wm {α:Sort _} {a b : α}:(if true=true then a else b)=a:=rfl
theorem wn {α:Sort _} {a b : α}:(if false=true then a else b)=b:=rfl
theorem yc {ta tb:TEd} {ρ:ao} {M:Mem} {R:List D->(Mem->Prop)->Mem->Prop}:lm ta tb ρ M R=ta ρ M fun x j=>tb ρ j fun y M2 => ∃ xs ys,aJ M2 x=some xs/\aJ M2 y=some ys/\R (Hc eG xs ys) (fun M=>aJ M x=some xs/\aJ M y=some ys) M2:=by
 unfold lm aW;congr 1;funext x j;unfold bU;congr 1;funext y M2;apply propext;constructor
 ·rintro ⟨x',y',xs,ys,e,q⟩
  cases e;exact ⟨xs,ys,q⟩
 ·rintro ⟨xs,ys,q⟩;exact ⟨x,y,xs,ys,rfl,q⟩
theorem sU {x y:Str} {M:Mem} {Q:QD}:eY (.str x) (.str y) M Q=(x.length+y.length<=DY/\Q (.str (x++y)) M):=rfl
local macro_rules | `(tactic| walk_at "wp") => `(tactic| ((try dsimp only [wS,wE,wA,wAnds,wOrs,wO,wT,wAndTs,wOrTs,wTl,wI,wCl,wCmp,bG,bGs,opB,opC,opF,opM,zR,opI,bo,wD1,wC,wOp,wUn,bU,aW,wAr,eX,kN,kP,lf,iw,iy,lg,iz,lh,iA,wIf,dO,iB,wSl,iC,iK,iP,wBM,br,eF,bB,jg,ll,iG,iU,iE,iF,bZ,bj,da,fM,ja,fN,lq,fh,iI,iJ,lr,sIf,gJ,lu,lw,fi,lB,sF,sH,sU,sJ,sK,sL,oE,sM,sN,wj,wk,qf,wl,sP,sQ,sR,oC,oD,wm,wn,JN,GX,Ln,Lo,Iw,Hj,Mh,Mj,Mk,Ew,HB,Fg,Gd]);(try simp only [wS,wE,wA,wAnds,wOrs,wO,wT,wAndTs,wOrTs,wTl,wI,wCl,wCmp,bG,bGs,opB,opC,opF,opM,zR,opI,bo,wD1,wC,wOp,wUn,bU,aW,wAr,eX,kN,kP,lf,iw,iy,lg,iz,lh,iA,wIf,dO,iB,wSl,iC,iK,iP,wBM,br,eF,bB,jg,ll,yc,iG,iU,iE,iF,bZ,bj,da,fM,ja,fN,lq,fh,iI,iJ,lr,sIf,gJ,lu,lw,fi,lB,y8,
 sF,sH,sU,sJ,sK,sL,oE,sM,sN,wj,wk,qf,wl,sP,A5,A6,B6,B7,A7,ya,yb,A8,A9,sQ,sR,oC,oD,wm,wn,FX,if_false,if_true,
 JN,GX,Ln,Lo,LH,exists_eq_left',exists_eq_left,exists_eq_right,exists_and_left,exists_and_right,D.bl.injEq,D.int.injEq,D.ref.injEq,D.tup.injEq,Iw,Hj,Mh,Mj,Mk,Ew,HB,decide_eq_true_eq,MM,and_true,true_and,Fg,Gd])))
local macro_rules | `(tactic| walk_at "st") => `(tactic| ((first | rw [ce] | (dsimp only;rw [ce]));walk_at "wp"))
theorem sV {a:Addr} {kvs:List (D×D)} {k d:D} {M:Mem} {Q:QD} (h:M a=some (.fdc kvs)) (ok:bu k=true) (e:dget kvs k=some d) (q:Q d M):wIx (.ref a) k M Q := .inr (.inr ⟨kvs,d,h,ok,e,q⟩)
theorem oF {i:Nat} {t:TSd} {A:bq} {ρ:ao} {M:Mem} {a:Addr} {kvs:List (D×D)} (e : ρ[i]? = some (some (.ref a))) (m:M a=some (.dct true kvs)) (h:t A ρ (ag M a (.fdc kvs))):pV i t A ρ M:=⟨a,kvs,e, .inl ⟨m,h⟩⟩
theorem gX {a:Addr} {t:Bool} {kvs:List (D×D)} {k v:D} {M:Mem} {Q:Mem->Prop} (h:M a=some (.dct t kvs)) (ok:eA t k=true) (j:kvs.length < DY) (q:Q (ag M a (.dct t (bM kvs k v)))):fO (.ref a) k v M Q:=⟨a,rfl, .inr ⟨t,kvs,h,ok,j,q⟩⟩
theorem sW {M:Mem} {a:Addr} {o o':O}:ag (ag M a o) a o'=ag M a o':=by
 funext b;unfold ag;split <;> rfl
def Ge (M M':Mem):Prop := ∀ a o,M a=some o->M' a=some o
theorem Ge.refl {M:Mem}:Ge M M:=fun _ _ h=>h
theorem Ge.trans {M M' M'':Mem} (h:Ge M M') (g:Ge M' M''):Ge M M'':=fun _ _ e=>g _ _ (h _ _ e)
theorem Ge.new {M:Mem} {p:Addr} {o:O} (h:M p=none):Ge M (ag M p o):=fun a o' e=>by
 rw [aq (fun z=>by rw [z,h] at e;cases e)];exact e
def Box (b:Addr) (M:Mem):Prop := ∃ x y z:Int,M b=some (.lst [.int x, .int y, .int z])
structure Bx (b:Addr) (M M':Mem):Prop where
 box:Box b M'
 keep:∀ a o,a≠b->M a=some o->M' a=some o
theorem Bx.refl {b:Addr} {M:Mem} (h:Box b M):Bx b M M:=⟨h,fun _ _ _ e=>e⟩
theorem Bx.trans {b:Addr} {M M' M'':Mem} (h:Bx b M M') (g:Bx b M' M''):Bx b M M'':=⟨g.box,fun a o n e=>g.keep a o n (h.keep a o n e)⟩
theorem Bx.ge {b:Addr} {M M' M'':Mem} (h:Bx b M M') (g:Ge M' M''):Bx b M M'':=⟨by obtain ⟨x,y,z,e⟩:=h.box;exact ⟨x,y,z,g _ _ e⟩,fun a o n e=>g _ _ (h.keep a o n e)⟩
theorem Bx.put {b:Addr} {M:Mem} {x y z:Int}:Bx b M (ag M b (.lst [.int x, .int y, .int z])):=⟨⟨x,y,z,aa⟩,fun a o n e=>by rw [aq n];exact e⟩
theorem Bx.of {b:Addr} {M M':Mem} (h:Box b M) (g:Ge M M'):Bx b M M':=(Bx.refl h).ge g
theorem sX {b:BT} {tb:TCd} {chk:Mem->Prop} {N:NC} (I:List D->ao->Mem->List D->Prop) {xs:List D} {ρ:ao} {M:Mem} {acc:List D}
 (h0:I [] ρ M acc)
 (q:∀ l ρ M acc,I l ρ M acc->chk M)
 (hs:∀ l x r ρ M acc,xs=l++x::r->I l ρ M acc -> ∃ ρ',b x ρ = some ρ' /\ ∀ N':NC,(∀ ρ2 M2 j,I (l++[x]) ρ2 M2 j->N' ρ2 M2 j)->tb ρ' M acc N')
 (z:∀ ρ M acc,I xs ρ M acc->N ρ M acc):bm b tb chk N xs ρ M acc:=by
 have g:∀ (r l:List D) (ρ:ao) (M:Mem) (acc:List D),xs=l++r->I l ρ M acc->bm b tb chk N r ρ M acc:=by
  intro r
  induction r with
  | nil=>intro l ρ M acc e i;rw [Fe] at e;subst e;exact ⟨q _ _ _ _ i,z _ _ _ i⟩
  | cons x r ih =>
    intro l ρ M acc e i;obtain ⟨ρ',B,h⟩:=hs l x r ρ M acc e i;exact ⟨q _ _ _ _ i, ρ',B,h _ fun ρ2 M2 j F=>ih (l++[x]) ρ2 M2 j (by rw [e];simp) F⟩
 exact g xs [] ρ M acc rfl h0
theorem vw {b:BT} {tb:TSd} {chk:Mem->Prop} {E:bq} (I:List D->ao->Mem->Prop) {xs:List D} {ρ:ao} {M:Mem}
 (h0:I [] ρ M)
 (j:∀ l ρ M,I l ρ M->chk M)
 (hs:∀ l x r ρ M,xs=l++x::r->I l ρ M -> ∃ ρ',b x ρ = some ρ' /\ ∀ F:ao->Mem->Prop,(∀ ρ2 M2,I (l++[x]) ρ2 M2->F ρ2 M2)->tb { E with nx:=F,ct:=F,bk:=E.nx } ρ' M)
 (q:∀ ρ M,I xs ρ M->E.nx ρ M):bC b tb chk E xs ρ M:=by
 have g:∀ (r l:List D) (ρ:ao) (M:Mem),xs=l++r->I l ρ M->bC b tb chk E r ρ M:=by
  intro r
  induction r with
  | nil=>intro l ρ M e i;rw [Fe] at e;subst e;exact ⟨j _ _ _ i,q _ _ i⟩
  | cons x r ih =>
    intro l ρ M e i;obtain ⟨ρ',z,h⟩:=hs l x r ρ M e i;exact ⟨j _ _ _ i, ρ',z,h _ fun ρ2 M2 B=>ih (l++[x]) ρ2 M2 (by rw [e];simp) B⟩
 exact g xs [] ρ M rfl h0
section
variable {T:List FD}
noncomputable def j0 (s:Stmt):FD:=⟨"_law_cell_at",s,["_law_script", "_law_k"],2,
 (.cons (.ite (.cmp .lt (.var 1) (.blt .len (.cons (.var 0) .nil))) (.cons (.ret (.ix (.var 0) (.var 1)))
 .nil) .nil)
 (.cons (.ret (.int 0))
 .nil))⟩
theorem mL {α:Type} {xs:List α} {i:Int} (h0 : 0<=i) (h1:i < xs.length):∃ x,atI xs i=some x/\xs[i.toNat]? = some x:=by
 have:i.toNat < xs.length:=by lia
 refine ⟨xs[i.toNat], ?_,D0 this⟩;unfold atI ixN;simp [h0,h1,D0 this]
theorem yd {f:Nat} {s:Stmt} (hf:T[f]? = some (j0 s)) {n:Nat} (z : 1<=n) {ns:List Int} {k:Int} {M:Mem} {Q:QD} (h0 : 0<=k) (q:∀ i,Q (.int i) M):phi T n f [.con (ns.map D.int), .int k] M Q:=by
 refine au z hf rfl (ρ := [some _,some _]) rfl ?_;unfold j0;walk_at "st"
 split
 ·next h =>
  walk_at "st";obtain ⟨x,e,j⟩:=mL (xs:=ns.map D.int) h0 h;rw [Eo] at j
  cases e3:ns[k.toNat]? with
  | none=>rw [e3] at j;cases j
  | some y=>rw [e3] at j;cases j;exact ⟨_,e,q y⟩
 ·walk_at "st";exact q 0
theorem dA {i j:Int} (h : -(2 ^ 64) < i/\i < 2 ^ 64):MulOk i j := .inl h
theorem cL {i j:Int} (h : -(2 ^ 64) < j/\j < 2 ^ 64):MulOk i j := .inr (.inl h)
noncomputable def jn (s:Stmt):FD:=⟨"_law_mixed",s,["_law_number_here", "_law_k", "_law_once", "_law_twice"],2,
 (.cons (.asg (.name 2) (.bin .mod (.bin .mul (.bin .add (.bin .add (.bin .mod (.var 0) (.int 1000000007)) (.bin .mul (.int 7) (.var 1))) (.int 1)) (.int 48271)) (.int 2147483647)))
 (.cons (.asg (.name 3) (.bin .mod (.bin .mul (.var 2) (.bin .add (.bin .add (.bin .mod (.var 2) (.int 1009)) (.var 1)) (.int 3))) (.int 998244353)))
 (.cons (.ret (.bin .fdiv (.bin .mod (.bin .add (.bin .mul (.var 3) (.int 39373)) (.var 2)) (.int 2147483629)) (.int 64)))
 .nil)))⟩
noncomputable def qg (s:Stmt) (fc fm:Nat):FD:=⟨"_law_box",s,["_law_script", "_law_k", "_law_cell"],2,
 (.cons (.asg (.name 2) (.call fc (.cons (.var 0) (.cons (.var 1) .nil))))
 (.cons (.ret (.lst (.cons (.bin .mul (.blt .abs (.cons (.var 2) .nil)) (.blt .int (.cons (.cmp .ge (.blt .abs (.cons (.var 2) .nil)) (.bin .pow (.int 10) (.int 18))) .nil))) (.cons (.call fm (.cons (.var 2) (.cons (.bin .add (.int 900) (.var 1)) .nil))) (.cons (.int 0) .nil)))))
 .nil))⟩
theorem Aa {f fc fm:Nat} {s sc:Stmt} (hf:T[f]? = some (qg s fc fm)) (z:T[fc]? = some (j0 sc)) {n:Nat} (B:∀ {x k:Int} {M:Mem} {Q:QD},(∀ i,Q (.int i) M)->phi T (n - 1) fm [.int x, .int k] M Q) (G : 2<=n) {ns:List Int} {k:Int} {M:Mem} {Q:QD} (h0 : 0<=k)
 (q:∀ p x y,M p=none->Q (.ref p) (ag M p (.lst [.int x, .int y, .int 0]))):phi T n f [.con (ns.map D.int), .int k] M Q:=by
 refine au (by lia) hf rfl (ρ := [some _,some _,none]) rfl ?_
 unfold qg;walk_at "st";refine yd z (by lia) h0 fun i => ?_
 walk_at "st";refine ⟨by decide,by decide,by decide,cL ?_, ?_⟩
 ·split <;> lia
 refine B fun j => ?_;exact ⟨by rw [D1];lia,fun p F=>q p _ _ F⟩
noncomputable def mM (s:Stmt) (fm:Nat):FD:=⟨"_law_take",s,["_law_box_here", "_law_many", "_law_found", "_law_reach"],2,
 (.cons (.ite (.cmp .gt (.ix (.var 0) (.int 0)) (.int 0)) (.cons (.asg (.name 2) (.bin .mod (.ix (.var 0) (.int 0)) (.var 1)))
 (.cons (.put (.var 0) (.int 0) (.bin .fdiv (.ix (.var 0) (.int 0)) (.var 1)))
 (.cons (.ret (.var 2))
 .nil))) .nil)
 (.cons (.asg (.tup (.cons (.name 2) (.cons (.name 3) .nil))) (.tup (.cons (.int 0) (.cons (.int 1) .nil))))
 (.cons (.while (.cmp .lt (.var 3) (.var 1)) (.cons (.put (.var 0) (.int 2) (.bin .add (.ix (.var 0) (.int 2)) (.int 1)))
 (.cons (.asg (.name 2) (.bin .add (.bin .mul (.var 2) (.int 33554432)) (.call fm (.cons (.ix (.var 0) (.int 1)) (.cons (.ix (.var 0) (.int 2)) .nil)))))
 (.cons (.asg (.name 3) (.bin .mul (.var 3) (.int 33554432)))
 .nil))))
 (.cons (.ret (.bin .mod (.var 2) (.var 1)))
 .nil))))⟩
def qh (T:List FD) (n fm:Nat):Prop := ∀ {x k:Int} {M:Mem} {Q:QD},(∀ i,Q (.int i) M)->phi T n fm [.int x, .int k] M Q
theorem ye {f fm:Nat} {s:Stmt} (hf:T[f]? = some (mM s fm)) {n:Nat} (J:qh T (n - 1) fm) (O : 2<=n) {b:Addr} {m:Int} {M:Mem} {Q:QD} (L:Box b M) (h1 : 0 < m) (h2:m<=2 ^ 100)
 (q:∀ r M',0<=r->r < m->Bx b M M'->Q (.int r) M'):phi T n f [.ref b, .int m] M Q:=by
 refine au (by lia) hf rfl (ρ := [some _,some _,none,none]) rfl ?_
 unfold mM;obtain ⟨x,y,z,G⟩:=L;walk_at "st";refine aT G (d := .int x) rfl ?_;simp only [qf];walk_at "wp"
 split
 ·next hx =>
  walk_at "st";refine aT G (d := .int x) rfl ?_;walk_at "wp";refine ⟨h1, ?_⟩;walk_at "st";refine aT G (d := .int x) rfl ?_;walk_at "wp";refine ⟨h1,by lia, ?_⟩
  refine bp G (j := 0) rfl ?_;walk_at "st";exact q _ _ (Gh _ (by lia)) (FC _ h1) Bx.put
 ·next hx =>
  walk_at "st";refine ⟨by rw [D1];lia, ?_⟩
  walk_at "st";refine ⟨5, ?_⟩;have go:∀ (f:Nat) (found reach z:Int) (M':Mem),m<=reach*33554432 ^ f->M' b=some (.lst [.int x, .int y, .int z])->Bx b M M' ->
   aP (eX (wOp wLt (bo 3) (bo 1))) (wSs (phi T (n - 1)) (MSs.cons (MS.put (ME.var 0) (ME.int 2) (ME.bin BOp.add ((ME.var 0).ix (ME.int 2)) (ME.int 1)))
    (MSs.cons (MS.asg (MG.name 2) (ME.bin BOp.add (ME.bin BOp.mul (ME.var 2) (ME.int 33554432)) (ME.call fm (MEs.cons ((ME.var 0).ix (ME.int 1)) (MEs.cons ((ME.var 0).ix (ME.int 2)) MEs.nil)))))
      (MSs.cons (MS.asg (MG.name 3) (ME.bin BOp.mul (ME.var 3) (ME.int 33554432))) MSs.nil))))
    { nx:=wSs (phi T (n - 1)) (MSs.cons (MS.ret (ME.bin BOp.mod (ME.var 2) (ME.var 1))) MSs.nil) { nx:=fun x M'=>Q D.non M',rt:=Q },rt:=Q } (f+1) [some (.ref b),some (.int m),some (.int found),some (.int reach)] M':=by
   intro f
   induction f with
   | zero =>
     intro found reach z M' hm F B;simp only [aP];walk_at "wp";rw [if_neg (by lia)]
     walk_at "st";exact ⟨h1,q _ _ (Gh _ (by lia)) (FC _ h1) B⟩
   | succ f ih =>
     intro found reach z M' hm F B;rw [aP];walk_at "wp"
     split
     ·next U =>
      walk_at "st";refine aT F (d := .int z) rfl ?_;walk_at "wp";refine bp F (j := 2) rfl ?_;walk_at "st";refine ⟨cL (by decide), ?_⟩
      refine aT aa (d := .int y) rfl ?_;refine aT aa (d := .int (z+1)) rfl ?_;refine J fun i => ?_;walk_at "wp";walk_at "st";refine ⟨cL (by decide), ?_⟩
      exact ih _ _ (z+1) _ (by rw [Int.mul_assoc, <- Int.pow_succ'];exact hm) aa (B.trans Bx.put)
     ·walk_at "st";exact ⟨h1,q _ _ (Gh _ (by lia)) (FC _ h1) B⟩
  exact go 4 0 1 z M (by lia) G (Bx.refl ⟨x,y,z,G⟩)
def sY (T:List FD) (n f:Nat):Prop := ∀ {b:Addr} {m:Int} {M:Mem} {Q:QD},Box b M->0 < m->m<=2 ^ 100->(∀ r M',0<=r->r < m->Bx b M M'->Q (.int r) M')->phi T n f [.ref b, .int m] M Q
end
section
variable {T:List FD}
def mN (T:List FD) (n f:Nat):Prop := ∀ {b:Addr} {M:Mem} {Q:QD},Box b M->(∀ r M', -1000<=r->r<=1000->Bx b M M'->Q (.int r) M')->phi T n f [.ref b] M Q
def dH (ns:List Int):Prop := ∀ x∈ns, -1000<=x/\x<=1000
theorem cV {lo:Int} {n:Nat}:(bX lo n).length=n:=by simp [bX]
theorem ai {α:Type} {xs l r:List α} {x : α} (e:xs=l++x::r):l.length < xs.length:=by rw [e];simp
noncomputable def mP (s:Stmt) (fn:Nat):FD:=⟨"_law_part",s,["_law_box_here", "_law_length"],2,
 (.cons (.ret (.blt .tuple (.cons (.comp [none,(some 0)] ["_law_k", "_law_box_here"] (.last (.rng1 (.var 1)) (.name 0) .nil (.call fn (.cons (.var 1) .nil)))) .nil)))
 .nil)⟩
theorem yf {f fn:Nat} {s:Stmt} (hf:T[f]? = some (mP s fn)) {n:Nat} (B:mN T (n - 1) fn) (Y : 1<=n) {b:Addr} {L:Nat} (Z:L<=1000) {M:Mem} {Q:QD} (F:Box b M)
 (q:∀ (ns:List Int) M',ns.length=L->dH ns->Bx b M M'->Q (.tup (ns.map .int)) M'):phi T n f [.ref b, .int L] M Q:=by
 refine au (by lia) hf rfl (ρ := [some _,some _]) rfl ?_
 unfold mP;walk_at "st";refine ⟨by lia,by lia, ?_⟩
 refine sX (I:=fun l ρ M' acc => ∃ (ns:List Int) (x:Option D),acc=ns.map .int/\ns.length=l.length/\dH ns/\Bx b M M' /\ ρ = [x,some (.ref b)]) ⟨[],none,rfl,rfl,fun _ h=>by simp at h,Bx.refl F,rfl⟩ (fun _ _ _ _ _=>trivial) ?_ ?_
 ·rintro l x r ρ M1 acc e ⟨ns,o,rfl,j,hs,z,rfl⟩;refine ⟨_,rfl,fun N' G => ?_⟩;walk_at "wp";refine B z.box fun v M2 h1 h2 J => ?_;have:=ai e;rw [cV] at this;refine ⟨by rw [r4,j,D1];lia,G _ _ _ ⟨ns++[v],_,by simp,by simp [j], ?_,z.trans J,rfl⟩⟩
  intro y O
  rcases Ea.mp O with h | h
  ·exact hs y h
  ·simp at h;subst h;exact ⟨h1,h2⟩
 ·rintro ρ M1 acc ⟨ns,o,rfl,j,hs,z,rfl⟩ p U;rw [cV] at j;refine ⟨_,ns.map .int,rfl,ae aa,q ns _ (by lia) hs (z.ge (Ge.new U))⟩
noncomputable abbrev Pr:=List Int×List Int×List Int
noncomputable def prD (p:Pr):D := .tup [.tup (p.1.map .int), .tup (p.2.1.map .int), .tup (p.2.2.map .int)]
noncomputable def vx (p:Pr):Fi := .tuple [.tuple (p.1.map .int), .tuple (p.2.1.map .int), .tuple (p.2.2.map .int)]
structure mQ (L0 L1 L2:Nat) (p:Pr):Prop where
 l0:p.1.length=L0
 l1:p.2.1.length=L1
 l2:p.2.2.length=L2
 s0:dH p.1
 s1:dH p.2.1
 s2:dH p.2.2
theorem dX {k:Nat} {M:Mem}:∀ ns:List Int,aC (rb k M) (ns.map D.int)=some (ns.map PyData.int)
 | [] => rfl
 | x::r=>by
   have e:rb k M (.int x)=some (.int x):=by cases k <;> rfl
   simp [aC,e,dX r]
theorem B8 {k:Nat} {M:Mem} (p:Pr):rb (k+2) M (prD p)=some (vx p):=by
 simp [rb,prD,vx,aC,dX]
theorem sZ {k:Nat} {M:Mem}:∀ ps:List Pr,aC (rb (k+2) M) (ps.map prD)=some (ps.map vx)
 | [] => rfl
 | p::r=>by simp [aC,B8,sZ r]
theorem dY {k:Nat} {M:Mem} {a:Addr} {ds:List D} (h:M a=some (.lst ds)):rb (k+1) M (.ref a)=(aC (rb k M) ds).map Mu:=by
 simp only [rb,h]
theorem mR {Φ:Phi} {s:MS} {r:MSs} {E:bq} {ρ:ao} {M:Mem} (I:ao->Mem->Prop) (h1:∀ R:ao->Mem->Prop,(∀ ρ M,I ρ M->R ρ M)->wS Φ s { E with nx:=R } ρ M) (h2:∀ ρ M,I ρ M->wSs Φ r E ρ M):wSs Φ (.cons s r) E ρ M:=by
 rw [ce];exact h1 _ h2
theorem Bx.upd {b q:Addr} {M M':Mem} {o:O} (h:Bx b M M') (B:M q=none) (j:q≠b):Bx b M (ag M' q o) :=
 ⟨by obtain ⟨x,y,z,e⟩:=h.box;exact ⟨x,y,z,by rw [aq j.symm];exact e⟩,fun u o' nu eu=>by
   rw [aq (fun z=>by rw [z,B] at eu;cases eu)];exact h.keep u o' nu eu⟩
theorem Bx.none {b q:Addr} {M M':Mem} (h:Bx b M M') (z:M' q=none) (j:q≠b):M q=none:=by
 cases e:M q with
 | none=>rfl
 | some o=>rw [h.keep q o j e] at z;cases z
noncomputable def prL (p:Pr):List D := [.tup (p.1.map .int), .tup (p.2.1.map .int), .tup (p.2.2.map .int)]
theorem fC {k:Nat}:dH (DU k 0):=fun x h=>by
 rw [(List.mem_replicate.mp h).2];decide
theorem jo {k:Nat}:(DU k [D.int 0]).flatten=(DU k (0:Int)).map D.int:=by
 induction k with
 | zero=>rfl
 | succ k ih=>rw [Fd,F8,ih];rfl
def t5 (T:List FD) (n f:Nat):Prop := ∀ {b:Addr} {L:Nat} {M:Mem} {Q:QD},L<=1000->Box b M->(∀ (ns:List Int) M',ns.length=L->dH ns->Bx b M M'->Q (.tup (ns.map .int)) M')->phi T n f [.ref b, .int L] M Q
noncomputable def gY (s:Stmt) (ft fp:Nat):FD:=⟨"_law_scheme",s,["_law_box_here", "_law_lengths", "_law_count", "_law_products", "_law_k", "_law_product", "_law_way", "_law_side"],3,
 (.cons (.asg (.name 3) (.lst .nil))
 (.cons (.for (.name 4) (.rng1 (.var 2)) (.cons (.asg (.name 5) (.comp [none,(some 0)] ["_law_length", "_law_box_here"] (.last (.seq (.var 1)) (.name 0) .nil (.call fp (.cons (.var 1) (.cons (.var 0) .nil))))))
 (.cons (.asg (.name 6) (.call ft (.cons (.var 0) (.cons (.int 8) .nil))))
 (.cons (.ite (.and (.cons (.cmp .lt (.var 6) (.int 3)) (.cons (.cmp .ne (.var 3) (.lst .nil)) .nil))) (.cons (.put (.var 5) (.var 6) (.ix (.ix (.var 3) (.call ft (.cons (.var 0) (.cons (.blt .len (.cons (.var 3) .nil)) .nil)))) (.var 6)))
 .nil) .nil)
 (.cons (.ite (.cmp .eq (.var 6) (.int 3)) (.cons (.asg (.name 7) (.call ft (.cons (.var 0) (.cons (.int 3) .nil))))
 (.cons (.put (.var 5) (.var 7) (.bin .mul (.tup (.cons (.int 0) .nil)) (.ix (.var 1) (.var 7))))
 .nil)) .nil)
 (.cons (.drop (.meth .append (.var 3) (.blt .tuple (.cons (.var 5) .nil))))
 .nil))))))
 (.cons (.ret (.bin .add (.blt .tuple (.cons (.var 1) .nil)) (.tup (.cons (.var 3) .nil))))
 .nil)))⟩
theorem t6 {f ft fp:Nat} {s:Stmt} (hf:T[f]? = some (gY s ft fp)) {n:Nat} (BU:sY T (n - 1) ft) (BV:t5 T (n - 1) fp) (hn : 1<=n) {b a:Addr} {L0 L1 L2 c:Nat} (h0:L0<=1000) (h1:L1<=1000) (h2:L2<=1000) (hc:c<=1000) {M:Mem} {Q:QD} (hb:Box b M) (BK:a≠b) (ha:M a=some (.lst [.int L0, .int L1, .int L2]))
 (q:∀ (ps:List Pr) pr M',ps.length=c->(∀ p∈ps,mQ L0 L1 L2 p)->Bx b M M'->M pr=none->M' pr=some (.lst (ps.map prD))->Q (.tup [.int L0, .int L1, .int L2, .ref pr]) M'):phi T n f [.ref b, .ref a, .int c] M Q:=by
 refine au (by lia) hf rfl (ρ := [some _,some _,some _,none,none,none,none,none]) rfl ?_
 unfold gY;walk_at "st";refine ⟨by lia,fun pr BM => ?_⟩
 have U:pr≠b:=fun z=>by obtain ⟨x,y,w,e⟩:=hb;rw [<- z,BM] at e;cases e
 have Cb:pr≠a:=fun z=>by rw [<- z,BM] at ha;cases ha
 walk_at "st";refine ⟨by lia,by lia, ?_⟩
 refine vw (I:=fun l ρ M' => ∃ (ps:List Pr) (o4 o5 o6 o7:Option D), ρ = [some (.ref b),some (.ref a),some (.int c),some (.ref pr),o4,o5,o6,o7]/\ps.length=l.length/\(∀ p∈ps,mQ L0 L1 L2 p)/\Bx b M M'/\M' pr=some (.lst (ps.map prD)))
  ⟨[],none,none,none,none,rfl,rfl,fun _ h=>by simp at h,Bx.of hb (Ge.new BM),aa⟩ (fun _ _ _ _=>trivial) ?_ ?_
 ·rintro l x r ρ M1 e ⟨ps,o4,o5,o6,o7,rfl,hl,hp,x1,BW⟩;have C3:=ai e;rw [cV] at C3;refine ⟨_,rfl,fun F hF => ?_⟩;walk_at "wp";have BN:=x1.keep a _ BK ha;rw [ce];walk_at "wp";refine ⟨_,ae BN, ?_⟩;simp only [bm];refine ⟨ae BN,_,rfl, ?_⟩;walk_at "wp";refine BV h0 x1.box fun n0 M2 l0 s0 x2 => ?_;have BX:=x2.keep a _ BK BN;refine ⟨by simp [D1],ae BX, ?_⟩
  refine BV h1 x2.box fun n1 M3 l1 s1 x3 => ?_;have BY:=x3.keep a _ BK BX;refine ⟨by simp [D1],ae BY, ?_⟩
  refine BV h2 x3.box fun n2 M4 l2 s2 x4 => ?_;have BQ:=x4.keep a _ BK BY;refine ⟨by simp [D1],ae BQ,fun pq BL => ?_⟩
  have BJ:=x4.keep pr _ U (x3.keep pr _ U (x2.keep pr _ U BW));have x5:=((x1.trans x2).trans (x3.trans x4)).ge (Ge.new (o := .lst ([]++[D.tup (Hy D.int n0)]++[D.tup (Hy D.int n1)]++[D.tup (Hy D.int n2)])) BL);have J:pq≠b:=fun z=>by obtain ⟨x,y,w,e⟩:=x4.box;rw [<- z,BL] at e;cases e
  have L:M pq=none:=((x1.trans x2).trans (x3.trans x4)).none BL J;have Y:pr≠pq:=fun z=>by rw [z,BL] at BJ;cases BJ
  have Cc:a≠pq:=fun z=>by rw [z,BL] at BQ;cases BQ
  have BR:ag M4 pq (.lst ([]++[D.tup (Hy D.int n0)]++[D.tup (Hy D.int n1)]++[D.tup (Hy D.int n2)])) pr=some (.lst (ps.map prD)):=by rw [aq Y];exact BJ
  have BZ:ag M4 pq (.lst ([]++[D.tup (Hy D.int n0)]++[D.tup (Hy D.int n1)]++[D.tup (Hy D.int n2)])) pq=some (.lst (prL (n0,n1,n2))):=aa;have hok:mQ L0 L1 L2 (n0,n1,n2):=⟨l0,l1,l2,s0,s1,s2⟩;generalize ag M4 pq (.lst ([]++[D.tup (Hy D.int n0)]++[D.tup (Hy D.int n1)]++[D.tup (Hy D.int n2)]))=M5 at x5 BR BZ;generalize hP:(n0,n1,n2)=p0 at hok BZ;clear BL BJ x4 BQ x3 BY x2 BX hP;walk_at "st";refine BU x5.box (by decide) (by decide) fun way M6 w0 w1 x6 => ?_
  have BO:=x6.keep pr _ U BR;have C1:=x6.keep pq _ J BZ;have C2:=x5.trans x6;refine mR (I:=fun ρ' M' => ρ'=[some (.ref b),some (.ref a),some (.int c),some (.ref pr),some x,some (.ref pq),some (.int way),o7] /\ ∃ p:Pr,mQ L0 L1 L2 p/\Bx b M M'/\M' pr=some (.lst (ps.map prD))/\M' pq=some (.lst (prL p))) (fun R hR => ?_) ?_
  ·walk_at "wp"
   split
   ·next hw =>
    refine ⟨by lia,fun pe C4 => ?_⟩
    have g:=Ge.new (o := .lst []) C4;refine ⟨_,_,dY (g _ _ BO) |>.trans (by rw [sZ];rfl),dY aa, ?_⟩
    walk_at "wp";have x7:=C2.ge g;have O:=g _ _ BO;have BP:=g _ _ C1
    split
    ·next C5 =>
     have Ca : 0 < ps.length:=by
      cases ps with
      | nil=>simp [Fb,Fq] at C5
      | cons p r=>simp
     walk_at "st";refine y9 O ?_;refine BU x7.box (by rw [r4];lia) (by rw [r4];lia) fun r M8 r0 r1 x8 => ?_
     have G:=x8.keep pr _ U O;have Z:=x8.keep pq _ J BP;obtain ⟨d,e1,e2⟩:=mL r0 r1;refine aT G e1 ?_;rw [Eo] at e2
     cases e3:ps[r.toNat]? with
     | none=>rw [e3] at e2;cases e2
     | some pp =>
       rw [e3] at e2;cases e2;have ho:=hp pp (Ez e3);have C6:way=0∨way=1∨way=2:=by lia
       have x9:=x7.trans x8
       rcases C6 with rfl | rfl | rfl
       ·refine ⟨_,_,rfl,rfl,bp Z (j := 0) rfl ?_⟩;exact hR _ _ ⟨rfl,(pp.1,p0.2.1,p0.2.2),⟨ho.l0,hok.l1,hok.l2,ho.s0,hok.s1,hok.s2⟩,x9.upd L J,by rw [aq Y];exact G,aa⟩
       ·refine ⟨_,_,rfl,rfl,bp Z (j := 1) rfl ?_⟩;exact hR _ _ ⟨rfl,(p0.1,pp.2.1,p0.2.2),⟨hok.l0,ho.l1,hok.l2,hok.s0,ho.s1,hok.s2⟩,x9.upd L J,by rw [aq Y];exact G,aa⟩
       ·refine ⟨_,_,rfl,rfl,bp Z (j := 2) rfl ?_⟩;exact hR _ _ ⟨rfl,(p0.1,p0.2.1,pp.2.2),⟨hok.l0,hok.l1,ho.l2,hok.s0,hok.s1,ho.s2⟩,x9.upd L J,by rw [aq Y];exact G,aa⟩
    ·exact hR _ _ ⟨rfl,p0,hok,x7,O,BP⟩
   ·exact hR _ _ ⟨rfl,p0,hok,C2,BO,C1⟩
  ·rintro ρ M7 ⟨rfl,p,B,x7,O,BP⟩;refine mR (I:=fun ρ' M' => ∃ (o7:Option D), ρ'=[some (.ref b),some (.ref a),some (.int c),some (.ref pr),some x,some (.ref pq),some (.int way),o7] /\ ∃ p:Pr,mQ L0 L1 L2 p/\Bx b M M'/\M' pr=some (.lst (ps.map prD))/\M' pq=some (.lst (prL p))) (fun R hR => ?_) ?_
   ·walk_at "wp"
    split
    ·walk_at "st";refine BU x7.box (by decide) (by decide) fun side M8 d0 d1 x8 => ?_
     have G:=x8.keep pr _ U O;have Z:=x8.keep pq _ J BP;have x9:=x7.trans x8;have C0:=x9.keep a _ BK ha;walk_at "st";refine ⟨by rw [D1];lia, ?_⟩
     have C7:side=0∨side=1∨side=2:=by lia
     rcases C7 with rfl | rfl | rfl
     ·refine aT C0 (d := .int L0) rfl ?_;walk_at "wp";refine ⟨by lia,by lia,by rw [D1];lia,bp Z (j := 0) rfl ?_⟩
      rw [jo];exact hR _ _ ⟨_,rfl,(DU (L0:Int).toNat 0,p.2.1,p.2.2),⟨by simp,B.l1,B.l2,fC,B.s1,B.s2⟩,x9.upd L J,by rw [aq Y];exact G,aa⟩
     ·refine aT C0 (d := .int L1) rfl ?_;walk_at "wp";refine ⟨by lia,by lia,by rw [D1];lia,bp Z (j := 1) rfl ?_⟩
      rw [jo];exact hR _ _ ⟨_,rfl,(p.1,DU (L1:Int).toNat 0,p.2.2),⟨B.l0,by simp,B.l2,B.s0,fC,B.s2⟩,x9.upd L J,by rw [aq Y];exact G,aa⟩
     ·refine aT C0 (d := .int L2) rfl ?_;walk_at "wp";refine ⟨by lia,by lia,by rw [D1];lia,bp Z (j := 2) rfl ?_⟩
      rw [jo];exact hR _ _ ⟨_,rfl,(p.1,p.2.1,DU (L2:Int).toNat 0),⟨B.l0,B.l1,by simp,B.s0,B.s1,fC⟩,x9.upd L J,by rw [aq Y];exact G,aa⟩
    ·exact hR _ _ ⟨_,rfl,p,B,x7,O,BP⟩
   ·rintro ρ M9 ⟨Cd,rfl,p,B,x9,BS,C8⟩;walk_at "st";refine ⟨⟨_,BS⟩,_,_,rfl,ae C8,_,_,_,rfl,rfl,BS,by rw [r4,D1];lia, ?_⟩
    walk_at "wp";exact hF _ _ ⟨ps++[p],_,_,_,_,rfl,by simp [hl],fun p' C9=>(Ea.mp C9).elim (hp p') fun z=>by simp at z;subst z;exact B,x9.upd BM U,by rw [aa];simp [prD,prL]⟩
 ·rintro ρ M1 ⟨ps,o4,o5,o6,o7,rfl,hl,hp,x1,BW⟩;have BN:=x1.keep a _ BK ha;dsimp only;walk_at "st";refine ⟨_,_,rfl,ae BN,by rw [D1];lia, ?_⟩
  walk_at "wp";rw [cV] at hl;exact ⟨by simp,by rw [D1];lia,q ps pr M1 (by lia) hp x1 BM BW⟩
end
section
theorem am {α:Type} {f : α -> D} {b:BT} {tb:TCd} {chk:Mem->Prop} {N:NC} (I:List α -> ao->Mem->List D->Prop) {ys:List α} {xs:List D} (hx:xs=ys.map f) {ρ:ao} {M:Mem} {acc:List D}
 (h0:I [] ρ M acc)
 (q:∀ l ρ M acc,I l ρ M acc->chk M)
 (hs:∀ l x r ρ M acc,ys=l++x::r->I l ρ M acc -> ∃ ρ',b (f x) ρ = some ρ' /\ ∀ N':NC,(∀ ρ2 M2 j,I (l++[x]) ρ2 M2 j->N' ρ2 M2 j)->tb ρ' M acc N')
 (z:∀ ρ M acc,I ys ρ M acc->N ρ M acc):bm b tb chk N xs ρ M acc:=by
 subst hx;have g:∀ (r l:List α) (ρ:ao) (M:Mem) (acc:List D),ys=l++r->I l ρ M acc->bm b tb chk N (r.map f) ρ M acc:=by
  intro r
  induction r with
  | nil=>intro l ρ M acc e i;rw [Fe] at e;subst e;exact ⟨q _ _ _ _ i,z _ _ _ i⟩
  | cons x r ih =>
    intro l ρ M acc e i;obtain ⟨ρ',B,h⟩:=hs l x r ρ M acc e i;exact ⟨q _ _ _ _ i, ρ',B,h _ fun ρ2 M2 j F=>ih (l++[x]) ρ2 M2 j (by rw [e];simp) F⟩
 exact g ys [] ρ M acc rfl h0
theorem ax {α:Type} {f : α -> D} {b:BT} {tb:TSd} {chk:Mem->Prop} {E:bq} (I:List α -> ao->Mem->Prop) {ys:List α} {xs:List D} (hx:xs=ys.map f) {ρ:ao} {M:Mem}
 (h0:I [] ρ M)
 (j:∀ l ρ M,I l ρ M->chk M)
 (hs:∀ l x r ρ M,ys=l++x::r->I l ρ M -> ∃ ρ',b (f x) ρ = some ρ' /\ ∀ F:ao->Mem->Prop,(∀ ρ2 M2,I (l++[x]) ρ2 M2->F ρ2 M2)->tb { E with nx:=F,ct:=F,bk:=E.nx } ρ' M)
 (q:∀ ρ M,I ys ρ M->E.nx ρ M):bC b tb chk E xs ρ M:=by
 subst hx;have g:∀ (r l:List α) (ρ:ao) (M:Mem),ys=l++r->I l ρ M->bC b tb chk E (r.map f) ρ M:=by
  intro r
  induction r with
  | nil=>intro l ρ M e i;rw [Fe] at e;subst e;exact ⟨j _ _ _ i,q _ _ i⟩
  | cons x r ih =>
    intro l ρ M e i;obtain ⟨ρ',z,h⟩:=hs l x r ρ M e i;exact ⟨j _ _ _ i, ρ',z,h _ fun ρ2 M2 B=>ih (l++[x]) ρ2 M2 (by rw [e];simp) B⟩
 exact g ys [] ρ M rfl h0
theorem gZ {M:Mem} {x:D} {ds:List D} (h:aJ M x=some ds):gI M x=some ds.length:=by
 cases x with
 | ref a =>
   simp only [aJ] at h
   split at h
   ·next e=>cases h;simp only [gI,e]
   ·cases h
 | tup es=>cases h;rfl
 | con es=>cases h;rfl
 | _=>cases h
theorem cg {α:Type} {xs:List α} {k:Nat} {x : α} (h:xs[k]? = some x):atI xs (k:Int)=some x:=by
 have j:k < xs.length:=(DZ.mp h).1;unfold atI ixN;rw [if_pos (by lia),if_pos (by lia)]
 exact h
theorem aG {n:Nat}:bX 0 n=(Ei n).map fun i=>D.int (i:Nat):=by simp [bX]
end
section
variable {T:List FD}
def Big (ns:List Int):Prop := ∀ x∈ns, -1000000000000<=x/\x<=1000000000000
end
section
variable {T:List FD}
noncomputable def mU (x:Str) (s:Stmt):FD:=⟨"_law_mixed",s,[x, "_law_k", "_law_once", "_law_twice"],2,(jn s).body⟩
theorem t7 {f:Nat} {x:Str} {s:Stmt} (hf:T[f]? = some (mU x s)) {n:Nat} (j : 1<=n):qh T n f:=by
 intro x k M Q q;refine au j hf rfl (ρ := [some _,some _,none,none]) rfl ?_;unfold mU jn;walk_at "st";refine ⟨by decide,dA (by decide),cL (by decide),by decide, ?_⟩
 walk_at "st";refine ⟨by decide,dA ?_,by decide, ?_⟩
 ·have h1:=Gh ((x % 1000000007+7*k+1)*48271) (b := 2147483647) (by decide)
  have h2:=FC ((x % 1000000007+7*k+1)*48271) (b := 2147483647) (by decide)
  lia
 walk_at "st";refine ⟨cL (by decide),by decide,by decide,by decide, ?_⟩
 exact q _
end
section
open PySem PySem.Spec PyProof.Rows L2.Srt
variable {T:List FD}
noncomputable abbrev K3:=Int×Int×Int
noncomputable abbrev Tm:=K3×Int
noncomputable def k3D (k:K3):D := .tup [.int k.1, .int k.2.1, .int k.2.2]
noncomputable def tmD (t:Tm):D := .tup [.int t.1.1, .int t.1.2.1, .int t.1.2.2, .int t.2]
noncomputable def kcD (t:Tm):D×D:=(k3D t.1, .int t.2)
noncomputable def k3K (k:K3):Ky := .tup [.int k.1, .int k.2.1, .int k.2.2]
def klt (a b:K3):Prop:=ltK (k3K a) (k3K b)=true
theorem g9 {a b:K3} (h:k3D a=k3D b):a=b:=by
 obtain ⟨a1,a2,j⟩:=a;obtain ⟨b1,b2,b3⟩:=b;simp [k3D] at h;simp [h]
theorem yg {a b:K3} (h:k3K a=k3K b):a=b:=by
 obtain ⟨a1,a2,j⟩:=a;obtain ⟨b1,b2,b3⟩:=b;simp [k3K] at h;simp [h]
noncomputable def cf (ts:List Tm) (k:K3):Int:=((ts.filter fun t=>decide (t.1=k)).map (·.2)).sum
theorem dZ {k:K3}:cf [] k=0:=rfl
theorem bv {t:Tm} {ts:List Tm} {k:K3}:cf (t::ts) k=(if t.1=k then t.2 else 0)+cf ts k:=by
 unfold cf
 by_cases h:t.1=k
 ·rw [EH (by simpa using h),if_pos h];simp
 ·rw [EI (by simpa using h),if_neg h];simp
theorem cH {a b:List Tm} {k:K3}:cf (a++b) k=cf a k+cf b k:=by
 induction a with
 | nil=>simp [dZ]
 | cons t a ih=>rw [JL,bv,bv,ih];lia
theorem yh {ts:List Tm} {k:K3} (h:∀ t∈ts,t.1≠k):cf ts k=0:=by
 induction ts with
 | nil=>rfl
 | cons t ts ih=>rw [bv,if_neg (h t (by simp)),ih fun u j=>h u (by simp [j])];rfl
theorem Ab {ts:List Tm} (j:(ts.map (·.1)).Nodup) {t:Tm} (q:t∈ts):cf ts t.1=t.2:=by
 induction ts with
 | nil=>simp at q
 | cons u ts ih =>
   simp only [Ew,FP] at j;rw [bv]
   rcases Eb.mp q with z | z
   ·subst z;rw [if_pos rfl,yh fun v B e=>j.1 (by rw [<- e];exact Ey B)]
    lia
   ·rw [if_neg fun e=>j.1 (by rw [e];exact Ey z),ih j.2 z];lia
noncomputable def cy (L:List Tm) (k:K3) (c:Int):List Tm:=if (L.any fun p=>decide (p.1=k))=true then L.map fun p=>if p.1=k then (p.1,p.2+c) else p else L++[(k,c)]
theorem jq {L:List Tm} {k:K3}:dget (L.map kcD) (k3D k)=(L.find? fun p=>decide (p.1=k)).map fun p => .int p.2:=by
 unfold dget
 induction L with
 | nil=>rfl
 | cons t L ih =>
   by_cases h:t.1=k
   ·rw [Ew,Im (by simp [kcD,h]),Im (by simpa using h)];rfl
   ·rw [Ew,Hg (by simp only [decide_eq_true_eq];exact fun e=>h (g9 e)),Hg (by simpa using h),ih]
theorem t8 {L:List Tm} {k:K3}:((L.map kcD).any fun p=>decide (p.1=k3D k))=L.any fun p=>decide (p.1=k):=by
 induction L with
 | nil=>rfl
 | cons t L ih =>
   rw [Ew,Ho,Ho,ih];congr 1
   by_cases h:t.1=k
   ·simp [kcD,h]
   ·rw [decide_eq_false h];exact decide_eq_false (fun e=>h (g9 e))
theorem oG {L:List Tm} (j:(L.map (·.1)).Nodup) {k:K3} {c:Int}:bM (L.map kcD) (k3D k) (.int ((((L.find? fun p=>decide (p.1=k)).map (·.2)).getD 0)+c))=(cy L k c).map kcD:=by
 unfold bM cy;rw [t8]
 split
 ·next h =>
  rw [GH,GH];apply Gk;intro t q;simp only [Lc]
  by_cases e:t.1=k
  ·rw [if_pos (by rw [<- e];rfl),if_pos e]
   have:L.find? (fun p=>decide (p.1=k))=some t:=by
    clear h
    induction L with
    | nil=>simp at q
    | cons u L ih =>
      simp only [Ew,FP] at j
      rcases Eb.mp q with z | z
      ·subst z;rw [Im (by simpa using e)]
      ·rw [Hg (by simp;intro B;exact j.1 (by rw [B, <- e];exact Ey z))]
       exact ih j.2 z
   rw [this];rfl
  ·rw [if_neg (c:=(kcD t).1=k3D k) (fun z=>e (g9 z)),if_neg e]
 ·next h =>
  have:L.find? (fun p=>decide (p.1=k))=none:=by
   rw [List.find?_eq_none];intro x hx;simp only [decide_eq_true_eq];intro e;exact h (GY.mpr ⟨x,hx,by simpa using e⟩)
  rw [this];simp [kcD]
theorem ki {L:List Tm} {k:K3} {c:Int}:(cy L k c).map (·.1)=if (L.any fun p=>decide (p.1=k))=true then L.map (·.1) else L.map (·.1)++[k]:=by
 unfold cy
 split
 ·rw [GH];apply Gk;intro t _;simp only [Lc]
  split <;> rfl
 ·simp
theorem j3 {L:List Tm} (j:(L.map (·.1)).Nodup) {k:K3} {c:Int}:((cy L k c).map (·.1)).Nodup:=by
 rw [ki]
 split
 ·exact j
 ·next h =>
  refine Hu.mpr ⟨j,by simp,fun a z b q e => ?_⟩
  simp at q;subst q;subst e;obtain ⟨t,B,e⟩:=ED.mp z;exact h (GY.mpr ⟨t,B,by simpa using e⟩)
theorem vy {L:List Tm} {k:K3} {c:Int} {a:K3} (h:a∈(cy L k c).map (·.1)):a∈L.map (·.1)∨a=k:=by
 rw [ki] at h
 split at h
 ·exact .inl h
 ·rcases Ea.mp h with z | z
  ·exact .inl z
  ·exact .inr (by simpa using z)
theorem mV {L:List Tm} {k:K3} {c:Int}:(cy L k c).length<=L.length+1:=by
 unfold cy;split <;> simp
theorem yi {L:List Tm} (j:(L.map (·.1)).Nodup) {k a:K3} {c:Int}:cf (cy L k c) a=cf L a+if k=a then c else 0:=by
 unfold cy
 split
 ·next h =>
  obtain ⟨t,q,e⟩:=GY.mp h;have e:t.1=k:=by simpa using e
  clear h
  induction L with
  | nil=>simp at q
  | cons u L ih =>
    simp only [Ew,FP] at j;rw [Ew,bv,bv]
    by_cases eu:u.1=k
    ·have rest:(L.map fun p=>if p.1=k then (p.1,p.2+c) else p)=L:=by
      conv=>rhs;rw [<- List.map_id L]
      apply Gk;intro p B;rw [if_neg fun z=>j.1 (by rw [eu, <- z];exact Ey B)];rfl
     rw [rest,if_pos eu];dsimp only
     by_cases ea:u.1=a
     ·rw [if_pos ea,if_pos ea,if_pos (by rw [<- eu];exact ea)];lia
     ·rw [if_neg ea,if_neg ea,if_neg (by rw [<- eu];exact ea)];lia
    ·rcases Eb.mp q with z | z
     ·exact absurd (by rw [<- z];exact e) eu
     ·rw [ih j.2 z,if_neg eu];lia
 ·rw [cH,bv,dZ];simp
noncomputable def ba (ts:List Tm):List Tm:=ts.foldl (fun L t=>cy L t.1 t.2) []
theorem dI {ts:List Tm} {t:Tm}:ba (ts++[t])=cy (ba ts) t.1 t.2:=by simp [ba]
theorem eR {α:Type} {P:List α -> Prop} (h0:P []) (h1:∀ l x,P l->P (l++[x])) (l:List α):P l:=by
 have:∀ r:List α,P r.reverse:=by
  intro r
  induction r with
  | nil=>exact h0
  | cons x r ih=>rw [List.reverse_cons];exact h1 _ _ ih
 have:=this l.reverse;rw [Kw] at this;exact this
theorem eS (ts:List Tm):((ba ts).map (·.1)).Nodup:=eR (P:=fun ts=>((ba ts).map (·.1)).Nodup) (by simp [ba]) (fun l x ih=>by rw [dI];exact j3 ih) ts
theorem yj (ts:List Tm) (k:K3):cf (ba ts) k=cf ts k:=eR (P:=fun ts=>cf (ba ts) k=cf ts k) rfl (fun l x ih=>by
 rw [dI,yi (eS l),ih,cH,bv,dZ];lia) ts
theorem mW (ts:List Tm):(ba ts).length<=ts.length:=eR (P:=fun ts=>(ba ts).length<=ts.length) (by simp [ba]) (fun l x ih=>by
 rw [dI];have:=mV (L:=ba l) (k:=x.1) (c:=x.2);simp;lia) ts
theorem B9 {ts:List Tm} {k:K3}:Mi.cf (ts.filter fun t => !(t.2==0)) k=Mi.cf ts k:=by
 induction ts with
 | nil=>rfl
 | cons t ts ih =>
   rw [bv]
   by_cases h:t.2=0
   ·rw [EI (by simp [h]),ih,h];split <;> lia
   ·rw [EH (by simp [h]),bv,ih]
theorem Ge.upd {M j:Mem} {d:Addr} {o:O} (g:Ge M j) (hd:M d=none):Ge M (ag j d o):=fun a o' e=>by
 rw [aq (fun z=>by rw [z,hd] at e;cases e)];exact g _ _ e
end
section
open PySem PySem.Spec PyProof.Rows L2.Srt
variable {T:List FD}
noncomputable def gi (l:List Int) (i:Int):Int:=l.getD i.toNat 0
theorem hJ {l:List Int} {i:Int} (h0 : 0<=i) (h1:i < l.length):atI (l.map D.int) i=some (.int (gi l i)):=by
 obtain ⟨k,rfl⟩:∃ k:Nat,i=k:=⟨i.toNat,by lia⟩
 refine cg ?_;unfold gi;rw [Eo,Ed,EU,D0 (show k < l.length by lia)];rfl
end
section
open PySem PySem.Spec PyProof.Rows L2.Srt
theorem cn {b p:Addr} {M:Mem} (j:Box b M) (q:M p=none):p≠b:=fun z=>by
 obtain ⟨x,y,w,e⟩:=j;rw [<- z,q] at e;cases e
end
section
open PySem PySem.Spec PyProof.Rows L2.Srt
variable {T:List FD}
noncomputable def vz (L:List Tm) (k:K3) (c:Int):List Tm:=if (L.any fun p=>decide (p.1=k))=true then L.map (fun p=>if p.1=k then (p.1,c) else p) else L++[(k,c)]
theorem vA {L:List Tm} {k:K3} {c:Int}:bM (L.map kcD) (k3D k) (.int c)=(vz L k c).map kcD:=by
 unfold bM vz;rw [t8]
 split
 ·rw [GH,GH];refine Gk fun p _ => ?_;simp only [Lc]
  by_cases h:p.1=k
  ·rw [if_pos h,if_pos (show (kcD p).1=k3D k by show k3D p.1=k3D k;rw [h])];rfl
  ·rw [if_neg h,if_neg (show ¬ (kcD p).1=k3D k from fun z=>h (g9 z))]
 ·rw [F7];rfl
theorem gB {L:List Tm} (B:(L.map (·.1)).Nodup) {ys:List D} (q:ys.Perm ((L.map kcD).map (·.1))) (hs:m9 ys):∃ rs:List Tm,rs.Perm L/\ys=rs.map (fun t=>k3D t.1)/\rs.Pairwise fun a b=>klt a.1 b.1:=by
 have F:(L.map kcD).map (·.1)=L.map fun t=>k3D t.1:=by rw [GH];rfl
 rw [F] at q;obtain ⟨rs,z,p2⟩:=jZ (fun t:Tm=>k3D t.1) q rfl;refine ⟨rs,z,p2.symm, ?_⟩;have j:(rs.map (·.1)).Nodup:=(z.map (·.1)).nodup_iff.mpr B;unfold m9 at hs;rw [<- p2,Ga] at hs;rw [FK,Ga] at j;refine (hs.and j).imp ?_;rintro a b ⟨h1,h2⟩;unfold klt
 cases G:ltK (k3K a.1) (k3K b.1) with
 | true=>rfl
 | false=>exact absurd (yg (jV _ _ G h1)) h2
theorem dB {L:List Tm} (j:(L.map (·.1)).Nodup) {t:Tm} (q:t∈L):dget (L.map kcD) (k3D t.1)=some (.int t.2):=by
 rw [jq];have:L.find? (fun p=>decide (p.1=t.1))=some t:=by
  induction L with
  | nil=>simp at q
  | cons x L ih =>
    simp only [Ew,FP] at j
    rcases Eb.mp q with z | z
    ·subst z;simp
    ·have:x.1≠t.1:=fun e=>j.1 (by rw [e];exact Ey z)
     rw [Hg (by simpa using this)]
     exact ih j.2 z
 rw [this];rfl
theorem vB {L:List Tm} (j:(L.map (·.1)).Nodup):pT (L.map kcD)=L.map kcD:=by
 have g:∀ (r l:List Tm),(((l++r).map (·.1)).Nodup)->(r.map kcD).foldl (fun a kv=>bM a kv.1 kv.2) (l.map kcD)=(l++r).map kcD:=by
  intro r
  induction r with
  | nil=>intro l _;simp
  | cons t r ih =>
    intro l h;rw [Ew,Gc];have e:bM (l.map kcD) (kcD t).1 (kcD t).2=(l++[t]).map kcD:=by
     show bM (l.map kcD) (k3D t.1) (.int t.2)=_;rw [vA];unfold vz;rw [if_neg];intro z;obtain ⟨p,q,e⟩:=GY.mp z;rw [F7,Hu] at h;exact h.2.2 _ (Ey q) _ (Ey (Ef ..)) (of_decide_eq_true e)
    rw [e,ih (l++[t]) (by rw [E9];exact h)]
    rw [E9];rfl
 have:=g L [] (by simpa using j)
 simpa [pT] using this
theorem qi (k:K3):bu (k3D k)=true:=rfl
end
section
open PySem PySem.Spec PyProof.Rows L2.Srt
variable {T:List FD}
noncomputable def idx (l:List Int):List (Int×Int):=l.mapIdx fun i x=>((i:Nat),x)
noncomputable def nz (l:List Int):List (Int×Int):=(idx l).filter fun q => !(q.2==0)
theorem dg {l:List Int}:(idx l).length=l.length:=by simp [idx]
noncomputable def bV (i a j b:Int) (zs:List (Int×Int)):List Tm:=zs.map fun z=>((z.1,i,j),a*b*z.2)
noncomputable def bW (i a:Int) (ys zs:List (Int×Int)):List Tm:=ys.flatMap fun y=>bV i a y.1 y.2 zs
noncomputable def bE (xs ys zs:List (Int×Int)):List Tm:=xs.flatMap fun x=>bW x.1 x.2 ys zs
noncomputable def vC (p:Pr):List Tm:=bE (nz p.1) (nz p.2.1) (nz p.2.2)
noncomputable def qj (ps:List Pr):List Tm:=ps.flatMap vC
theorem mX {i a j b:Int} {zs:List (Int×Int)}:(bV i a j b zs).length=zs.length:=by simp [bV]
theorem mY {i a:Int} {ys zs:List (Int×Int)}:(bW i a ys zs).length=ys.length*zs.length:=by
 unfold bW
 induction ys with
 | nil=>simp
 | cons y ys ih=>rw [Fw,z4,ih,mX,Fg,FG];lia
theorem mZ {xs ys zs:List (Int×Int)}:(bE xs ys zs).length=xs.length*(ys.length*zs.length):=by
 unfold bE
 induction xs with
 | nil=>simp
 | cons y ys ih=>rw [Fw,z4,ih,mY,Fg,FG];lia
structure IsSum (ps:List Pr) (L:List Tm):Prop where
 nd:(L.map (·.1)).Nodup
 nz:∀ t∈L,t.2≠0
 cf:∀ k,cf L k=cf (qj ps) k
def Od (d:Addr) (M M':Mem):Prop := ∀ a,a≠d->M' a=M a
theorem Od.refl {d:Addr} {M:Mem}:Od d M M:=fun _ _=>rfl
theorem Od.trans {d:Addr} {M M' M'':Mem} (h:Od d M M') (g:Od d M' M''):Od d M M'':=fun a n=>(g a n).trans (h a n)
theorem Od.upd {d:Addr} {M M':Mem} {o:O} (h:Od d M M'):Od d M (ag M' d o):=fun a n=>(aq n).trans (h a n)
noncomputable abbrev bd (x:Int):Prop := -1000000000000<=x/\x<=1000000000000
end
section
open PySem PySem.Spec PyProof.Rows L2.Srt
noncomputable def S1 (zs:List (Int×Int)) (k:Int):Int:=(zs.map fun z=>if z.1=k then z.2 else 0).sum
theorem dh {z:Int×Int} {zs:List (Int×Int)} {k:Int}:S1 (z::zs) k=(if z.1=k then z.2 else 0)+S1 zs k:=by simp [S1]
theorem jr {α:Type} {F : α -> List Tm} {k:K3}:∀ l:List α,cf (l.flatMap F) k=(l.map fun x=>cf (F x) k).sum
 | [] => rfl
 | x::l=>by rw [Fw,cH,jr l];simp
theorem oH {i a j b k i' j':Int}:∀ {zs:List (Int×Int)},cf (bV i a j b zs) (k,i',j')=if i=i'/\j=j' then a*b*S1 zs k else 0
 | [] => by simp [bV,dZ,S1]
 | z::zs=>by
   rw [show bV i a j b (z::zs)=((z.1,i,j),a*b*z.2)::bV i a j b zs from rfl,bv,oH,dh]
   by_cases h:i=i'/\j=j'
   ·obtain ⟨rfl,rfl⟩:=h
    by_cases q:z.1=k
    ·subst q;simp [Int.mul_add]
    ·have : ¬ ((z.1,i,j)=(k,i,j)):=fun e=>q (congrArg (·.1) e);rw [if_neg this,if_pos ⟨rfl,rfl⟩,if_pos ⟨rfl,rfl⟩,if_neg q];simp
   ·have : ¬ ((z.1,i,j)=(k,i',j')):=fun e=>h ⟨congrArg (·.2.1) e,congrArg (·.2.2) e⟩;rw [if_neg this,if_neg h,if_neg h];rfl
theorem oI {i a k i' j':Int} {zs:List (Int×Int)}:∀ {ys:List (Int×Int)},cf (bW i a ys zs) (k,i',j')=if i=i' then a*S1 ys j'*S1 zs k else 0
 | [] => by simp [bW,dZ,S1]
 | y::ys=>by
   rw [show bW i a (y::ys) zs=bV i a y.1 y.2 zs++bW i a ys zs from by simp [bW],cH,oI,oH,dh]
   by_cases h:i=i'
   ·subst h
    by_cases j:y.1=j'
    ·subst j;simp [Int.mul_add,MB]
    ·rw [if_neg (fun e=>j e.2),if_pos rfl,if_pos rfl,if_neg j];simp
   ·rw [if_neg (fun e=>h e.1),if_neg h,if_neg h];rfl
theorem jt {k i' j':Int} {ys zs:List (Int×Int)}:∀ {xs:List (Int×Int)},cf (bE xs ys zs) (k,i',j')=S1 xs i'*S1 ys j'*S1 zs k
 | [] => by simp [bE,dZ,S1]
 | x::xs=>by
   rw [show bE (x::xs) ys zs=bW x.1 x.2 ys zs++bE xs ys zs from by simp [bE],cH,jt,oI,dh]
   by_cases h:x.1=i'
   ·subst h;simp [MB]
   ·rw [if_neg h,if_neg h];simp
noncomputable def gz (l:List Int) (i:Int):Int:=if i < 0 then 0 else l.getD i.toNat 0
theorem t9 {l:List Int} {i:Int} (h:i < 0):gz l i=0:=if_pos h
theorem tf {i:Int}:gz [] i=0:=by unfold gz;split <;> simp
theorem ju {x:Int} {l:List Int} {i:Int}:gz (x::l) i=if i=0 then x else gz l (i - 1):=by
 unfold gz
 by_cases h:i < 0
 ·rw [if_pos h,if_neg (by lia),if_pos (by lia)]
 ·rw [if_neg h]
  by_cases h0:i=0
  ·subst h0;simp
  ·rw [if_neg h0,if_neg (by lia)]
   obtain ⟨n,rfl⟩:∃ n:Nat,i=((n+1:Nat):Int):=⟨(i - 1).toNat,by lia⟩
   rw [show (((n+1:Nat):Int) - 1).toNat=n by lia,Ed]
   simp
theorem tj {a b:List Int}:∀ {i:Int},gz (a++b) i=if i < a.length then gz a i else gz b (i - a.length):=by
 induction a with
 | nil =>
   intro i
   by_cases h:i < 0
   ·rw [if_pos (by simpa using h),IS,t9 h,t9 h]
   ·rw [if_neg (by simpa using h)];simp
 | cons x a ih =>
   intro i;rw [JL,ju,ju,ih,Fg]
   by_cases h0:i=0
   ·subst h0;rw [if_pos rfl,if_pos rfl,if_pos (by lia)]
   ·rw [if_neg h0,if_neg h0]
    by_cases h:i < ((a.length+1:Nat):Int)
    ·rw [if_pos (by lia),if_pos h]
    ·rw [if_neg (by lia),if_neg h]
     congr 1;lia
theorem j4 {l:List Int} {i:Int} (h:gz l i≠0) : 0<=i/\i < l.length:=by
 unfold gz at h
 by_cases hi:i < 0
 ·rw [if_pos hi] at h;exact absurd rfl h
 ·rw [if_neg hi] at h;refine ⟨by lia, ?_⟩
  by_cases hl:i.toNat < l.length
  ·lia
  ·rw [EU,Gx (by lia)] at h;exact absurd rfl h
theorem tm {a b:List (Int×Int)} {k:Int}:S1 (a++b) k=S1 a k+S1 b k:=by simp [S1]
theorem j5 {k:Int}:∀ zs:List (Int×Int),S1 (zs.filter fun q => !(q.2==0)) k=S1 zs k
 | [] => rfl
 | z::zs=>by
   rw [dh]
   by_cases h:z.2=0
   ·rw [EI (by simp [h]),j5 zs,h];simp
   ·rw [EH (by simp [h]),dh,j5 zs]
theorem e9 (l:List Int) (k:Int):S1 (idx l) k=gz l k:=eR (P:=fun l=>S1 (idx l) k=gz l k) (by rw [tf];rfl) (fun l x ih=>by
 have e:idx (l++[x])=idx l++[(((l.length:Nat):Int),x)]:=by simp [idx,List.mapIdx_append]
 rw [e,tm,ih,tj,dh];simp only [S1,HB,List.sum_nil]
 by_cases h:k < l.length
 ·rw [if_pos h,if_neg (by lia)];lia
 ·rw [if_neg h,ju,tf];have z:gz l k=0:=by
   cases Decidable.em (gz l k=0) with
   | inl h=>exact h
   | inr h'=>exact absurd (j4 h').2 h
  rw [z]
  by_cases e:(l.length:Int)=k
  ·rw [if_pos e,if_pos (by lia)];lia
  ·rw [if_neg e,if_neg (by lia)];rfl) l
theorem yk {p:Pr} {k i j:Int}:cf (vC p) (k,i,j)=gz p.1 i*gz p.2.1 j*gz p.2.2 k:=by
 unfold vC;rw [jt];unfold nz;rw [j5,j5,j5,e9,e9,e9]
noncomputable def Tn (ps:List Pr) (k i j:Int):Int:=(ps.map fun p=>gz p.1 i*gz p.2.1 j*gz p.2.2 k).sum
theorem oJ {ps:List Pr} {k i j:Int}:cf (qj ps) (k,i,j)=Tn ps k i j:=by
 unfold qj Tn;rw [jr];congr 1;exact Gk fun p _=>yk
theorem ym {p:Pr} {a:List Pr} {k i j:Int}:Tn (p::a) k i j=gz p.1 i*gz p.2.1 j*gz p.2.2 k+Tn a k i j:=by simp [Tn]
theorem tq {q B L2:Nat} {k i j:Int}:∀ {us:List Pr},(∀ u∈us,u.1.length=q/\u.2.1.length=B/\u.2.2.length=L2)->Tn us k i j≠0->(0<=k/\k < L2)/\(0<=i/\i < q)/\(0<=j/\j < B)
 | [],_,h=>absurd (by simp [Tn]) h
 | u::us,F,h=>by
   obtain ⟨L,O,U⟩:=F u (by simp)
   rw [ym] at h
   by_cases z:gz u.1 i*gz u.2.1 j*gz u.2.2 k=0
   ·rw [z,Int.zero_add] at h;exact tq (fun v G=>F v (by simp [G])) h
   ·have a1:gz u.1 i≠0:=fun e=>z (by rw [e];simp)
    have a2:gz u.2.1 j≠0:=fun e=>z (by rw [e];simp)
    have J:gz u.2.2 k≠0:=fun e=>z (by rw [e];simp)
    have:=j4 a1;have:=j4 a2;have:=j4 J;lia
theorem IsSum.val {ps:List Pr} {L:List Tm} (h:IsSum ps L) {t:Tm} (j:t∈L):Tn ps t.1.1 t.1.2.1 t.1.2.2=t.2:=by
 rw [<- oJ, <- h.cf,Ab h.nd j]
end
section
open PySem PySem.Spec PyProof.Rows L2.Srt
noncomputable def Sp (p:Int) (n:Nat):List (Nat->Int)->(Nat->Int)->Prop
 | [],f => ∀ x,x < n->p ∣ f x
 | b::bs,f => ∃ c:Int,Sp p n bs fun x=>f x - c*b x
theorem Sp.congr {p:Int} {n:Nat}:∀ {bs:List (Nat->Int)} {f g:Nat->Int},(∀ x,x < n->p ∣ f x - g x)->Sp p n bs f->Sp p n bs g
 | [],f,g,h,s=>fun x hx=>by
  have:=Jx (s x hx) (h x hx)
  rwa [show f x - (f x - g x)=g x by lia] at this
 | b::bs,f,g,h,⟨c,s⟩=>⟨c,s.congr fun x hx=>by
   have:=h x hx
   rwa [show f x - c*b x - (g x - c*b x)=f x - g x by lia]⟩
theorem NG {p:Int} {n:Nat}:∀ {bs:List (Nat->Int)} {f:Nat->Int},(∀ x,x < n->p ∣ f x)->Sp p n bs f
 | [],f,h=>h
 | b::bs,f,h=>⟨0,NG fun x hx=>by simpa using h x hx⟩
theorem Sp.comb {p:Int} {n:Nat} {k:Int}:∀ {bs:List (Nat->Int)} {f g:Nat->Int},Sp p n bs f->Sp p n bs g->Sp p n bs fun x=>f x+k*g x
 | [],f,g,h,s=>fun x hx=>MD (h x hx) (G1 (s x hx))
 | b::bs,f,g,⟨c,h⟩,⟨d,s⟩=>⟨c+k*d,(h.comb (k:=k) s).congr fun x hx=>by
   rw [MB,Int.mul_sub,Int.mul_assoc,show f x - c*b x+(k*g x - k*(d*b x)) - (f x+k*g x - (c*b x+k*(d*b x)))=0 by lia]
   exact Hh _⟩
theorem Sp.snoc {p:Int} {n:Nat} {t:Nat->Int}:∀ {bs:List (Nat->Int)} {f:Nat->Int},Sp p n (bs++[t]) f ↔ ∃ c:Int,Sp p n bs fun x=>f x - c*t x
 | [],f=>KO
 | b::bs,f=>by
   constructor
   ·rintro ⟨c,h⟩;obtain ⟨d,h⟩:=Sp.snoc.mp h;exact ⟨d,c,h.congr fun x _=>by rw [show f x - c*b x - d*t x - (f x - d*t x - c*b x)=0 by lia];exact Hh _⟩
   ·rintro ⟨d,c,h⟩;exact ⟨c,Sp.snoc.mpr ⟨d,h.congr fun x _=>by rw [show f x - d*t x - c*b x - (f x - c*b x - d*t x)=0 by lia];exact Hh _⟩⟩
structure Vr (p:Int) (n:Nat) (v:List Int):Prop where
 len:v.length=n
 inn:∀ x∈v,0<=x/\x < p
noncomputable def gf (v:List Int):Nat->Int:=fun x=>gz v (x:Nat)
theorem cq {v:List Int} {x:Nat} (h:x < v.length):v[x]? = some (gf v x):=by
 unfold gf gz;rw [if_neg (by lia),Ed,EU,D0 h];rfl
theorem Vr.at {p:Int} {n:Nat} {v:List Int} (h:Vr p n v) {x:Nat} (hx:x < n) : 0<=gf v x/\gf v x < p:=h.inn _ (Ez (cq (by rw [h.len];exact hx)))
theorem Vr.ext {p:Int} {n:Nat} {u v:List Int} (j:Vr p n u) (q:Vr p n v) (h:∀ x,x < n->p ∣ gf u x - gf v x):u=v:=by
 apply GG;intro x
 by_cases hx:x < n
 ·rw [cq (by rw [j.len];exact hx),cq (by rw [q.len];exact hx)]
  have a:=j.at hx;have b:=q.at hx;obtain ⟨k,F⟩:=h x hx;congr 1;have B : 0 < p:=by lia
  have:k=0:=by
   apply Jn;intro z
   rcases Lp z with h1 | h1
   ·have:=IK (show k <= -1 by lia) (Int.le_of_lt B)
    lia
   ·have:=IK (show 1<=k by lia) (Int.le_of_lt B)
    lia
  rw [this] at F;lia
 ·rw [Gx (by rw [j.len];lia),Gx (by rw [q.len];lia)]
noncomputable def cb (p t:Int) (u v:List Int):List Int:=Hc (fun a b=>(a+t*b) % p) u v
theorem cW {p t:Int} (j : 0 < p) {n:Nat} {u v:List Int} (z:u.length=n) (B:v.length=n):Vr p n (cb p t u v):=by
 refine ⟨by unfold cb;rw [IZ,z,B];simp,fun x hx => ?_⟩
 unfold cb at hx;rw [<- List.map_uncurry_zip_eq_zipWith] at hx;obtain ⟨q,_,rfl⟩:=ED.mp hx;exact ⟨Gh _ (by lia),FC _ j⟩
theorem qk {p t:Int} {n:Nat} {u v:List Int} (j:u.length=n) (q:v.length=n) {x:Nat} (hx:x < n):gf (cb p t u v) x=(gf u x+t*gf v x) % p:=by
 have z:(cb p t u v).length=n:=by unfold cb;rw [IZ,j,q];simp
 have e:=cq (v:=cb p t u v) (x:=x) (by rw [z];exact hx)
 unfold cb at e ⊢;rw [Ke,cq (by rw [j];exact hx),cq (by rw [q];exact hx)] at e
 exact (FO.inj e).symm
theorem ga {p a:Int}:p ∣ a - a % p:=by
 have:=Int.mul_ediv_add_emod a p;exact ⟨a / p,by lia⟩
theorem cI {p t:Int} {n:Nat} {u v:List Int} (j:u.length=n) (q:v.length=n) {x:Nat} (hx:x < n):p ∣ (gf u x+t*gf v x) - gf (cb p t u v) x:=by rw [qk j q hx];exact ga
theorem vD {p:Int} (j:p=2∨p=3) {w:Int} (h0 : 0 < w) (h1:w < p):p ∣ w*w - 1:=by
 rcases j with rfl | rfl
 ·have:w=1:=by lia
  subst this;exact ⟨0,by lia⟩
 ·have:w=1∨w=2:=by lia
  rcases this with rfl | rfl
  ·exact ⟨0,by lia⟩
  ·exact ⟨1,by lia⟩
theorem tu {p:Int} (B:p=2∨p=3) {n:Nat} {A:List (Nat->Int)} {t u u':List Int} (F:t.length=n) (G:Vr p n u) (j:Vr p n u') (J:Sp p n A (gf u)) (q:Sp p n A (gf u')) (L : ¬ Sp p n A (gf t)) {s s':Int} (h0 : 0<=s/\s < p) (O : 0<=s'/\s' < p) (e:cb p s u t=cb p s' u' t):s=s'/\u=u':=by
 have key:∀ x,x < n->p ∣ (gf u x+s*gf t x) - (gf u' x+s'*gf t x):=fun x hx=>by
  have a:=cI (p:=p) (t:=s) G.len F hx;have b:=cI (p:=p) (t:=s') j.len F hx;rw [e] at a;have:=Jx a b
  rwa [show gf u x+s*gf t x - gf (cb p s' u' t) x - (gf u' x+s'*gf t x - gf (cb p s' u' t) x)=(gf u x+s*gf t x) - (gf u' x+s'*gf t x) by lia] at this
 have es:s=s':=by
  apply Jn;intro z;apply L;have hd:p ∣ (s - s')*(s - s') - 1:=by
   rcases Lp z with h | h
   ·have:=vD B (w:=s' - s) (by lia) (by lia)
    rwa [show (s' - s)*(s' - s)=(s - s')*(s - s') by rw [<- Int.neg_sub s s',Int.neg_mul_neg]] at this
   ·exact vD B (by lia) (by lia)
  have h1:=Sp.comb (k := -1) q J;have h2:=Sp.comb (k:=s - s') (NG (f:=fun _ => 0) fun _ _=>Hh _) h1;refine h2.congr fun x hx => ?_;have U:p ∣ (s - s')*_:=G1 (key x hx);have Y:p ∣ _*gf t x:=I7 hd;have Z:=Jx Y U
  rwa [show ((s - s')*(s - s') - 1)*gf t x - (s - s')*(gf u x+s*gf t x - (gf u' x+s'*gf t x))=0+(s - s')*(gf u' x + -1*gf u x) - gf t x by grind] at Z
 subst es;refine ⟨rfl,G.ext j fun x hx => ?_⟩;have:=key x hx
 rwa [show gf u x+s*gf t x - (gf u' x+s*gf t x)=gf u x - gf u' x by lia] at this
structure Kn (P n:Nat) (A:List (Nat->Int)) (keys:List (List Int)):Prop where
 nd:keys.Nodup
 mem:∀ v,v∈keys↔Vr P n v/\Sp P n A (gf v)
 len:keys.length=P ^ A.length
noncomputable def nxR (P:Nat) (t u:List Int) (ss:List Nat):List (List Int):=ss.map fun s=>cb P (s:Nat) u t
noncomputable def nx (P:Nat) (t:List Int) (keys:List (List Int)):List (List Int):=keys.flatMap fun u=>nxR P t u (Ei P)
theorem gb {n x:Nat}:gf (DU n 0) x=0:=by
 unfold gf gz;rw [if_neg (by lia),Ed,EU,EY]
 split <;> rfl
theorem gc {P n:Nat} (j : 0 < P):Vr P n (DU n 0):=⟨by simp,fun x hx=>by rw [JE hx];lia⟩
theorem Kn.init {P n:Nat} (j : 0 < P):Kn P n [] [DU n 0] where
 nd:=by simp
 mem:=fun v=>by
  rw [Fj];constructor
  ·rintro rfl;exact ⟨gc j,NG fun x _=>by rw [gb];exact Hh _⟩
  ·rintro ⟨h,s⟩;exact h.ext (gc j) fun x hx=>by rw [gb,LN];exact s x hx
 len:=by simp
theorem n6 {P:Nat} {t:List Int}:∀ {keys:List (List Int)},(nx P t keys).length=keys.length*P
 | [] => by simp [nx]
 | u::keys=>by
   have ih:=n6 (P:=P) (t:=t) (keys:=keys);unfold nx at ih ⊢;rw [Fw,z4,ih,Fg,FG];simp [nxR];lia
theorem Kn.step {P n:Nat} (hP:P=2∨P=3) {A:List (Nat->Int)} {keys:List (List Int)} {t:List Int} (h:Kn P n A keys) (q:Vr P n t) (J : ¬ Sp P n A (gf t)):Kn P n (A++[gf t]) (nx P t keys) where
 nd:=by
  have L:(P:Int)=2∨(P:Int)=3:=by lia
  unfold nx;rw [FK,List.pairwise_flatMap];refine ⟨fun u z => ?_, ?_⟩
  ·have j:=(h.mem u).mp z;unfold nxR;rw [Ga];refine HK (fun {a b} O U hab e => ?_) (FK.mp List.nodup_range);have O:=GQ.mp O;have U:=GQ.mp U;exact hab (Int.ofNat.inj (tu L q.len j.1 j.1 j.2 j.2 J (by lia) (by lia) e).1)
  ·refine HK (fun {u u'} z j huu x hx y hy e => ?_) (FK.mp h.nd);obtain ⟨s,hs,rfl⟩:=ED.mp hx;obtain ⟨s',F,rfl⟩:=ED.mp hy;have hs:=GQ.mp hs;have F:=GQ.mp F;have h1:=(h.mem u).mp z;have h2:=(h.mem u').mp j;exact huu (tu L q.len h1.1 h2.1 h1.2 h2.2 J (by lia) (by lia) e).2
 mem:=fun v=>by
  have B:(0:Int) < P:=by lia
  unfold nx;rw [Ml];constructor
  ·rintro ⟨u,z,Y⟩;obtain ⟨s,hs,rfl⟩:=ED.mp Y;obtain ⟨h1,h2⟩:=(h.mem u).mp z;refine ⟨cW B h1.len q.len,Sp.snoc.mpr ⟨s,h2.congr fun x hx => ?_⟩⟩;have:=cI (p:=P) (t:=(s:Nat)) h1.len q.len hx
   rwa [show gf u x - (gf (cb P (s:Nat) u t) x - (s:Nat)*gf t x)=gf u x+(s:Nat)*gf t x - gf (cb P (s:Nat) u t) x by lia]
  ·rintro ⟨h1,h2⟩;obtain ⟨c,h2⟩:=Sp.snoc.mp h2;have z:=cW (p:=P) (t := -c) B h1.len q.len;have G:=Gh c (show (P:Int)≠0 by lia)
   have Z:=FC c B;refine ⟨cb P (-c) v t,(h.mem _).mpr ⟨z,h2.congr fun x hx => ?_⟩,ED.mpr ⟨(c % P).toNat,GQ.mpr (by lia), ?_⟩⟩
   ·have:=cI (p:=P) (t := -c) h1.len q.len hx
    rwa [show gf v x - c*gf t x - gf (cb P (-c) v t) x=gf v x + -c*gf t x - gf (cb P (-c) v t) x by rw [Int.neg_mul];lia]
   ·rw [KR G];refine (cW B z.len q.len).ext h1 fun x hx => ?_;have a:=cI (p:=P) (t:=c % P) z.len q.len hx;have b:=cI (p:=P) (t := -c) h1.len q.len hx;have d:(P:Int) ∣ (c - c % P)*gf t x:=I7 ga;have:=MD (MD a b) d;rw [<- KH] at this
    rwa [show -(gf (cb P (-c) v t) x+c % P*gf t x - gf (cb P (c % P) (cb P (-c) v t) t) x+(gf v x + -c*gf t x - gf (cb P (-c) v t) x)+(c - c % P)*gf t x)=gf (cb P (c % P) (cb P (-c) v t) t) x - gf v x by grind] at this
 len:=by rw [n6,h.len,z4,EV,LO]
structure Bs (P n:Nat) (A:List (Nat->Int)) (base:List (Nat×List Int)):Prop where
 vr:∀ e∈base,Vr P n e.2
 pl:∀ e∈base,e.1 < n/\gf e.2 e.1=1
 tri:base.Pairwise fun e e'=>gf e'.2 e.1=0
 sp:∀ f,Sp P n (base.map fun e=>gf e.2) f↔Sp P n A f
 len:base.length=A.length
theorem Bs.init {P n:Nat}:Bs P n [] []:=⟨by simp,by simp, .nil,fun _=>KO,rfl⟩
noncomputable def wo (P:Nat):List (Nat×List Int)->List Int->List Int
 | [],r=>r
 | e::bs,r=>wo P bs (cb P (-(gf r e.1)) r e.2)
theorem j6 {P n:Nat} (q : 0 < P):∀ {base:List (Nat×List Int)} {r:List Int},(∀ e∈base,Vr P n e.2)->Vr P n r->Vr P n (wo P base r)
 | [],r,_,h=>h
 | e::bs,r,j,h=>by
   show Vr P n (wo P bs (cb P (-(gf r e.1)) r e.2));exact j6 q (fun x hx=>j x (E7 _ hx)) (cW (by lia) h.len (j e Ef).len)
theorem oK {P n:Nat} (F : 0 < P) {z:Nat} (j:z < n):∀ {base:List (Nat×List Int)} {r:List Int},(∀ e∈base,Vr P n e.2)->(∀ e∈base,gf e.2 z=0)->Vr P n r->gf r z=0->gf (wo P base r) z=0
 | [],r,_,_,_,h0=>h0
 | e::bs,r,q,he,h,h0=>by
   have B:=(q e Ef).len;show gf (wo P bs (cb P (-(gf r e.1)) r e.2)) z=0;refine oK F j (fun x hx=>q x (E7 _ hx)) (fun x hx=>he x (E7 _ hx)) (cW (by lia) h.len B) ?_
   rw [qk h.len B j,h0,he e Ef];simp
theorem jv {P n:Nat} (B : 0 < P):∀ {base:List (Nat×List Int)} {r:List Int},(∀ e∈base,Vr P n e.2)->(∀ e∈base,e.1 < n/\gf e.2 e.1=1)->(base.Pairwise fun e e'=>gf e'.2 e.1=0)->Vr P n r -> ∀ e∈base,gf (wo P base r) e.1=0
 | [],r,_,_,_,_,e,he=>by cases he
 | b::bs,r,q,j,z,h,e,he=>by
   have F:=(q b Ef).len;have G:=cW (p:=P) (t := -(gf r b.1)) (by lia) h.len F
   rw [Hd] at z;show gf (wo P bs (cb P (-(gf r b.1)) r b.2)) e.1=0
   rcases Eb.mp he with rfl | he
   ·refine oK B (j e Ef).1 (fun x hx=>q x (E7 _ hx)) z.1 G ?_;rw [qk h.len F (j e Ef).1,(j e Ef).2];simp;rw [show gf r e.1 + -gf r e.1=0 by lia];simp
   ·exact jv B (fun x hx=>q x (E7 _ hx)) (fun x hx=>j x (E7 _ hx)) z.2 G e he
theorem ql {P n:Nat} (z : 0 < P):∀ {base:List (Nat×List Int)} {r:List Int},(∀ e∈base,Vr P n e.2)->Vr P n r->Sp P n (base.map fun e=>gf e.2) fun x=>gf r x - gf (wo P base r) x
 | [],r,_,_=>fun x _=>by simp [wo]
 | b::bs,r,j,h=>by
   have q:=(j b Ef).len;have ih:=ql z (base:=bs) (r:=cb P (-(gf r b.1)) r b.2) (fun x hx=>j x (E7 _ hx)) (cW (by lia) h.len q)
   refine ⟨gf r b.1,ih.congr fun x hx => ?_⟩;have a:=cI (p:=P) (t := -(gf r b.1)) h.len q hx;rw [<- KH] at a;show (P:Int) ∣ _ - (gf r x - gf (wo P bs (cb P (-(gf r b.1)) r b.2)) x - gf r b.1*gf b.2 x)
   rwa [show -(gf r x + -gf r b.1*gf b.2 x - gf (cb P (-gf r b.1) r b.2) x)=gf (cb P (-gf r b.1) r b.2) x - gf (wo P bs (cb P (-gf r b.1) r b.2)) x - (gf r x - gf (wo P bs (cb P (-(gf r b.1)) r b.2)) x - gf r b.1*gf b.2 x) by grind] at a
theorem Sp.at {p:Int} {n z:Nat} (j:z < n):∀ {bs:List (Nat->Int)} {f:Nat->Int},(∀ b∈bs,b z=0)->Sp p n bs f->p ∣ f z
 | [],f,_,h=>h z j
 | b::bs,f,q,⟨c,h⟩=>by
   have:=Sp.at j (fun x hx=>q x (E7 _ hx)) h;rw [q b Ef] at this;simpa using this
theorem n8 {P n:Nat}:∀ {base:List (Nat×List Int)} {f:Nat->Int},(∀ e∈base,e.1 < n/\gf e.2 e.1=1)->(base.Pairwise fun e e'=>gf e'.2 e.1=0)->(∀ e∈base,(P:Int) ∣ f e.1)->Sp P n (base.map fun e=>gf e.2) f -> ∀ x,x < n->(P:Int) ∣ f x
 | [],f,_,_,_,h=>h
 | e::bs,f,j,q,B,⟨c,h⟩=>by
   rw [Hd] at q;have h1:=Sp.at (j e Ef).1 (fun b F=>by obtain ⟨e',z,rfl⟩:=ED.mp F;exact q.1 e' z) h
   dsimp only at h1;rw [(j e Ef).2,Int.mul_one] at h1;have G:(P:Int) ∣ c:=by
    have:=Jx (B e Ef) h1
    rwa [show f e.1 - (f e.1 - c)=c by lia] at this
   refine n8 (fun x hx=>j x (E7 _ hx)) q.2 (fun x hx=>B x (E7 _ hx)) (h.congr fun x _ => ?_);rw [show f x - c*gf e.2 x - f x = -(c*gf e.2 x) by lia,KH]
   exact I7 G
theorem Bs.out {P n:Nat} (j : 0 < P) {A:List (Nat->Int)} {base:List (Nat×List Int)} (h:Bs P n A base) {t:List Int} (q:Vr P n t):wo P base t=DU n 0↔Sp P n A (gf t):=by
 have hs:=ql j h.vr q;constructor
 ·intro e;refine (h.sp _).mp (hs.congr fun x _ => ?_);rw [e,gb,LN,Int.sub_self];exact Hh _
 ·intro e;have e:=(h.sp _).mpr e;have z:=Sp.comb (k := -1) e hs;refine (j6 j h.vr q).ext (gc j) fun x hx => ?_;rw [gb,LN];refine n8 h.pl h.tri (fun b B=>by rw [jv j h.vr h.pl h.tri q b B];exact Hh _) (z.congr fun x _ => ?_) x hx
  rw [show gf t x + -1*(gf t x - gf (wo P base t) x) - gf (wo P base t) x=0 by lia];exact Hh _
theorem Ac {F:Int->Int} {v:List Int} {x:Nat} (h:x < v.length):gf (v.map F) x=F (gf v x):=by
 have e:=cq (v:=v.map F) (x:=x) (by rw [r4];exact h)
 rw [Eo,cq h] at e;exact (FO.inj e).symm
theorem Bs.step {P n:Nat} (U:P=2∨P=3) {A:List (Nat->Int)} {base:List (Nat×List Int)} (h:Bs P n A base) {t:List Int} (G:Vr P n t) {pl:Nat} (j:pl < n) (hw:gf (wo P base t) pl≠0) :
 Bs P n (A++[gf t]) (base++[(pl,(wo P base t).map fun x=>(gf (wo P base t) pl*x) % P)]):=by
 have q : 0 < P:=by lia
 have B:=j6 q h.vr G;have L:=jv q h.vr h.pl h.tri G;have hs:=ql q h.vr G;have z:=B.at j;generalize hR:wo P base t=R at B L hs hw z;generalize Y:gf R pl=w at hw z;have J:(P:Int) ∣ w*w - 1:=vD (by lia) (by lia) z.2
 have go:∀ x,x < n->gf (R.map fun x=>(w*x) % P) x=(w*gf R x) % P:=fun x hx=>Ac (F:=fun x=>(w*x) % P) (by rw [B.len];exact hx)
 refine ⟨fun e he => ?_,fun e he => ?_, ?_,fun f => ?_,by rw [z4,z4,h.len];rfl⟩
 ·rcases Ea.mp he with he | he
  ·exact h.vr e he
  ·rw [Fj.mp he];refine ⟨by rw [r4];exact B.len,fun x hx => ?_⟩
   obtain ⟨y,_,rfl⟩:=ED.mp hx;exact ⟨Gh _ (by lia),FC _ (by lia)⟩
 ·rcases Ea.mp he with he | he
  ·exact h.pl e he
  ·rw [Fj.mp he];refine ⟨j, ?_⟩;dsimp only;rw [go pl j,Y]
   rcases U with rfl | rfl
   ·have:w=1:=by lia
    rw [this];rfl
   ·have:w=1∨w=2:=by lia
    rcases this with e | e <;> rw [e] <;> rfl
 ·rw [DV];refine ⟨h.tri,by simp,fun a O b Z => ?_⟩
  rw [Fj.mp Z];dsimp only;rw [go _ (h.pl a O).1,L a O];simp
 ·rw [F7,Ew,HB];constructor
  ·intro hf;obtain ⟨c,hf⟩:=Sp.snoc.mp hf;refine Sp.snoc.mpr ⟨c*w,(h.sp _).mp ((Sp.comb (k := -(c*w)) hf hs).congr fun x hx => ?_)⟩;dsimp only;rw [go x hx];have a:(P:Int) ∣ c*(w*gf R x - (w*gf R x) % P):=G1 ga
   rwa [show f x - c*(w*gf R x % ↑P) + -(c*w)*(gf t x - gf R x) - (f x - c*w*gf t x)=c*(w*gf R x - (w*gf R x) % P) by grind]
  ·intro hf;obtain ⟨c,hf⟩:=Sp.snoc.mp hf;refine Sp.snoc.mpr ⟨c*w,(Sp.comb (k:=c) ((h.sp _).mpr hf) hs).congr fun x hx => ?_⟩;dsimp only;rw [go x hx];have a:(P:Int) ∣ c*w*(w*gf R x - (w*gf R x) % P):=G1 ga;have b:(P:Int) ∣ (c*gf R x)*(w*w - 1):=G1 J;have:=Jx b a
   rwa [show (c*gf R x)*(w*w - 1) - c*w*(w*gf R x - (w*gf R x) % P)=f x - c*gf t x+c*(gf t x - gf R x) - (f x - c*w*(w*gf R x % ↑P)) by grind] at this
end
section
open PySem PySem.Spec PyProof.Rows L2.Srt
variable {T:List FD}
noncomputable def ixs (l:List Int) (ks:List Nat):List (Int×Int):=ks.map fun k:Nat=>((k:Int),gi l (k:Int))
theorem jw {l:List Int} {N:Nat} (h:l.length=N):ixs l (Ei N)=idx l:=by
 unfold ixs idx;apply GG;intro j;rw [Eo,IH]
 by_cases hj:j < N
 ·rw [KU hj,D0 (by lia)]
  simp only [Hj,gi,Ed];rw [EU,D0 (by lia)];rfl
 ·rw [Gx (by simp;lia),Gx (by lia)];rfl
theorem jx {l:List Int} {ks:List Nat}:(ixs l ks).length=ks.length:=by simp [ixs]
theorem hZ {l:List Int} {ks:List Nat} {k:Nat}:ixs l (ks++[k])=ixs l ks++[((k:Int),gi l (k:Int))]:=by simp [ixs]
theorem tw {l:List Int} (h:Big l) {i:Int}:bd (gi l i):=by
 unfold gi;rw [EU]
 cases e:l[i.toNat]? with
 | none=>constructor <;> decide
 | some x=>exact h x (Ez e)
noncomputable def jy (s:Stmt):FD:=⟨"_law_sums",s,["_law_scheme_here", "_law_found", "_law_l", "_law_r", "_law_o", "_law_i", "_law_j", "_law_k"],1,
 (.cons (.asg (.name 1) (.dnew true))
 (.cons (.for (.tup (.cons (.name 2) (.cons (.name 3) (.cons (.name 4) .nil)))) (.seq (.ix (.var 0) (.int 3))) (.cons (.for (.name 5) (.rng1 (.ix (.var 0) (.int 0))) (.cons (.for (.name 6) (.rng1 (.ix (.var 0) (.int 1))) (.cons (.for (.name 7) (.rng1 (.ix (.var 0) (.int 2))) (.cons (.put (.var 1) (.tup (.cons (.var 7) (.cons (.var 5) (.cons (.var 6) .nil)))) (.bin .add (.dget (.var 1) (.tup (.cons (.var 7) (.cons (.var 5) (.cons (.var 6) .nil)))) (.int 0)) (.bin .mul (.bin .mul (.ix (.var 2) (.var 5)) (.ix (.var 3) (.var 6))) (.ix (.var 4) (.var 7)))))
 .nil))
 .nil))
 .nil))
 .nil))
 (.cons (.frz 1 (.ret (.blt .dict (.cons (.comp [none,(some 1)] ["_law_place", "_law_found"] (.last (.keys (.var 1)) (.name 0) (.cons (.cmp .ne (.ix (.var 1) (.var 0)) (.int 0)) .nil) (.tup (.cons (.var 0) (.cons (.ix (.var 1) (.var 0)) .nil))))) .nil))))
 .nil)))⟩
noncomputable def sbK:MSs := .cons (.put (.var 1) (.tup (.cons (.var 7) (.cons (.var 5) (.cons (.var 6) .nil)))) (.bin .add (.dget (.var 1) (.tup (.cons (.var 7) (.cons (.var 5) (.cons (.var 6) .nil)))) (.int 0)) (.bin .mul (.bin .mul (.ix (.var 2) (.var 5)) (.ix (.var 3) (.var 6))) (.ix (.var 4) (.var 7))))) .nil
noncomputable def sbJ:MSs := .cons (.for (.name 7) (.rng1 (.ix (.var 0) (.int 2))) sbK) .nil
noncomputable def sbI:MSs := .cons (.for (.name 6) (.rng1 (.ix (.var 0) (.int 1))) sbJ) .nil
noncomputable def scD (L0 L1 L2:Nat) (p:Addr):D := .tup [.int L0, .int L1, .int L2, .ref p]
theorem Ad {Φ:Phi} {J O L2:Nat} {p d:Addr} {x:Pr} {i j:Nat} {B:Option D} {pre:List Tm} {M:Mem} {E:bq} (h2:L2<=1000) (hi:i < x.1.length) (hj:j < x.2.1.length) (Z:x.2.2.length=L2) (b1:Big x.1) (b3:Big x.2.2) (hd:M d=some (.dct true ((ba pre).map kcD))) (hl:pre.length+L2<=1000000)
 (q:∀ M' B,Od d M M'->M' d=some (.dct true ((ba (pre++bV i (gi x.1 i) j (gi x.2.1 j) (idx x.2.2))).map kcD))->E.nx [some (scD J O L2 p),some (.ref d),some (.tup (x.1.map .int)),some (.tup (x.2.1.map .int)),some (.tup (x.2.2.map .int)),some (.int i),some (.int j),B] M') :
 wSs Φ sbJ E [some (scD J O L2 p),some (.ref d),some (.tup (x.1.map .int)),some (.tup (x.2.1.map .int)),some (.tup (x.2.2.map .int)),some (.int i),some (.int j),B] M:=by
 unfold sbJ scD;walk_at "st";refine ⟨_,rfl,_,rfl,by lia,by lia, ?_⟩
 rw [Ed];rw [<- jw Z] at q;refine ax (I:=fun l ρ M' => ∃ B, ρ = [some (scD J O L2 p),some (.ref d),some (.tup (x.1.map .int)),some (.tup (x.2.1.map .int)),some (.tup (x.2.2.map .int)),some (.int i),some (.int j),B]/\Od d M M'/\M' d=some (.dct true ((ba (pre++bV i (gi x.1 i) j (gi x.2.1 j) (ixs x.2.2 l))).map kcD))) aG ⟨_,rfl,Od.refl,by simpa [bV,ixs] using hd⟩ (fun _ _ _ _=>trivial) ?_ ?_
 ·rintro l k r ρ M1 e ⟨B,rfl,g1,G⟩;refine ⟨_,rfl,fun F hF => ?_⟩;have U:=ai e;rw [Ej] at U;have BJ:k < L2:=by have h9:k∈Ei L2:=(by rw [e];simp);simpa using h9
  have Y:=mW (pre++bV i (gi x.1 i) j (gi x.2.1 j) (ixs x.2.2 l));rw [z4,mX,jx] at Y;unfold sbK;rw [ce];walk_at "wp";refine ⟨⟨_,_,G⟩,by rw [D1];lia,_,_,G,rfl,_,hJ (by lia) (by lia),_,hJ (by lia) (by lia), ?_⟩
  walk_at "wp";refine ⟨dA (by have:=tw b1 (i:=(i:Int));unfold bd at this;lia),_,hJ (by lia) (by lia), ?_⟩
  walk_at "wp";refine ⟨cL (by have:=tw b3 (i:=(k:Int));unfold bd at this;lia), ?_⟩
  have ek:D.tup [D.int (k:Int),D.int (i:Int),D.int (j:Int)]=k3D (k,i,j):=rfl;rw [ek,jq];have eg:∀ L:List Tm,((N4 (fun p:Tm=>D.int p.2) (L.find? fun p=>decide (p.1=((k:Int),(i:Int),(j:Int))))).getD (.int 0)) = .int (((L.find? fun p=>decide (p.1=((k:Int),(i:Int),(j:Int)))).map (·.2)).getD 0):=fun L=>by
   cases L.find? fun p=>decide (p.1=((k:Int),(i:Int),(j:Int))) <;> rfl
  rw [eg];walk_at "wp";refine ⟨by rw [D1];lia,gX G rfl (by rw [r4,D1];lia) ?_⟩
  rw [oG (eS _)];refine hF _ _ ⟨_,rfl,g1.upd, ?_⟩;rw [aa,hZ,show ∀ a b:Int, ∀ zs, ∀ z:Int×Int,bV i a j b (zs++[z])=bV i a j b zs++[((z.1,(i:Int),(j:Int)),a*b*z.2)] from fun a b zs z=>by simp [bV], <- E9,dI]
 ·rintro ρ M1 ⟨B,rfl,g1,G⟩;dsimp only;walk_at "wp";exact q _ _ g1 G
theorem Ae {Φ:Phi} {L z L2:Nat} {p d:Addr} {x:Pr} {i:Nat} {G B:Option D} {pre:List Tm} {M:Mem} {E:bq} (h1:z<=1000) (h2:L2<=1000) (hi:i < x.1.length) (Y:x.2.1.length=z) (U:x.2.2.length=L2) (b1:Big x.1) (b3:Big x.2.2) (hd:M d=some (.dct true ((ba pre).map kcD))) (hl:pre.length+z*L2<=1000000)
 (q:∀ M' G B,Od d M M'->M' d=some (.dct true ((ba (pre++bW i (gi x.1 i) (idx x.2.1) (idx x.2.2))).map kcD))->E.nx [some (scD L z L2 p),some (.ref d),some (.tup (x.1.map .int)),some (.tup (x.2.1.map .int)),some (.tup (x.2.2.map .int)),some (.int i),G,B] M') :
 wSs Φ sbI E [some (scD L z L2 p),some (.ref d),some (.tup (x.1.map .int)),some (.tup (x.2.1.map .int)),some (.tup (x.2.2.map .int)),some (.int i),G,B] M:=by
 unfold sbI scD;walk_at "st";refine ⟨_,rfl,_,rfl,by lia,by lia, ?_⟩
 rw [Ed];rw [<- jw Y] at q;refine ax (I:=fun l ρ M' => ∃ G B, ρ = [some (scD L z L2 p),some (.ref d),some (.tup (x.1.map .int)),some (.tup (x.2.1.map .int)),some (.tup (x.2.2.map .int)),some (.int i),G,B]/\Od d M M'/\M' d=some (.dct true ((ba (pre++bW i (gi x.1 i) (ixs x.2.1 l) (idx x.2.2))).map kcD))) aG ⟨_,_,rfl,Od.refl,by simpa [bW,ixs] using hd⟩ (fun _ _ _ _=>trivial) ?_ ?_
 ·rintro l j r ρ M1 e ⟨G,B,rfl,g1,O⟩;refine ⟨_,rfl,fun F Z => ?_⟩;have J:=ai e;rw [Ej] at J;have BJ:j < z:=by have h9:j∈Ei z:=(by rw [e];simp);simpa using h9
  have hm:(l.length+1)*L2<=z*L2:=IM _ J;rw [FG] at hm;refine Ad h2 hi (by lia) U b1 b3 O (by rw [z4,mY,jx,dg,U];lia) fun M2 B g2 e2=>Z _ _ ⟨_,_,rfl,g1.trans g2, ?_⟩
  rw [e2,hZ,E9,show ∀ (a:Int) (ys zs:List (Int×Int)) (y:Int×Int),bW i a (ys++[y]) zs=bW i a ys zs++bV i a y.1 y.2 zs from fun a ys zs y=>by simp [bW]]
 ·rintro ρ M1 ⟨G,B,rfl,g1,O⟩;dsimp only;walk_at "wp";exact q _ _ _ g1 O
theorem vE {f:Nat} {s:Stmt} (hf:T[f]? = some (jy s)) {n:Nat} (hn : 1<=n) {B G L2:Nat} (h0:B<=1000) (h1:G<=1000) (h2:L2<=1000) {p:Addr} {ps:List Pr} {M:Mem} {Q:QD} (hp:M p=some (.lst (ps.map prD))) (hl:ps.length*(B*(G*L2))<=1000000) (hF:∀ p∈ps,Big p.1/\Big p.2.2/\p.1.length=B/\p.2.1.length=G/\p.2.2.length=L2)
 (q:∀ (L:List Tm) d M',IsSum ps L->L.length<=ps.length*(B*(G*L2))->Ge M M'->M d=none->M' d=some (.dct true (L.map kcD))->Q (.ref d) M'):phi T n f [.tup [.int B, .int G, .int L2, .ref p]] M Q:=by
 refine au (by lia) hf rfl (ρ := [some (scD B G L2 p),none,none,none,none,none,none,none]) rfl ?_
 unfold jy;walk_at "st";intro d hd;have g0:=Ge.new (o := .dct true []) hd;have d0:=aa (M:=M) (a:=d) (o := .dct true []);generalize ag M d (.dct true [])=M0 at g0 d0 ⊢;unfold scD;walk_at "st";refine ⟨_,rfl,_,ae (g0 _ _ hp), ?_⟩;have BX:p≠d:=fun z=>by rw [z,hd] at hp;cases hp
 have cfR:∀ ps:List Pr, ∀ k,cf (ps.flatMap fun x=>bE (idx x.1) (idx x.2.1) (idx x.2.2)) k=cf (qj ps) k:=fun ps k=>by
  obtain ⟨k,i,j⟩:=k;rw [oJ,jr];unfold Tn;congr 1;exact Gk fun x _=>by rw [jt,e9,e9,e9]
 refine ax (f:=prD) (ys:=ps) (I:=fun l ρ M' => ∃ o2 o3 o4 o5 Y Z, ρ = [some (scD B G L2 p),some (.ref d),o2,o3,o4,o5,Y,Z]/\Ge M M'/\M' d=some (.dct true ((ba (l.flatMap fun x=>bE (idx x.1) (idx x.2.1) (idx x.2.2))).map kcD))/\(l.flatMap fun x=>bE (idx x.1) (idx x.2.1) (idx x.2.2)).length=l.length*(B*(G*L2))) rfl ⟨_,_,_,_,_,_,rfl,g0,d0,by simp⟩ (fun l ρ M' ⟨_,_,_,_,_,_,_,g,_⟩=>ae (g _ _ hp)) ?_ ?_
 ·rintro l x r ρ M1 e ⟨o2,o3,o4,o5,Y,Z,rfl,g1,hM,hlen⟩;refine ⟨_,rfl,fun F BQ => ?_⟩;obtain ⟨b1,b3,e0,e1,e2⟩:=hF x (by rw [e];simp)
  have BM:=ai e;have hm:(l.length+1)*(B*(G*L2))<=ps.length*(B*(G*L2)):=IM _ BM;rw [FG] at hm;unfold scD;walk_at "st";refine ⟨_,rfl,_,rfl,by lia,by lia, ?_⟩
  rw [Ed];generalize BJ:(l.flatMap fun x=>bE (idx x.1) (idx x.2.1) (idx x.2.2))=pre at hM hlen;have J:(pre++bE (idx x.1) (idx x.2.1) (idx x.2.2)).length=(l.length+1)*(B*(G*L2)):=by
   rw [z4,mZ,dg,dg,dg,hlen,e0,e1,e2,FG]
  refine ax (I:=fun l' ρ M' => ∃ o5 Y Z, ρ = [some (scD B G L2 p),some (.ref d),some (.tup (x.1.map .int)),some (.tup (x.2.1.map .int)),some (.tup (x.2.2.map .int)),o5,Y,Z]/\Od d M1 M'/\M' d=some (.dct true ((ba (pre++bE (ixs x.1 l') (idx x.2.1) (idx x.2.2))).map kcD))) aG ⟨_,_,_,rfl,Od.refl,by simpa [bE,ixs] using hM⟩ (fun _ _ _ _=>trivial) ?_ ?_
  ·rintro l' i r' ρ M2 e' ⟨o5,Y,Z,rfl,g2,O⟩;refine ⟨_,rfl,fun F2 BR => ?_⟩;have BK:=ai e';rw [Ej] at BK;have BY:i < B:=by have h9:i∈Ei B:=(by rw [e'];simp);simpa using h9
   have BS:(l'.length+1)*(G*L2)<=B*(G*L2):=IM _ BK;rw [FG] at BS;refine Ae h1 h2 (by lia) e1 e2 b1 b3 O (by rw [z4,mZ,jx,dg,dg,hlen,e1,e2];lia) fun M3 Y Z g3 e3=>BR _ _ ⟨_,_,_,rfl,g2.trans g3, ?_⟩
   rw [e3,hZ,E9,show ∀ (xs ys zs:List (Int×Int)) (y:Int×Int),bE (xs++[y]) ys zs=bE xs ys zs++bW y.1 y.2 ys zs from fun xs ys zs y=>by simp [bE]]
  ·rintro ρ M2 ⟨o5,Y,Z,rfl,g2,O⟩;dsimp only;walk_at "wp";rw [jw e0] at O;refine BQ _ _ ⟨_,_,_,_,_,_,rfl,fun a o ea => ?_, ?_, ?_⟩
   ·by_cases had:a=d
    ·subst had;rw [hd] at ea;cases ea
    ·rw [g2 a had];exact g1 _ _ ea
   ·rw [O,Fk,BJ,Fw,Mm,Fe]
   ·rw [Fk,BJ,Fw,Mm,Fe,J,z4,EV]
 ·rintro ρ M1 ⟨o2,o3,o4,o5,Y,Z,rfl,g1,hM,hlen⟩;dsimp only;walk_at "st";refine oF rfl hM ?_;generalize J:(ps.flatMap fun x=>bE (idx x.1) (idx x.2.1) (idx x.2.2))=raw at hM hlen ⊢;have fd:=aa (M:=M1) (a:=d) (o := .fdc ((ba raw).map kcD));have g2:Ge M (ag M1 d (.fdc ((ba raw).map kcD))):=g1.upd hd;have BU:=mW raw;have U:=eS raw;have BN:=yj raw;generalize ag M1 d (.fdc ((ba raw).map kcD))=M2 at fd g2 ⊢;generalize ba raw=L at fd BU U BN;walk_at "wp";refine ⟨_,fd, ?_⟩;refine am (f:=fun t:Tm=>k3D t.1) (ys:=L) (I:=fun l ρ M' acc=>(∃ o0, ρ = [o0,some (.ref d)])/\M'=M2/\acc=(l.filter fun t => !(t.2==0)).map fun t => .tup [k3D t.1, .int t.2]) (by rw [GH];rfl) ⟨⟨_,rfl⟩,rfl,rfl⟩ (fun _ _ _ _ _=>trivial) ?_ ?_
  ·rintro l t r ρ M3 acc e ⟨⟨o0,rfl⟩,rfl,rfl⟩;refine ⟨_,rfl,fun N' BO => ?_⟩;have BM:=ai e;have ht:t∈L:=by rw [e];simp
   have BV:(l.filter fun t => !(t.2==0)).length<=l.length:=Es _ _;walk_at "wp";refine sV fd (qi _) (dB U ht) ?_;walk_at "wp"
   by_cases hz:t.2=0
   ·rw [if_neg (by simp [hz])]
    refine BO _ _ _ ⟨⟨_,rfl⟩,rfl, ?_⟩;rw [EB,EI (by simp [hz])];simp
   ·rw [if_pos (by simp [hz])]
    refine sV fd (qi _) (dB U ht) ?_;refine ⟨by rw [D1];lia,by rw [r4,D1];lia,BO _ _ _ ⟨⟨_,rfl⟩,rfl, ?_⟩⟩
    rw [EB,EH (by simp [hz])];simp
  ·rintro ρ M3 acc ⟨⟨o0,rfl⟩,rfl,rfl⟩ p2 hp2;have BV:(L.filter fun t => !(t.2==0)).length<=L.length:=Es _ _;have BP:((L.filter fun t => !(t.2==0)).map (·.1)).Nodup:=U.sublist (List.Sublist.map _ List.filter_sublist);refine ⟨p2,(L.filter fun t => !(t.2==0)).map kcD,rfl,by rw [aa,GH];rfl,fun kv BW => ?_,by rw [r4,D1];lia,fun pf BL => ?_⟩
   ·obtain ⟨t,_,rfl⟩:=ED.mp BW;exact qi _
   ·rw [vB BP];have g3:=g2.trans (Ge.new (o := .lst ((L.filter fun t => !(t.2==0)).map fun t=>D.tup [k3D t.1, .int t.2])) hp2);refine q (L.filter fun t => !(t.2==0)) pf _ ⟨BP,fun t ht => ?_,fun k=>by rw [B9,BN, <- J,cfR]⟩ (by lia) (g3.trans (Ge.new BL)) ?_ aa
    ·have:=(Gz.mp ht).2;simpa using this
    ·cases hz:M pf with
     | none=>rfl
     | some o=>rw [g3 _ _ hz] at BL;cases BL
noncomputable def jz (s:Stmt):FD:=⟨"_law_terms",s,["_law_sums_here"],1,
 (.cons (.ret (.comp [none,(some 0)] ["_law_place", "_law_sums_here"] (.last (.seq (.blt .sortk (.cons (.var 0) .nil))) (.name 0) .nil (.bin .add (.var 0) (.tup (.cons (.ix (.var 1) (.var 0)) .nil))))))
 .nil)⟩
theorem vF {f:Nat} {s:Stmt} (hf:T[f]? = some (jz s)) {n:Nat} (hn : 1<=n) {L:List Tm} {d:Addr} {M:Mem} {Q:QD} (z:(L.map (·.1)).Nodup) (hl:L.length<=1000000) (hd:M d=some (.dct true (L.map kcD)))
 (q:∀ (rs:List Tm) p M',rs.Perm L->(rs.Pairwise fun a b=>klt a.1 b.1)->Ge M M'->M p=none->M' p=some (.lst (rs.map tmD))->Q (.ref p) M'):phi T n f [.ref d] M Q:=by
 refine au (by lia) hf rfl (ρ := [some _]) rfl ?_
 unfold jz;walk_at "st";refine ⟨d,true,_, .tup [.int, .int, .int],rfl,hd,rfl,fun kv G => ?_,fun ps ys J j B => ?_⟩
 ·obtain ⟨t,_,rfl⟩:=ED.mp G;rfl
 obtain ⟨rs,O,rfl,U⟩:=gB z j B;have F:=Ge.new (o := .lst (rs.map fun t=>k3D t.1)) J;have d7:=F _ _ hd;have Y:=aa (M:=M) (a:=ps) (o := .lst (rs.map fun t=>k3D t.1));generalize ag M ps (.lst (rs.map fun t=>k3D t.1))=M7 at F d7 Y ⊢;have BJ:rs.length<=1000000:=by rw [O.length_eq];lia
 refine ⟨_,ae Y, ?_⟩;refine am (f:=fun t:Tm=>k3D t.1) (ys:=rs) (I:=fun l ρ M' acc=>(∃ o0, ρ = [o0,some (.ref d)])/\M'=M7/\acc=l.map tmD) rfl ⟨⟨_,rfl⟩,rfl,rfl⟩ (fun _ _ _ _ h=>by rw [h.2.1];exact ae Y) ?_ ?_
 ·rintro l t r ρ M8 acc e ⟨⟨o0,rfl⟩,rfl,rfl⟩;refine ⟨_,rfl,fun N' Z => ?_⟩;have BK:=ai e;have ht:t∈L:=O.mem_iff.mp (by rw [e];simp)
  walk_at "wp";refine .inr (.inl ⟨true,_,_,d7,rfl,dB z ht, ?_⟩);refine ⟨by rw [D1];lia, ?_⟩
  unfold k3D;walk_at "wp";refine ⟨.inr trivial,by rw [D1];lia,by rw [r4,D1];lia,Z _ _ _ ⟨⟨_,rfl⟩,rfl, ?_⟩⟩
  rw [F7];rfl
 ·rintro ρ M8 acc ⟨⟨o0,rfl⟩,rfl,rfl⟩ p2 hp2;refine q rs p2 _ O U (F.trans (Ge.new hp2)) ?_ aa
  cases hz:M p2 with
  | none=>rfl
  | some o=>rw [F _ _ hz] at hp2;cases hp2
end
section
namespace K41
noncomputable def ak (i:Nat):Stmt:=PySem.Challenge.pw_fewtimes_k41_pairs_and_spans.main.body.getD i (.Pass ⟨0,0,0,0⟩)
noncomputable def b0:MSs :=
 (.cons (.asg (.name 2) (.lst (.cons (.tup .nil) .nil)))
 (.cons (.for (.name 3) (.rng1 (.var 0)) (.cons (.asg (.name 2) (.comp [none,none,(some 1)] ["row", "x", "p"] (.more (.seq (.var 2)) (.name 0) .nil (.last (.rng1 (.var 2)) (.name 1) .nil (.bin .add (.var 0) (.tup (.cons (.var 1) .nil)))))))
 .nil))
 (.cons (.ret (.var 2))
 .nil)))
noncomputable def d0:FD:=⟨"rows_over",ak 1,["length", "p", "rows", "turn"],2,b0⟩
noncomputable def b1:MSs :=
 (.cons (.asg (.name 1) (.comp [none] ["x"] (.last (.seq (.var 0)) (.name 0) (.cons (.cmp .ne (.var 0) (.int 0)) .nil) (.var 0))))
 (.cons (.ret (.and (.cons (.cmp .gt (.blt .len (.cons (.var 1) .nil)) (.int 0)) (.cons (.cmp .eq (.ix (.var 1) (.int 0)) (.int 1)) .nil))))
 .nil))
noncomputable def d1:FD:=⟨"begins_with_one",ak 2,["row", "some"],1,b1⟩
noncomputable def b2:MSs :=
 (.cons (.asg (.name 3) (.comp [none] ["row"] (.last (.seq (.call 0 (.cons (.var 1) (.cons (.var 2) .nil)))) (.name 0) (.cons (.tru (.call 1 (.cons (.var 0) .nil))) .nil) (.var 0))))
 (.cons (.ret (.comp [none,none,(some 3)] ["l", "r", "rights"] (.more (.seq (.call 0 (.cons (.var 0) (.cons (.var 2) .nil)))) (.name 0) (.cons (.tru (.call 1 (.cons (.var 0) .nil))) .nil) (.last (.seq (.var 2)) (.name 1) .nil (.tup (.cons (.var 0) (.cons (.var 1) .nil)))))))
 .nil))
noncomputable def d2:FD:=⟨"pairs_over",ak 3,["left", "right", "p", "rights"],3,b2⟩
noncomputable def b3:MSs :=
 (.cons (.asg (.tup (.cons (.name 2) (.cons (.name 3) (.cons (.name 4) (.cons (.name 5) .nil))))) (.var 0))
 (.cons (.asg (.name 6) (.comp [none,(some 2),(some 3)] ["k", "left", "right"] (.last (.rng1 (.var 4)) (.name 0) .nil (.bin .mul (.lst (.cons (.int 0) .nil)) (.bin .mul (.var 1) (.var 2))))))
 (.cons (.for (.tup (.cons (.name 7) (.cons (.name 8) (.cons (.name 9) (.cons (.name 10) .nil))))) (.seq (.var 5)) (.cons (.put (.ix (.var 6) (.var 7)) (.bin .add (.bin .mul (.var 8) (.var 3)) (.var 9)) (.bin .mod (.var 10) (.var 1)))
 .nil))
 (.cons (.ret (.comp [none] ["table"] (.last (.seq (.var 6)) (.name 0) .nil (.blt .tuple (.cons (.var 0) .nil)))))
 .nil))))
noncomputable def d3:FD:=⟨"tables_over",ak 4,["task", "p", "left", "right", "many", "terms", "tables", "k", "i", "j", "c"],2,b3⟩
noncomputable def b4:MSs :=
 (.cons (.for (.tup (.cons (.name 3) (.cons (.name 4) .nil))) (.seq (.var 1)) (.cons (.asg (.name 5) (.ix (.var 0) (.var 3)))
 (.cons (.ite (.cmp .ne (.var 5) (.int 0)) (.cons (.asg (.name 0) (.blt .tuple (.cons (.comp [none,none,(some 5),(some 2)] ["x", "y", "c", "p"] (.last (.zip (.var 0) (.var 4)) (.tup (.cons (.name 0) (.cons (.name 1) .nil))) .nil (.bin .mod (.bin .sub (.var 0) (.bin .mul (.var 2) (.var 1))) (.var 3)))) .nil)))
 .nil) .nil)
 .nil)))
 (.cons (.ret (.var 0))
 .nil))
noncomputable def d4:FD:=⟨"without",ak 5,["row", "base", "p", "place", "other", "c"],3,b4⟩
noncomputable def b5:MSs :=
 (.cons (.ret (.ix (.comp [none,none] ["at", "x"] (.last (.enum (.var 0)) (.tup (.cons (.name 0) (.cons (.name 1) .nil))) (.cons (.cmp .ne (.var 1) (.int 0)) .nil) (.var 0))) (.int 0)))
 .nil)
noncomputable def d5:FD:=⟨"first_filled",ak 6,["row"],1,b5⟩
noncomputable def b6:MSs :=
 (.cons (.asg (.name 3) (.blt .list (.cons (.var 0) .nil)))
 (.cons (.for (.name 4) (.seq (.var 1)) (.cons (.asg (.name 5) (.call 4 (.cons (.var 4) (.cons (.var 3) (.cons (.var 2) .nil)))))
 (.cons (.ite (.tru (.blt .any (.cons (.var 5) .nil))) (.cons (.asg (.name 6) (.call 5 (.cons (.var 5) .nil)))
 (.cons (.drop (.meth .append (.var 3) (.tup (.cons (.var 6) (.cons (.blt .tuple (.cons (.comp [none,(some 5),(some 6),(some 2)] ["x", "rest", "place", "p"] (.last (.seq (.var 5)) (.name 0) .nil (.bin .mod (.bin .mul (.ix (.var 1) (.var 2)) (.var 0)) (.var 3)))) .nil)) .nil)))))
 .nil)) .nil)
 .nil)))
 (.cons (.ret (.var 3))
 .nil)))
noncomputable def d6:FD:=⟨"grown",ak 7,["base", "rows", "p", "made", "row", "rest", "place"],3,b6⟩
noncomputable def b7:MSs :=
 (.cons (.ret (.blt .len (.cons (.call 6 (.cons (.lst .nil) (.cons (.call 3 (.cons (.var 0) (.cons (.var 1) .nil))) (.cons (.var 1) .nil)))) .nil)))
 .nil)
noncomputable def d7:FD:=⟨"span_of",ak 8,["task", "p"],2,b7⟩
noncomputable def d8:FD:=j0 (ak 10)
noncomputable def d9:FD:=jn (ak 11)
noncomputable def d10:FD:=qg (ak 12) 8 9
noncomputable def d11:FD:=mM (ak 13) 9
noncomputable def b12:MSs :=
 (.cons (.ret (.ix (.lst (.cons (.int 0) (.cons (.int 0) (.cons (.int 1) (.cons (.int 1) (.cons (.int 1) (.cons (.neg (.int 1)) (.cons (.neg (.int 1)) (.cons (.int 2) (.cons (.int 0) .nil)))))))))) (.call 11 (.cons (.var 0) (.cons (.int 9) .nil)))))
 .nil)
noncomputable def d12:FD:=⟨"_law_number",ak 14,["_law_box_here"],1,b12⟩
noncomputable def d13:FD:=mP (ak 15) 12
noncomputable def d14:FD:=gY (ak 16) 11 13
noncomputable def d15:FD:=jy (ak 17)
noncomputable def d16:FD:=jz (ak 18)
noncomputable def b17:MSs :=
 (.cons (.asg (.name 2) (.bin .add (.int 2) (.call 11 (.cons (.var 0) (.cons (.int 2) .nil)))))
 (.cons (.asg (.name 3) (.lst .nil))
 (.cons (.for (.name 4) (.rng2 (.int 1) (.int 7)) (.cons (.drop (.meth .extend (.var 3) (.comp [none,(some 4),(some 1),(some 2)] ["_law_right", "_law_left", "_law_most", "_law_p"] (.last (.rng2 (.int 1) (.int 7)) (.name 0) (.cons (.cmp .le (.bin .mul (.var 1) (.var 0)) (.blt .min2 (.cons (.var 2) (.cons (.ix (.lst (.cons (.int 12) (.cons (.int 9) .nil))) (.bin .sub (.var 3) (.int 2))) .nil)))) .nil) (.tup (.cons (.var 1) (.cons (.var 0) .nil)))))))
 .nil))
 (.cons (.asg (.tup (.cons (.name 4) (.cons (.name 5) .nil))) (.ix (.var 3) (.call 11 (.cons (.var 0) (.cons (.blt .len (.cons (.var 3) .nil)) .nil)))))
 (.cons (.ret (.tup (.cons (.var 2) (.cons (.var 4) (.cons (.var 5) .nil)))))
 .nil)))))
noncomputable def d17:FD:=⟨"_law_field",ak 19,["_law_box_here", "_law_most", "_law_p", "_law_some", "_law_left", "_law_right"],2,b17⟩
noncomputable def b18:MSs :=
 (.cons (.asg (.name 2) (.lst (.cons (.tup .nil) .nil)))
 (.cons (.for (.name 3) (.rng1 (.var 0)) (.cons (.asg (.name 4) (.lst .nil))
 (.cons (.for (.name 5) (.seq (.var 2)) (.cons (.drop (.meth .extend (.var 4) (.comp [none,(some 5)] ["_law_number_here", "_law_row"] (.last (.rng1 (.var 1)) (.name 0) .nil (.bin .add (.var 1) (.tup (.cons (.var 0) .nil)))))))
 .nil))
 (.cons (.asg (.name 2) (.var 4))
 .nil))))
 (.cons (.ret (.comp [none] ["_law_row"] (.last (.seq (.var 2)) (.name 0) (.cons (.cmp .eq (.sl (.comp [none] ["_law_number_here"] (.last (.seq (.var 0)) (.name 0) (.cons (.cmp .ne (.var 0) (.int 0)) .nil) (.var 0))) .none (.some (.int 1))) (.lst (.cons (.int 1) .nil))) .nil) (.var 0))))
 .nil)))
noncomputable def d18:FD:=⟨"_law_rows_over",ak 20,["_law_length", "_law_p", "_law_found", "_law_k", "_law_longer", "_law_row"],2,b18⟩
noncomputable def b19:MSs :=
 (.cons (.asg (.name 3) (.lst .nil))
 (.cons (.for (.name 4) (.seq (.call 18 (.cons (.var 0) (.cons (.var 2) .nil)))) (.cons (.drop (.meth .extend (.var 3) (.comp [none,(some 4)] ["_law_r", "_law_l"] (.last (.seq (.call 18 (.cons (.var 1) (.cons (.var 2) .nil)))) (.name 0) .nil (.tup (.cons (.var 1) (.cons (.var 0) .nil)))))))
 .nil))
 (.cons (.ret (.var 3))
 .nil)))
noncomputable def d19:FD:=⟨"_law_pairs",ak 21,["_law_left", "_law_right", "_law_p", "_law_found", "_law_l"],3,b19⟩
noncomputable def b21:MSs :=
 (.cons (.asg (.name 2) (.comp [none,(some 0)] ["_law_k", "_law_task_here"] (.last (.rng1 (.ix (.var 0) (.int 2))) (.name 0) .nil (.bin .mul (.lst (.cons (.int 0) .nil)) (.bin .mul (.ix (.var 1) (.int 0)) (.ix (.var 1) (.int 1)))))))
 (.cons (.for (.tup (.cons (.name 3) (.cons (.name 4) (.cons (.name 5) (.cons (.name 6) .nil))))) (.seq (.ix (.var 0) (.int 3))) (.cons (.put (.ix (.var 2) (.var 3)) (.bin .add (.bin .mul (.var 4) (.ix (.var 0) (.int 1))) (.var 5)) (.bin .mod (.var 6) (.var 1)))
 .nil))
 (.cons (.ret (.comp [none] ["_law_table_here"] (.last (.seq (.var 2)) (.name 0) .nil (.blt .tuple (.cons (.var 0) .nil)))))
 .nil)))
noncomputable def d21:FD:=⟨"_law_tables",ak 23,["_law_task_here", "_law_p", "_law_found", "_law_k", "_law_i", "_law_j", "_law_c"],2,b21⟩
noncomputable def b22:MSs :=
 (.cons (.asg (.name 3) (.dnew true))
 (.cons (.frz 0 (.for (.name 4) (.keys (.var 0)) (.cons (.for (.name 5) (.rng1 (.var 2)) (.cons (.put (.var 3) (.blt .tuple (.cons (.comp [none,none,(some 5),(some 2)] ["_law_a", "_law_b", "_law_times", "_law_p"] (.last (.zip (.var 4) (.var 1)) (.tup (.cons (.name 0) (.cons (.name 1) .nil))) .nil (.bin .mod (.bin .add (.var 0) (.bin .mul (.var 2) (.var 1))) (.var 3)))) .nil)) (.bl true))
 .nil))
 .nil)))
 (.cons (.ret (.var 3))
 .nil)))
noncomputable def d22:FD:=⟨"_law_with",ak 24,["_law_known", "_law_table_here", "_law_p", "_law_found", "_law_own", "_law_times"],3,b22⟩
noncomputable def b23:MSs :=
 (.cons (.asg (.name 3) (.d1 (.bin .mul (.tup (.cons (.int 0) .nil)) (.var 1)) (.bl true)))
 (.cons (.for (.name 4) (.seq (.var 0)) (.cons (.ite (.cmp .ninD (.var 4) (.var 3)) (.cons (.asg (.name 3) (.call 22 (.cons (.var 3) (.cons (.var 4) (.cons (.var 2) .nil)))))
 .nil) .nil)
 .nil))
 (.cons (.ret (.var 3))
 .nil)))
noncomputable def d23:FD:=⟨"_law_span",ak 25,["_law_tables_here", "_law_size", "_law_p", "_law_known", "_law_table_here"],3,b23⟩
noncomputable def b24:MSs :=
 (.cons (.par 2 3 (.blt .lenT (.cons (.var 0) .nil)) (.int 0))
 (.cons (.while (.cmp .gt (.var 2) (.int 1)) (.cons (.par 2 3 (.bin .fdiv (.var 2) (.var 1)) (.bin .add (.var 3) (.int 1)))
 .nil))
 (.cons (.ret (.var 3))
 .nil)))
noncomputable def d24:FD:=⟨"_law_height",ak 26,["_law_known", "_law_p", "_law_many", "_law_height_here"],2,b24⟩
noncomputable def b25:MSs :=
 (.cons (.asg (.name 3) (.bin .add (.int 1) (.call 11 (.cons (.var 0) (.cons (.int 4) .nil)))))
 (.cons (.ite (.cmp .eq (.call 11 (.cons (.var 0) (.cons (.int 2) .nil))) (.int 0)) (.cons (.asg (.name 4) (.lst .nil))
 (.cons (.for (.name 5) (.rng1 (.var 3)) (.cons (.for (.name 6) (.rng1 (.var 1)) (.cons (.drop (.meth .extend (.var 4) (.comp [none,(some 5),(some 6),(some 0)] ["_law_j", "_law_k", "_law_i", "_law_box_here"] (.last (.rng1 (.var 2)) (.name 0) .nil (.tup (.cons (.var 1) (.cons (.var 2) (.cons (.var 0) (.cons (.bin .sub (.call 11 (.cons (.var 3) (.cons (.int 7) .nil))) (.int 3)) .nil)))))))))
 .nil))
 .nil))
 (.cons (.ret (.tup (.cons (.var 1) (.cons (.var 2) (.cons (.var 3) (.cons (.comp [none] ["_law_term"] (.last (.seq (.var 4)) (.name 0) (.cons (.cmp .ne (.ix (.var 0) (.int 3)) (.int 0)) .nil) (.var 0))) .nil))))))
 .nil))) .nil)
 (.cons (.asg (.name 7) (.call 14 (.cons (.var 0) (.cons (.lst (.cons (.var 1) (.cons (.var 2) (.cons (.var 3) .nil)))) (.cons (.call 11 (.cons (.var 0) (.cons (.int 5) .nil))) .nil)))))
 (.cons (.ret (.tup (.cons (.var 1) (.cons (.var 2) (.cons (.var 3) (.cons (.call 16 (.cons (.call 15 (.cons (.var 7) .nil)) .nil)) .nil))))))
 .nil))))
noncomputable def d25:FD:=⟨"_law_task",ak 27,["_law_box_here", "_law_left", "_law_right", "_law_many", "_law_terms_here", "_law_k", "_law_i", "_law_scheme_here"],3,b25⟩
noncomputable def b26:MSs :=
 (.cons (.par 3 4 (.call 11 (.cons (.var 0) (.cons (.ix (.var 1) (.int 2)) .nil))) (.call 11 (.cons (.var 0) (.cons (.ix (.var 1) (.int 2)) .nil))))
 (.cons (.asg (.name 5) (.dnew true))
 (.cons (.for (.tup (.cons (.name 6) (.cons (.name 7) (.cons (.name 8) (.cons (.name 9) .nil))))) (.seq (.ix (.var 1) (.int 3))) (.cons (.asg (.name 10) (.bin .add (.bin .add (.bin .mul (.bin .mul (.var 9) (.blt .int (.cons (.cmp .eq (.var 6) (.var 3)) .nil))) (.call 11 (.cons (.var 0) (.cons (.int 3) .nil)))) (.bin .mul (.bin .mul (.var 9) (.blt .int (.cons (.cmp .eq (.var 6) (.var 4)) .nil))) (.int 2))) (.bin .mul (.var 2) (.blt .int (.cons (.cmp .eq (.var 6) (.var 3)) .nil)))))
 (.cons (.put (.var 5) (.tup (.cons (.ix (.var 1) (.int 2)) (.cons (.var 7) (.cons (.var 8) .nil)))) (.bin .add (.dget (.var 5) (.tup (.cons (.ix (.var 1) (.int 2)) (.cons (.var 7) (.cons (.var 8) .nil)))) (.int 0)) (.var 10)))
 .nil)))
 (.cons (.asg (.name 11) (.comp [none,(some 5)] ["_law_place", "_law_sums_here"] (.last (.seq (.blt .sortk (.cons (.var 5) .nil))) (.name 0) (.cons (.cmp .ne (.ix (.var 1) (.var 0)) (.int 0)) .nil) (.bin .add (.var 0) (.tup (.cons (.ix (.var 1) (.var 0)) .nil))))))
 (.cons (.ret (.tup (.cons (.ix (.var 1) (.int 0)) (.cons (.ix (.var 1) (.int 1)) (.cons (.bin .add (.ix (.var 1) (.int 2)) (.int 1)) (.cons (.bin .add (.ix (.var 1) (.int 3)) (.var 11)) .nil))))))
 .nil)))))
noncomputable def d26:FD:=⟨"_law_more",ak 28,["_law_box_here", "_law_task_here", "_law_p", "_law_one", "_law_other", "_law_sums_here", "_law_k", "_law_i", "_law_j", "_law_c", "_law_number_here", "_law_more_here"],3,b26⟩
noncomputable def b27:MSs :=
 (.cons (.for (.name 1) (.rng1 (.blt .max2 (.cons (.int 1) (.cons (.blt .min2 (.cons (.blt .len (.cons (.var 0) .nil)) (.cons (.int 5) .nil))) .nil)))) (.cons (.asg (.name 2) (.call 10 (.cons (.var 0) (.cons (.var 1) .nil))))
 (.cons (.asg (.tup (.cons (.name 3) (.cons (.name 4) (.cons (.name 5) .nil)))) (.call 17 (.cons (.var 2) (.cons (.int 12) .nil))))
 (.cons (.asg (.name 6) (.call 19 (.cons (.var 4) (.cons (.var 5) (.cons (.var 3) .nil)))))
 (.cons (.asg (.name 7) (.call 2 (.cons (.var 4) (.cons (.var 5) (.cons (.var 3) .nil)))))
 (.cons (.ite (.or (.cons (.not (.tru (.isin (.var 7) "list"))) (.cons (.cmp .ne (.var 7) (.var 6)) (.cons (.not (.tru (.blt .all (.cons (.comp [none] ["_law_pair"] (.last (.seq (.var 7)) (.name 0) .nil (.isin (.var 0) "tuple"))) .nil)))) .nil)))) (.cons (.ret (.bl false))
 .nil) .nil)
 (.cons (.drop (.meth .append (.var 7) .non))
 (.cons (.ite (.cmp .ne (.call 2 (.cons (.var 4) (.cons (.var 5) (.cons (.var 3) .nil)))) (.var 6)) (.cons (.ret (.bl false))
 .nil) .nil)
 (.cons (.asg (.name 8) (.call 25 (.cons (.var 2) (.cons (.var 4) (.cons (.var 5) .nil)))))
 (.cons (.for (.name 9) (.seq (.tup (.cons (.var 8) (.cons (.call 26 (.cons (.var 2) (.cons (.var 8) (.cons (.var 3) .nil)))) .nil)))) (.cons (.asg (.name 7) (.call 7 (.cons (.var 9) (.cons (.var 3) .nil))))
 (.cons (.asg (.name 10) (.call 24 (.cons (.call 23 (.cons (.call 21 (.cons (.var 9) (.cons (.var 3) .nil))) (.cons (.bin .mul (.var 4) (.var 5)) (.cons (.var 3) .nil)))) (.cons (.var 3) .nil))))
 (.cons (.ite (.or (.cons (.not (.tru (.isin (.var 7) "int"))) (.cons (.tru (.isin (.var 7) "bool")) (.cons (.cmp .ne (.var 7) (.var 10)) .nil)))) (.cons (.ret (.bl false))
 .nil) .nil)
 .nil))))
 .nil))))))))))
 (.cons (.ret (.bl true))
 .nil))
noncomputable def d27:FD:=⟨"law",ak 29,["_law_script", "_law_k", "_law_box_here", "_law_p", "_law_left", "_law_right", "_law_due", "_law_found", "_law_task_here", "_law_one", "_law_height_here"],1,b27⟩
noncomputable def tab:List FD := [d0,d1,d2,d3,d4,d5,d6,d7,d8,d9,d10,d11,d12,d13,d14,d15,d16,d17,d18,d19,d21,d21,d22,d23,d24,d25,d26,d27]
noncomputable def n9:List (Str×D) := []
end K41
end
section
namespace K41
theorem Af:∀ d∈tab,qe (tab.map (·.name)) n9 d=true:=by decide +kernel
noncomputable abbrev PA (K:Frag) (x:Str) (f:Addr):Prop:=J2 K Fn x=some (some (.ref f))
noncomputable abbrev PL (K:Frag) (f:Addr) (x:Str) (s:Stmt) (oc:h6) (od:Option Addr) (kV dc pm:h6) (an:Option Addr) (cd ct:h6) (sl:Array (Option h6)):Prop:=K.lookup f=some ⟨oc,od, .func (H9 x x (cX s) (bP s) (az s) .none kV dc pm an cd ct),sl⟩
noncomputable abbrev PC (K:Frag) (c:h6) (x:Str):Prop:=Jb K c x=true
noncomputable abbrev PK (K:Frag) (f:Addr):Prop:=Hx K (.ref f)=true
theorem all_mk {l:K8} {w:EM} {K:Frag} {h:Heap} {mg:Str->Option h6} {fa:Addr} (X:K.In h) (G:h.Ns Fn mg) (hfa:mg "law" = some (.ref fa)) (z:∀ x∈bltNames,J2 K Fn x=some none)
 (a0:PA K "rows_over" f0) (l0:PL K f0 "rows_over" (ak 1) oc0 od0 kV0 dc0 pm0 an0 cd0 ct0 sl0) (c0:PC K cd0 "rows_over") (k0:PK K f0)
 (a1:PA K "begins_with_one" f1) (l1:PL K f1 "begins_with_one" (ak 2) oc1 od1 kV1 dc1 pm1 an1 cd1 ct1 sl1) (c1:PC K cd1 "begins_with_one") (k1:PK K f1)
 (a2:PA K "pairs_over" f2) (l2:PL K f2 "pairs_over" (ak 3) oc2 od2 kV2 dc2 pm2 an2 cd2 ct2 sl2) (c2:PC K cd2 "pairs_over") (k2:PK K f2)
 (a3:PA K "tables_over" f3) (l3:PL K f3 "tables_over" (ak 4) oc3 od3 kV3 dc3 pm3 an3 cd3 ct3 sl3) (c3:PC K cd3 "tables_over") (k3:PK K f3)
 (a4:PA K "without" f4) (l4:PL K f4 "without" (ak 5) oc4 od4 kV4 dc4 pm4 an4 cd4 ct4 sl4) (c4:PC K cd4 "without") (k4:PK K f4)
 (a5:PA K "first_filled" f5) (l5:PL K f5 "first_filled" (ak 6) oc5 od5 kV5 dc5 pm5 an5 cd5 ct5 sl5) (c5:PC K cd5 "first_filled") (k5:PK K f5)
 (a6:PA K "grown" f6) (l6:PL K f6 "grown" (ak 7) oc6 od6 kV6 dc6 pm6 an6 cd6 ct6 sl6) (c6:PC K cd6 "grown") (k6:PK K f6)
 (a7:PA K "span_of" f7) (l7:PL K f7 "span_of" (ak 8) oc7 od7 kV7 dc7 pm7 an7 cd7 ct7 sl7) (c7:PC K cd7 "span_of") (k7:PK K f7)
 (a8:PA K "_law_cell_at" f8) (l8:PL K f8 "_law_cell_at" (ak 10) oc8 od8 kV8 dc8 pm8 an8 cd8 ct8 sl8) (c8:PC K cd8 "_law_cell_at") (k8:PK K f8)
 (a9:PA K "_law_mixed" f9) (l9:PL K f9 "_law_mixed" (ak 11) oc9 od9 kV9 dc9 pm9 an9 cd9 ct9 sl9) (c9:PC K cd9 "_law_mixed") (k9:PK K f9)
 (a10:PA K "_law_box" f10) (l10:PL K f10 "_law_box" (ak 12) oc10 od10 kV10 dc10 pm10 an10 cd10 ct10 sl10) (c10:PC K cd10 "_law_box") (k10:PK K f10)
 (a11:PA K "_law_take" f11) (l11:PL K f11 "_law_take" (ak 13) oc11 od11 kV11 dc11 pm11 an11 cd11 ct11 sl11) (c11:PC K cd11 "_law_take") (k11:PK K f11)
 (a12:PA K "_law_number" f12) (l12:PL K f12 "_law_number" (ak 14) oc12 od12 kV12 dc12 pm12 an12 cd12 ct12 sl12) (c12:PC K cd12 "_law_number") (k12:PK K f12)
 (a13:PA K "_law_part" f13) (l13:PL K f13 "_law_part" (ak 15) oc13 od13 kV13 dc13 pm13 an13 cd13 ct13 sl13) (c13:PC K cd13 "_law_part") (k13:PK K f13)
 (a14:PA K "_law_scheme" f14) (l14:PL K f14 "_law_scheme" (ak 16) oc14 od14 kV14 dc14 pm14 an14 cd14 ct14 sl14) (c14:PC K cd14 "_law_scheme") (k14:PK K f14)
 (a15:PA K "_law_sums" f15) (l15:PL K f15 "_law_sums" (ak 17) oc15 od15 kV15 dc15 pm15 an15 cd15 ct15 sl15) (c15:PC K cd15 "_law_sums") (k15:PK K f15)
 (a16:PA K "_law_terms" f16) (l16:PL K f16 "_law_terms" (ak 18) oc16 od16 kV16 dc16 pm16 an16 cd16 ct16 sl16) (c16:PC K cd16 "_law_terms") (k16:PK K f16)
 (a17:PA K "_law_field" f17) (l17:PL K f17 "_law_field" (ak 19) oc17 od17 kV17 dc17 pm17 an17 cd17 ct17 sl17) (c17:PC K cd17 "_law_field") (k17:PK K f17)
 (a18:PA K "_law_rows_over" f18) (l18:PL K f18 "_law_rows_over" (ak 20) oc18 od18 kV18 dc18 pm18 an18 cd18 ct18 sl18) (c18:PC K cd18 "_law_rows_over") (k18:PK K f18)
 (a19:PA K "_law_pairs" f19) (l19:PL K f19 "_law_pairs" (ak 21) oc19 od19 kV19 dc19 pm19 an19 cd19 ct19 sl19) (c19:PC K cd19 "_law_pairs") (k19:PK K f19)
 (a20:PA K "_law_tables" f20) (l20:PL K f20 "_law_tables" (ak 23) oc20 od20 kV20 dc20 pm20 an20 cd20 ct20 sl20) (c20:PC K cd20 "_law_tables") (k20:PK K f20)
 (a21:PA K "_law_tables" f21) (l21:PL K f21 "_law_tables" (ak 23) oc21 od21 kV21 dc21 pm21 an21 cd21 ct21 sl21) (c21:PC K cd21 "_law_tables") (k21:PK K f21)
 (a22:PA K "_law_with" f22) (l22:PL K f22 "_law_with" (ak 24) oc22 od22 kV22 dc22 pm22 an22 cd22 ct22 sl22) (c22:PC K cd22 "_law_with") (k22:PK K f22)
 (a23:PA K "_law_span" f23) (l23:PL K f23 "_law_span" (ak 25) oc23 od23 kV23 dc23 pm23 an23 cd23 ct23 sl23) (c23:PC K cd23 "_law_span") (k23:PK K f23)
 (a24:PA K "_law_height" f24) (l24:PL K f24 "_law_height" (ak 26) oc24 od24 kV24 dc24 pm24 an24 cd24 ct24 sl24) (c24:PC K cd24 "_law_height") (k24:PK K f24)
 (a25:PA K "_law_task" f25) (l25:PL K f25 "_law_task" (ak 27) oc25 od25 kV25 dc25 pm25 an25 cd25 ct25 sl25) (c25:PC K cd25 "_law_task") (k25:PK K f25)
 (a26:PA K "_law_more" f26) (l26:PL K f26 "_law_more" (ak 28) oc26 od26 kV26 dc26 pm26 an26 cd26 ct26 sl26) (c26:PC K cd26 "_law_more") (k26:PK K f26)
 (a27:PA K "law" f27) (l27:PL K f27 "law" (ak 29) oc27 od27 kV27 dc27 pm27 an27 cd27 ct27 sl27) (c27:PC K cd27 "law") (k27:PK K f27)
 : ∃ fd:Hw,(∀ (s:hH) (v:h6),Ly s fd ⟨[v],[]⟩ [("_law_script",v)]) /\ ∀ base:Heap,K.In base->base.Ns Fn mg->dj l.prog w K mg base CX0 40 fa fd ["_law_script"] (lSp K (phi tab 40 27)):=by
 have e:=hfa.symm.trans (Em X G a27)
 cases e
 have O:wg K mg tab n9:=by
  refine ⟨fun x hx=>PySem.W.mg_none_of X G (z x hx), ?_,Af, ?_⟩
  ·intro i d hd
   match i,hd with
   | 0,hd=>cases hd;exact ⟨_,_,ah l0 c0 k0,Em X G a0,a0,(ah l0 c0 k0).binds fun _ _ _ _ _ _ us hl=>by obtain ⟨u0,u1,rfl⟩:=bJ us hl;rfl⟩
   | 1,hd=>cases hd;exact ⟨_,_,ah l1 c1 k1,Em X G a1,a1,(ah l1 c1 k1).binds fun _ _ _ _ _ _ us hl=>by obtain ⟨u0,rfl⟩:=eQ us hl;rfl⟩
   | 2,hd=>cases hd;exact ⟨_,_,ah l2 c2 k2,Em X G a2,a2,(ah l2 c2 k2).binds fun _ _ _ _ _ _ us hl=>by obtain ⟨u0,u1,u2,rfl⟩:=cU us hl;rfl⟩
   | 3,hd=>cases hd;exact ⟨_,_,ah l3 c3 k3,Em X G a3,a3,(ah l3 c3 k3).binds fun _ _ _ _ _ _ us hl=>by obtain ⟨u0,u1,rfl⟩:=bJ us hl;rfl⟩
   | 4,hd=>cases hd;exact ⟨_,_,ah l4 c4 k4,Em X G a4,a4,(ah l4 c4 k4).binds fun _ _ _ _ _ _ us hl=>by obtain ⟨u0,u1,u2,rfl⟩:=cU us hl;rfl⟩
   | 5,hd=>cases hd;exact ⟨_,_,ah l5 c5 k5,Em X G a5,a5,(ah l5 c5 k5).binds fun _ _ _ _ _ _ us hl=>by obtain ⟨u0,rfl⟩:=eQ us hl;rfl⟩
   | 6,hd=>cases hd;exact ⟨_,_,ah l6 c6 k6,Em X G a6,a6,(ah l6 c6 k6).binds fun _ _ _ _ _ _ us hl=>by obtain ⟨u0,u1,u2,rfl⟩:=cU us hl;rfl⟩
   | 7,hd=>cases hd;exact ⟨_,_,ah l7 c7 k7,Em X G a7,a7,(ah l7 c7 k7).binds fun _ _ _ _ _ _ us hl=>by obtain ⟨u0,u1,rfl⟩:=bJ us hl;rfl⟩
   | 8,hd=>cases hd;exact ⟨_,_,ah l8 c8 k8,Em X G a8,a8,(ah l8 c8 k8).binds fun _ _ _ _ _ _ us hl=>by obtain ⟨u0,u1,rfl⟩:=bJ us hl;rfl⟩
   | 9,hd=>cases hd;exact ⟨_,_,ah l9 c9 k9,Em X G a9,a9,(ah l9 c9 k9).binds fun _ _ _ _ _ _ us hl=>by obtain ⟨u0,u1,rfl⟩:=bJ us hl;rfl⟩
   | 10,hd=>cases hd;exact ⟨_,_,ah l10 c10 k10,Em X G a10,a10,(ah l10 c10 k10).binds fun _ _ _ _ _ _ us hl=>by obtain ⟨u0,u1,rfl⟩:=bJ us hl;rfl⟩
   | 11,hd=>cases hd;exact ⟨_,_,ah l11 c11 k11,Em X G a11,a11,(ah l11 c11 k11).binds fun _ _ _ _ _ _ us hl=>by obtain ⟨u0,u1,rfl⟩:=bJ us hl;rfl⟩
   | 12,hd=>cases hd;exact ⟨_,_,ah l12 c12 k12,Em X G a12,a12,(ah l12 c12 k12).binds fun _ _ _ _ _ _ us hl=>by obtain ⟨u0,rfl⟩:=eQ us hl;rfl⟩
   | 13,hd=>cases hd;exact ⟨_,_,ah l13 c13 k13,Em X G a13,a13,(ah l13 c13 k13).binds fun _ _ _ _ _ _ us hl=>by obtain ⟨u0,u1,rfl⟩:=bJ us hl;rfl⟩
   | 14,hd=>cases hd;exact ⟨_,_,ah l14 c14 k14,Em X G a14,a14,(ah l14 c14 k14).binds fun _ _ _ _ _ _ us hl=>by obtain ⟨u0,u1,u2,rfl⟩:=cU us hl;rfl⟩
   | 15,hd=>cases hd;exact ⟨_,_,ah l15 c15 k15,Em X G a15,a15,(ah l15 c15 k15).binds fun _ _ _ _ _ _ us hl=>by obtain ⟨u0,rfl⟩:=eQ us hl;rfl⟩
   | 16,hd=>cases hd;exact ⟨_,_,ah l16 c16 k16,Em X G a16,a16,(ah l16 c16 k16).binds fun _ _ _ _ _ _ us hl=>by obtain ⟨u0,rfl⟩:=eQ us hl;rfl⟩
   | 17,hd=>cases hd;exact ⟨_,_,ah l17 c17 k17,Em X G a17,a17,(ah l17 c17 k17).binds fun _ _ _ _ _ _ us hl=>by obtain ⟨u0,u1,rfl⟩:=bJ us hl;rfl⟩
   | 18,hd=>cases hd;exact ⟨_,_,ah l18 c18 k18,Em X G a18,a18,(ah l18 c18 k18).binds fun _ _ _ _ _ _ us hl=>by obtain ⟨u0,u1,rfl⟩:=bJ us hl;rfl⟩
   | 19,hd=>cases hd;exact ⟨_,_,ah l19 c19 k19,Em X G a19,a19,(ah l19 c19 k19).binds fun _ _ _ _ _ _ us hl=>by obtain ⟨u0,u1,u2,rfl⟩:=cU us hl;rfl⟩
   | 20,hd=>cases hd;exact ⟨_,_,ah l20 c20 k20,Em X G a20,a20,(ah l20 c20 k20).binds fun _ _ _ _ _ _ us hl=>by obtain ⟨u0,u1,rfl⟩:=bJ us hl;rfl⟩
   | 21,hd=>cases hd;exact ⟨_,_,ah l21 c21 k21,Em X G a21,a21,(ah l21 c21 k21).binds fun _ _ _ _ _ _ us hl=>by obtain ⟨u0,u1,rfl⟩:=bJ us hl;rfl⟩
   | 22,hd=>cases hd;exact ⟨_,_,ah l22 c22 k22,Em X G a22,a22,(ah l22 c22 k22).binds fun _ _ _ _ _ _ us hl=>by obtain ⟨u0,u1,u2,rfl⟩:=cU us hl;rfl⟩
   | 23,hd=>cases hd;exact ⟨_,_,ah l23 c23 k23,Em X G a23,a23,(ah l23 c23 k23).binds fun _ _ _ _ _ _ us hl=>by obtain ⟨u0,u1,u2,rfl⟩:=cU us hl;rfl⟩
   | 24,hd=>cases hd;exact ⟨_,_,ah l24 c24 k24,Em X G a24,a24,(ah l24 c24 k24).binds fun _ _ _ _ _ _ us hl=>by obtain ⟨u0,u1,rfl⟩:=bJ us hl;rfl⟩
   | 25,hd=>cases hd;exact ⟨_,_,ah l25 c25 k25,Em X G a25,a25,(ah l25 c25 k25).binds fun _ _ _ _ _ _ us hl=>by obtain ⟨u0,u1,u2,rfl⟩:=cU us hl;rfl⟩
   | 26,hd=>cases hd;exact ⟨_,_,ah l26 c26 k26,Em X G a26,a26,(ah l26 c26 k26).binds fun _ _ _ _ _ _ us hl=>by obtain ⟨u0,u1,u2,rfl⟩:=cU us hl;rfl⟩
   | 27,hd=>cases hd;exact ⟨_,_,ah l27 c27 k27,Em X G a27,a27,(ah l27 c27 k27).binds fun _ _ _ _ _ _ us hl=>by obtain ⟨u0,rfl⟩:=eQ us hl;rfl⟩
   | i+28,hd=>simp [tab] at hd
  ·intro x i hx;simp only [n9,Eb,EL,or_false,Prod.mk.injEq] at hx
 refine ⟨H9 "law" "law" (cX (ak 29)) (bP (ak 29)) (az (ak 29)) .none kV27 dc27 pm27 an27 cd27 ct27,fun s v => .of_eq rfl,fun base _ _ => ?_⟩;exact sD O 40 27 d27 _ _ rfl (ah l27 c27 k27)
theorem walk {l:K8} {q:Ep} {loose:List Str} {XP:(Str->Option h6)->Heap->Prop} {YP:EM->Heap->Prop} {d:DefRec} {K:Params->Frag} (hn:l.most=some 63) (hdf:d.params.defaults=[])
 (hlaw:∀ ns:List Int,ns.length<=63->phi tab 40 27 [.con (ns.map D.int)] (fun _=>none) fun d _=>d = .bl true)
 (hY:∀ (w:EM) (h:Heap),YP w h->(K w.params).In h)
 (F:∀ (w:EM) (mg:Str->Option h6) (fa:Addr) (h:Heap),(K w.params).In h->h.Ns Fn mg->mg d.name=some (.ref fa) ->
   ∃ fd:Hw,(∀ (s:hH) (u:h6),Ly s fd ⟨[u],[]⟩ [("_law_script",u)]) /\ ∀ base:Heap,(K w.params).In base->base.Ns Fn mg->dj l.prog w (K w.params) mg base CX0 40 fa fd ["_law_script"] (lSp (K w.params) (phi tab 40 27))) :
 PySem.W.WalkO q loose XP YP l.row.toRowW d [] (fun f vs=>N1 f vs) :=
 L2.walk_of (n := 63) (k := 40) (x := "_law_script") (CX:=fun _=>CX0) (sp:=fun w=>lSp (K w.params) (phi tab 40 27)) hn (by decide) hdf ⟨rfl,by decide,by decide⟩ hY F (fun w H a ns hl hO hS=>A3 hO hS (hlaw ns hl)) fun _ _ _ _ _ z=>z
end K41
end
section
namespace K41
open PySem PySem.Spec PyProof.Rows L2.Srt
theorem oM {n:Nat} (j : 1<=n):qh tab n 9:=t7 (x := "_law_number_here") (s:=ak 11) rfl j
theorem bh {n:Nat} (j : 2<=n):sY tab n 11:=fun z h1 h2 q=>ye (s:=ak 13) (fm := 9) rfl (oM (by lia)) j z h1 h2 q
theorem qm {n:Nat} (U : 3<=n):mN tab n 12:=by
 intro b M Q B q;refine au (by lia) rfl rfl (ρ := [some _]) rfl ?_
 unfold d12 L2.Mi.K41.b12;walk_at "st";refine ⟨by rw [D1];lia,fun p F => ?_⟩
 have g:=Ge.new (o := .lst ([0,0,1,1,1, -1, -1,2,0].map D.int)) F;have e:=aa (M:=M) (a:=p) (o := .lst ([0,0,1,1,1, -1, -1,2,0].map D.int));have j:p≠b:=fun z=>by obtain ⟨_,_,_,h⟩:=B;rw [<- z,F] at h;cases h
 have x0:=Bx.of B g;change phi _ _ _ _ (ag M p (.lst ([0,0,1,1,1, -1, -1,2,0].map D.int))) _;generalize ag M p (.lst ([0,0,1,1,1, -1, -1,2,0].map D.int))=M1 at e x0 ⊢;refine bh (by lia) x0.box (by decide) (by decide) fun v M2 v0 v1 G => ?_
 have e:=G.keep p _ j e;obtain ⟨v,rfl⟩:=Gb v0;have O:v < ([0,0,1,1,1, -1, -1,2,0]:List Int).length:=by simp;lia
 have J:([0,0,1,1,1, -1, -1,2,0]:List Int)[v]? = some ([0,0,1,1,1, -1, -1,2,0]:List Int)[v]:=D0 O;have hm:=Ez J;have L : -1000<=([0,0,1,1,1, -1, -1,2,0]:List Int)[v]/\([0,0,1,1,1, -1, -1,2,0]:List Int)[v]<=1000:=by
  simp only [Eb,EL,or_false] at hm;lia
 exact aT e (cg (by rw [Eo,J];rfl)) (q _ _ L.1 L.2 (x0.trans G))
theorem vG {n:Nat} (B : 4<=n):t5 tab n 13:=fun j z q=>yf (s:=ak 15) (fn := 12) rfl (qm (by lia)) (by lia) j z q
theorem be {M M':Mem} {p:Addr} (g:Ge M M') (h:M' p=none):M p=none:=by
 cases hz:M p with
 | none=>rfl
 | some o=>rw [g _ _ hz] at h;cases h
noncomputable abbrev rD (v:List Int):D := .tup (v.map .int)
noncomputable def rwN (P:Nat) (rows:List (List Int)):List (List Int):=rows.flatMap fun r=>(Ei P).map fun x=>r++[((x:Nat):Int)]
noncomputable def rws (P:Nat):Nat->List (List Int)
 | 0 => [[]]
 | k+1=>rwN P (rws P k)
theorem gd {P:Nat}:∀ {rows:List (List Int)},(rwN P rows).length=rows.length*P
 | [] => by simp [rwN]
 | r::rows=>by
   have ih:=gd (P:=P) (rows:=rows);unfold rwN at ih ⊢;rw [Fw,z4,ih,Fg,FG];simp;lia
theorem cz {P:Nat} (j:P<=3):∀ k,k<=6->(rws P k).length<=3 ^ k
 | 0,_=>by simp [rws]
 | k+1,h=>by
   show (rwN P (rws P k)).length<=_;rw [gd,LO];exact EN (cz j k (by lia)) j
theorem gh {k:Nat} (h:k<=6) : 3 ^ k<=729:=ET (KJ (by decide) h) (by decide)
theorem cA {P:Nat}:∀ k, ∀ r∈rws P k,r.length=k
 | 0,r,h=>by simp [rws] at h;simp [h]
 | k+1,r,h=>by
   obtain ⟨u,j,h⟩:=Ml.mp h;obtain ⟨x,_,rfl⟩:=ED.mp h;rw [z4,cA k u j];rfl
noncomputable def nzl (v:List Int):List Int:=v.filter fun x => !(x==0)
noncomputable def fo (v:List Int):Bool:=decide (0 < (nzl v).length)&&decide (gz (nzl v) 0=1)
theorem kj {k:Nat} (L : 1<=k) {v:List Int} (O:v.length<=1000) {M:Mem} {Q:QD} (q:∀ M',Ge M M'->Q (.bl (fo v)) M'):phi tab k 1 [rD v] M Q:=by
 refine au (by lia) rfl rfl (ρ := [some _,none]) rfl ?_
 unfold d1 L2.Mi.K41.b1;walk_at "st";refine am (f:=D.int) (ys:=v) (I:=fun l ρ M' acc=>(∃ o0, ρ = [o0])/\M'=M/\acc=(nzl l).map .int) rfl ⟨⟨_,rfl⟩,rfl,rfl⟩ (fun _ _ _ _ _=>by first | rfl | trivial) ?_ ?_
 ·rintro l x r ρ z acc e ⟨⟨o0,rfl⟩,rfl,rfl⟩;refine ⟨_,rfl,fun N B => ?_⟩;have F:=ai e;have G:=Es (fun x:Int => !(x==0)) l;walk_at "wp"
  by_cases hx:x=0
  ·subst hx;simp;exact B _ _ _ ⟨⟨_,rfl⟩,rfl,by simp [nzl]⟩
  ·rw [if_pos (by simpa using hx)]
   exact ⟨by rw [r4,D1];unfold nzl;lia,B _ _ _ ⟨⟨_,rfl⟩,rfl,by simp [nzl,hx]⟩⟩
 ·rintro ρ z acc ⟨⟨o0,rfl⟩,rfl,rfl⟩ p hp;have g1:=Ge.new (o := .lst ((nzl v).map .int)) hp;have j:=aa (M:=z) (a:=p) (o := .lst ((nzl v).map .int));generalize ag z p (.lst ((nzl v).map .int))=M2 at g1 j ⊢;walk_at "st";refine ⟨_,_,rfl,gZ (ae j), ?_⟩;walk_at "wp";rw [r4]
  cases hz:nzl v with
  | nil =>
    rw [if_neg (by simp)]
    have:=q _ g1;unfold fo at this;rw [hz] at this;simpa using this
  | cons x r =>
    rw [if_pos (by simp)]
    rw [hz] at j;refine aT j (d := .int x) (cg (k := 0) rfl) ?_;walk_at "wp";have:=q _ g1;unfold fo at this;rw [hz] at this;have J:(x==1)=decide (x=1):=rfl;rw [J];simpa [gz] using this
noncomputable def fx1 (c:Nat) (a:Nat) (l:List Nat):List (Nat×Nat):=(l.filter fun b:Nat=>decide ((1+a)*(1+b)<=c)).map fun b=>(1+a,1+b)
noncomputable def fx (c:Nat) (l:List Nat):List (Nat×Nat):=l.flatMap fun a=>fx1 c a (Ei 6)
noncomputable def pnD (x:Nat×Nat):D := .tup [.int x.1, .int x.2]
theorem Ba:∀ c,c=12∨c=9->(1<=(fx c (Ei 6)).length/\(fx c (Ei 6)).length<=36) /\ ∀ x∈fx c (Ei 6),(1<=x.1/\x.1<=6)/\(1<=x.2/\x.2<=6):=by
 intro c j
 rcases j with rfl | rfl <;> decide
theorem tz {c:Nat}:∀ {l:List Nat},(fx c l).length<=l.length*6
 | [] => by simp [fx]
 | a::l=>by
   have ih:=tz (c:=c) (l:=l);have h1:(fx1 c a (Ei 6)).length<=6:=by unfold fx1;rw [r4];exact Es _ _
   unfold fx at ih ⊢;rw [Fw,z4,Fg];lia
theorem vH {n:Nat} (hn : 3<=n) {b:Addr} {M:Mem} {Q:QD} (hb:Box b M)
 (q:∀ (p:Int) (l r:Nat) M',(p=2∨p=3)->(1<=l/\l<=6)->(1<=r/\r<=6)->Bx b M M'->Q (.tup [.int p, .int l, .int r]) M'):phi tab n 17 [.ref b, .int 12] M Q:=by
 refine au (by lia) rfl rfl (ρ := [some _,some _,none,none,none,none]) rfl ?_
 unfold d17 L2.Mi.K41.b17;walk_at "st";refine bh (by lia) hb (by decide) (by decide) fun r M1 r0 r1 Y => ?_
 walk_at "wp";walk_at "st";refine ⟨by rw [D1];lia,fun ps z => ?_⟩
 have g2:=Ge.new (o := .lst []) z;have e2:=aa (M:=M1) (a:=ps) (o := .lst []);generalize ag M1 ps (.lst [])=M2 at g2 e2 ⊢;have B:=cn Y.box z;have x2:=Y.ge g2;obtain ⟨c,hc,Z⟩:∃ c:Nat,(c=12∨c=9)/\((r=0/\c=12)∨(r=1/\c=9)):=by
  have:r=0∨r=1:=by lia
  rcases this with h | h
  ·exact ⟨12, .inl rfl, .inl ⟨h,rfl⟩⟩
  ·exact ⟨9, .inr rfl, .inr ⟨h,rfl⟩⟩
 walk_at "st";refine ⟨1,7,⟨rfl,rfl⟩,by lia, ?_⟩
 refine ax (f:=fun a:Nat=>D.int (1+(a:Nat))) (ys:=Ei 6) (I:=fun l ρ M' => ∃ o4 o5, ρ = [some (.ref b),some (.int 12),some (.int (2+r)),some (.ref ps),o4,o5]/\Bx b M M'/\M' ps=some (.lst ((fx c l).map pnD))) rfl ⟨_,_,rfl,x2,e2⟩ (fun _ _ _ _=>trivial) ?_ ?_
 ·rintro l a rr ρ M3 e ⟨o4,o5,rfl,O,G⟩;refine ⟨_,rfl,fun F hF => ?_⟩;rw [ce];walk_at "wp";refine ⟨⟨_,G⟩,1,7,⟨rfl,rfl⟩,by lia, ?_⟩
  refine am (f:=fun a:Nat=>D.int (1+(a:Nat))) (ys:=Ei 6) (I:=fun l' ρ M' acc=>(∃ o0, ρ = [o0,some (.int (1+(a:Nat))),some (.int 12),some (.int (2+r))])/\Ge M3 M'/\acc=(fx1 c a l').map pnD) rfl ⟨⟨_,rfl⟩,Ge.refl,rfl⟩ (fun _ _ _ _ _=>trivial) ?_ ?_
  ·rintro l' a' rr' ρ M4 acc e' ⟨⟨o0,rfl⟩,g4,rfl⟩;refine ⟨_,rfl,fun N' J => ?_⟩;have BJ:=ai e';rw [Ej] at BJ;have ha:a < 6:=by have h9:a∈Ei 6:=(by rw [e];simp);simpa using h9
   have BL:(fx1 c a l').length<=l'.length:=by unfold fx1;rw [r4];exact Es _ _
   walk_at "wp";refine ⟨dA (by lia),by rw [D1];lia,fun p4 BK => ?_⟩
   have j:=g4.trans (Ge.new (o := .lst [.int 12, .int 9]) BK);have cast:((1+(a:Int))*(1+(a':Int)))=(((1+a)*(1+a'):Nat):Int):=by push_cast;rfl
   have fin:∀ U (x:Int),Ge M3 U->x=c->if (1+(a:Int))*(1+(a':Int))<=x then 0+1+1<=DY/\((fx1 c a l').map pnD).length < DY/\N' [some (.int (1+(a':Nat))),some (.int (1+(a:Nat))),some (.int 12),some (.int (2+r))] U ((fx1 c a l').map pnD++[.tup [.int (1+(a:Nat)), .int (1+(a':Nat))]]) else N' [some (.int (1+(a':Nat))),some (.int (1+(a:Nat))),some (.int 12),some (.int (2+r))] U ((fx1 c a l').map pnD):=by
    intro U x j ex
    by_cases hz:(1+a)*(1+a')<=c
    ·rw [if_pos (by rw [ex,cast];lia)]
     refine ⟨by rw [D1];lia,by rw [r4,D1];lia,J _ _ _ ⟨⟨_,rfl⟩,j, ?_⟩⟩
     unfold fx1;rw [EB,EH (by simpa using hz)];simp [pnD]
    ·rw [if_neg (by rw [ex,cast];lia)]
     refine J _ _ _ ⟨⟨_,rfl⟩,j, ?_⟩;unfold fx1;rw [EB,EI (by simpa using hz)];simp
   rcases Z with ⟨rfl,rfl⟩ | ⟨rfl,rfl⟩
   ·refine aT aa rfl ?_;walk_at "wp";exact fin _ _ j rfl
   ·refine aT aa rfl ?_;walk_at "wp";exact fin _ _ j rfl
  ·rintro ρ M4 acc ⟨⟨o0,rfl⟩,g4,rfl⟩ pp hpp;have j:=g4.trans (Ge.new (o := .lst ((fx1 c a (Ei 6)).map pnD)) hpp);have BM:(fx1 c a (Ei 6)).length<=6:=by unfold fx1;rw [r4];exact Es _ _
   have BN:(fx c l).length<=36:=by
    have:=tz (c:=c) (l:=l);have hh:=ai e;rw [Ej] at hh;lia
   have L:M ps=none:=Y.none z B;refine ⟨ps,pp,_,_,rfl,rfl,j _ _ G,aa,by rw [r4,r4,D1];lia, ?_⟩
   refine hF _ _ ⟨_,_,rfl,(O.ge j).upd L B, ?_⟩;rw [aa, <- F7];unfold fx;rw [Fk];simp
 ·rintro ρ M3 ⟨o4,o5,rfl,O,G⟩;dsimp only;rw [ce];walk_at "wp";obtain ⟨⟨f1,f2⟩,f3⟩:=Ba c hc;refine ⟨_,_,rfl,gZ (ae G), ?_⟩;rw [r4];refine bh (by lia) O.box (by lia) (by lia) fun v M4 v0 v1 x4 => ?_
  obtain ⟨i,rfl⟩:=Gb v0;have hi:i < (fx c (Ei 6)).length:=by lia
  refine aT (x4.keep _ _ B G) (d:=pnD ((fx c (Ei 6))[i])) ?_ ?_
  ·refine cg ?_;rw [Eo,D0 hi];rfl
  ·refine ⟨_,rfl, ?_⟩;walk_at "st";have:=f3 _ (GW hi);exact ⟨by rw [D1];lia,q (2+r) _ _ _ (by lia) this.1 this.2 (O.trans x4)⟩
theorem Ag:∀ {A B:List Int},Fq (A.map .int) (B.map .int)=decide (A=B)
 | [],[] => by simp [Fq]
 | [],_::_=>by simp [Fq]
 | _::_,[] => by simp [Fq]
 | a::A,b::B=>by
   rw [Ew,Ew,Fq,Ag]
   by_cases h:a=b <;> simp [Fb,h]
theorem yn {A B:List Int} {a b:Addr} {M:Mem} {Q:QD} (j:M a=some (.lst (A.map .int))) (z:M b=some (.lst (B.map .int))) (q:Q (.bl (decide (A=B))) M):wEq (.ref a) (.ref b) M Q:=by
 refine ⟨.list (A.map .int), .list (B.map .int),by rw [dY j,dX];rfl,by rw [dY z,dX];rfl, ?_⟩
 rw [Fb,Ag];exact q
theorem yo {v:List Int}:decide ((nzl v).take 1=[1])=fo v:=by
 unfold fo
 cases nzl v with
 | nil=>simp
 | cons x r=>simp [gz]
theorem oO {k:Nat} (hk : 1<=k) {P L:Nat} (hP:P<=3) (hL:L<=6) {M:Mem} {Q:QD} (q:∀ p M',Ge M M'->M p=none->M' p=some (.lst ((rws P L).map rD))->Q (.ref p) M'):phi tab k 0 [.int L, .int P] M Q:=by
 refine au (by lia) rfl rfl (ρ := [some _,some _,none,none]) rfl ?_
 unfold d0 L2.Mi.K41.b0;walk_at "st";refine ⟨by rw [D1];lia,by rw [D1];lia,fun J z => ?_⟩
 have g0:=Ge.new (o := .lst [rD []]) z;have e0:=aa (M:=M) (a:=J) (o := .lst [rD []]);change wSs _ _ _ _ (ag M J (.lst [rD []]));generalize ag M J (.lst [rD []])=M0 at g0 e0 ⊢;walk_at "st";refine ⟨by lia,by lia, ?_⟩
 rw [Ed];refine ax (f:=fun i=>D.int (i:Nat)) (ys:=Ei L) (I:=fun l ρ M' => ∃ pr O, ρ = [some (.int L),some (.int P),some (.ref pr),O]/\Ge M M'/\M pr=none/\M' pr=some (.lst ((rws P l.length).map rD))) aG ⟨J,_,rfl,g0,z,e0⟩ (fun _ _ _ _=>trivial) ?_ ?_
 ·rintro l i r ρ M1 e ⟨pr,O,rfl,g1,n1,B⟩;refine ⟨_,rfl,fun F hF => ?_⟩;have U:=ai e;rw [Ej] at U;have BK:=ET (cz hP l.length (by lia)) (gh (show l.length<=6 by lia))
  walk_at "st";refine ⟨_,ae B, ?_⟩;refine am (f:=rD) (ys:=rws P l.length) (I:=fun l2 ρ M' acc=>(∃ o0 j, ρ = [o0,j,some (.int P)])/\M'=M1/\acc=(rwN P l2).map rD) rfl ⟨⟨_,_,rfl⟩,rfl,rfl⟩ (fun _ _ _ _ h=>by rw [h.2.1];exact ae B) ?_ ?_
  ·rintro l2 w r2 ρ M2 acc e2 ⟨⟨o0,j,rfl⟩,rfl,rfl⟩;refine ⟨_,rfl,fun N hN => ?_⟩;have BJ:=ai e2;have BL:=cA l.length w (by rw [e2];simp)
   walk_at "wp";refine ⟨by lia,by lia, ?_⟩
   rw [Ed];refine am (f:=fun i=>D.int (i:Nat)) (ys:=Ei P) (I:=fun l3 ρ M' acc=>(∃ j, ρ = [some (rD w),j,some (.int P)])/\M'=M2/\acc=(rwN P l2++l3.map fun x=>w++[((x:Nat):Int)]).map rD) aG ⟨⟨_,rfl⟩,rfl,by simp⟩ (fun _ _ _ _ _=>trivial) ?_ ?_
   ·rintro l3 x r3 ρ M3 acc e3 ⟨⟨j,rfl⟩,rfl,rfl⟩;refine ⟨_,rfl,fun N2 Y => ?_⟩;have Z:=ai e3;rw [Ej] at Z;have hm:l2.length*P<=729*3:=EN (by lia) hP
    walk_at "wp";refine ⟨by rw [D1];lia, .inr trivial,by rw [r4,D1];lia,by rw [r4,z4,gd,r4,D1];lia,Y _ _ _ ⟨⟨_,rfl⟩,rfl,by simp⟩⟩
   ·rintro ρ M3 acc ⟨⟨j,rfl⟩,rfl,rfl⟩;exact hN _ _ _ ⟨⟨_,_,rfl⟩,rfl,by simp [rwN,Fk]⟩
  ·rintro ρ M2 acc ⟨⟨o0,j,rfl⟩,rfl,rfl⟩ pn G;refine hF _ _ ⟨pn,_,rfl,g1.trans (Ge.new G),be g1 G, ?_⟩;rw [aa,z4];rfl
 ·rintro ρ M1 ⟨pr,O,rfl,g1,n1,B⟩;dsimp only;walk_at "st";rw [Ej] at B;exact q pr M1 g1 n1 B
theorem nc {k:Nat} (hk : 1<=k) {P L:Nat} (hP:P<=3) (hL:L<=6) {M:Mem} {Q:QD} (q:∀ p M',Ge M M'->M p=none->M' p=some (.lst (((rws P L).filter fo).map rD))->Q (.ref p) M'):phi tab k 18 [.int L, .int P] M Q:=by
 refine au (by lia) rfl rfl (ρ := [some _,some _,none,none,none,none]) rfl ?_
 unfold d18 L2.Mi.K41.b18;walk_at "st";refine ⟨by rw [D1];lia,by rw [D1];lia,fun p0 BM => ?_⟩
 have g0:=Ge.new (o := .lst [rD []]) BM;have e0:=aa (M:=M) (a:=p0) (o := .lst [rD []]);change wSs _ _ _ _ (ag M p0 (.lst [rD []]));generalize ag M p0 (.lst [rD []])=M0 at g0 e0 ⊢;walk_at "st";refine ⟨by lia,by lia, ?_⟩
 rw [Ed];refine ax (f:=fun i=>D.int (i:Nat)) (ys:=Ei L) (I:=fun l ρ M' => ∃ pr o3 o4 O, ρ = [some (.int L),some (.int P),some (.ref pr),o3,o4,O]/\Ge M M'/\M' pr=some (.lst ((rws P l.length).map rD))) aG ⟨p0,_,_,_,rfl,g0,e0⟩ (fun _ _ _ _=>trivial) ?_ ?_
 ·rintro l i r ρ Z e ⟨pr,o3,o4,O,rfl,g1,J⟩;refine ⟨_,rfl,fun F hF => ?_⟩;have BN:=ai e;rw [Ej] at BN;have BO:=ET (cz hP l.length (by lia)) (gh (show l.length<=6 by lia))
  walk_at "st";refine ⟨by rw [D1];lia,fun pl j => ?_⟩
  have g2:=Ge.new (o := .lst []) j;have e2:=aa (M:=Z) (a:=pl) (o := .lst []);generalize ag Z pl (.lst [])=M2 at g2 e2 ⊢;have BU:=be g1 j;have BW:pr≠pl:=fun z=>by rw [z,j] at J;cases J
  walk_at "st";refine ⟨_,ae (g2 _ _ J), ?_⟩;refine ax (f:=rD) (ys:=rws P l.length) (I:=fun l2 ρ M'=>(∃ O, ρ = [some (.int L),some (.int P),some (.ref pr),some (.int (i:Nat)),some (.ref pl),O])/\Ge Z M'/\M' pl=some (.lst ((rwN P l2).map rD))) rfl ⟨⟨_,rfl⟩,g2,e2⟩ (fun _ _ _ h=>ae (h.2.1 _ _ J)) ?_ ?_
  ·rintro l2 w r2 ρ U e' ⟨⟨O,rfl⟩,g3,G⟩;refine ⟨_,rfl,fun F2 BP => ?_⟩;have BJ:=ai e';have BQ:=cA l.length w (by rw [e'];simp)
   walk_at "st";refine ⟨⟨_,G⟩,by lia,by lia, ?_⟩
   rw [Ed];refine am (f:=fun i=>D.int (i:Nat)) (ys:=Ei P) (I:=fun Y ρ M' acc=>(∃ o0, ρ = [o0,some (rD w)])/\M'=U/\acc=(Y.map fun x=>w++[((x:Nat):Int)]).map rD) aG ⟨⟨_,rfl⟩,rfl,rfl⟩ (fun _ _ _ _ _=>trivial) ?_ ?_
   ·rintro Y x r3 ρ M4 acc e3' ⟨⟨o0,rfl⟩,rfl,rfl⟩;refine ⟨_,rfl,fun N hN => ?_⟩;have BK:=ai e3';rw [Ej] at BK;walk_at "wp";exact ⟨by rw [D1];lia, .inr trivial,by rw [r4,D1];lia,by rw [r4,r4,D1];lia,hN _ _ _ ⟨⟨_,rfl⟩,rfl,by simp⟩⟩
   ·rintro ρ M4 acc ⟨⟨o0,rfl⟩,rfl,rfl⟩ pe hpe;have gp:=Ge.new (o := .lst (((Ei P).map fun x=>w++[((x:Nat):Int)]).map rD)) hpe;have hm:l2.length*P<=729*3:=EN (by lia) hP
    refine ⟨pl,pe,_,_,rfl,rfl,gp _ _ G,aa,by rw [r4,r4,r4,Ej,gd,D1];lia, ?_⟩
    refine BP _ _ ⟨⟨_,rfl⟩,(g3.trans gp).upd j, ?_⟩;rw [aa];simp [rwN,Fk]
  ·rintro ρ U ⟨⟨O,rfl⟩,g3,G⟩;dsimp only;walk_at "st";refine hF _ _ ⟨pl,_,_,_,rfl,g1.trans g3, ?_⟩;rw [G,z4];rfl
 ·rintro ρ Z ⟨pr,o3,o4,O,rfl,g1,J⟩;dsimp only;rw [Ej] at J;have BO:=ET (cz hP L hL) (gh hL);walk_at "st";refine ⟨_,ae J, ?_⟩;refine am (f:=rD) (ys:=rws P L) (I:=fun l2 ρ M' acc=>(∃ o0, ρ = [o0])/\Ge Z M'/\acc=(l2.filter fo).map rD) rfl ⟨⟨_,rfl⟩,Ge.refl,rfl⟩ (fun _ _ _ _ h=>ae (h.2.1 _ _ J)) ?_ ?_
  ·rintro l2 w r2 ρ M2 acc e2 ⟨⟨o0,rfl⟩,g2,rfl⟩;refine ⟨_,rfl,fun N hN => ?_⟩;have BJ:=ai e2;have BQ:=cA L w (by rw [e2];simp)
   have BX:=Es fo l2;refine ⟨_,rfl,_,rfl, ?_⟩;refine am (f:=D.int) (ys:=w) (I:=fun Y ρ M' acc=>(∃ o0, ρ = [o0])/\M'=M2/\acc=(nzl Y).map .int) rfl ⟨⟨_,rfl⟩,rfl,rfl⟩ (fun _ _ _ _ _=>by first | rfl | trivial) ?_ ?_
   ·rintro Y x r3 ρ U acc G ⟨⟨o0,rfl⟩,rfl,rfl⟩;refine ⟨_,rfl,fun N2 BL => ?_⟩;have BK:=ai G;have BV:=Es (fun x:Int => !(x==0)) Y;refine ⟨_,rfl, ?_⟩;walk_at "wp"
    by_cases hx:x=0
    ·subst hx;simp;exact BL _ _ _ ⟨⟨_,rfl⟩,rfl,by simp [nzl]⟩
    ·rw [if_pos (by simpa using hx)]
     exact ⟨by rw [r4,D1];unfold nzl;lia,BL _ _ _ ⟨⟨_,rfl⟩,rfl,by simp [nzl,hx]⟩⟩
   ·rintro ρ U acc ⟨⟨o0,rfl⟩,rfl,rfl⟩ p3 hp3;have g3:=Ge.new (o := .lst ((nzl w).map .int)) hp3;have G:=aa (M:=U) (a:=p3) (o := .lst ((nzl w).map .int));generalize ag U p3 _=M4 at g3 G ⊢;refine ⟨_,G,fun p4 BR => ?_⟩;have ec:eC ((nzl w).map D.int) none (some 1)=((nzl w).take 1).map .int:=by
     unfold eC;simp only [HT.sIx];rw [if_neg (by lia),List.map_take]
     cases nzl w with
     | nil=>simp
     | cons x r=>simp
    rw [ec];have g4:=Ge.new (o := .lst (((nzl w).take 1).map .int)) BR;have e4:=aa (M:=M4) (a:=p4) (o := .lst (((nzl w).take 1).map .int));generalize ag M4 p4 _=M5 at g4 e4 ⊢;refine ⟨by rw [D1];lia,fun p5 BS => ?_⟩
    have g5:=Ge.new (o := .lst ([1].map D.int)) BS;have gA:=g2.trans (g3.trans (g4.trans g5));refine yn (B := [1]) (g5 _ _ e4) aa ?_;rw [yo];refine ⟨_,rfl, ?_⟩
    cases ho:fo w with
    | true =>
      rw [if_pos rfl];refine ⟨_,rfl,by rw [r4,D1];lia,hN _ _ _ ⟨⟨_,rfl⟩,gA, ?_⟩⟩
      rw [EB,EH ho];simp
    | false =>
      rw [if_neg (by simp)]
      refine hN _ _ _ ⟨⟨_,rfl⟩,gA, ?_⟩;rw [EB,EI (by rw [ho];simp)];simp
  ·rintro ρ M2 acc ⟨⟨o0,rfl⟩,g2,rfl⟩ pn hpn;exact q pn _ (g1.trans (g2.trans (Ge.new hpn))) (be (g1.trans g2) hpn) aa
noncomputable abbrev p2D (x:List Int×List Int):D := .tup [rD x.1,rD x.2]
noncomputable def prs (P L R:Nat):List (List Int×List Int):=((rws P L).filter fo).flatMap fun l=>((rws P R).filter fo).map fun r=>(l,r)
noncomputable def prL (P R:Nat) (ls:List (List Int)):List (List Int×List Int):=ls.flatMap fun l=>((rws P R).filter fo).map fun r=>(l,r)
theorem gj {P R:Nat}:∀ {ls:List (List Int)},(prL P R ls).length=ls.length*((rws P R).filter fo).length
 | [] => by simp [prL]
 | l::ls=>by
   have ih:=gj (P:=P) (R:=R) (ls:=ls);unfold prL at ih ⊢;rw [Fw,z4,ih,Fg,FG];simp;lia
theorem fD {P R:Nat} (q:P<=3) (j:R<=6):((rws P R).filter fo).length<=729:=ET (Es _ _) (ET (cz q R j) (gh j))
theorem ng {k:Nat} (hk : 2<=k) {P L R:Nat} (B:P<=3) (Y:L<=6) (U:R<=6) {M:Mem} {Q:QD} (q:∀ p M',Ge M M'->M p=none->M' p=some (.lst ((prs P L R).map p2D))->Q (.ref p) M'):phi tab k 2 [.int L, .int R, .int P] M Q:=by
 refine au (by lia) rfl rfl (ρ := [some _,some _,some _,none]) rfl ?_
 unfold d2 L2.Mi.K41.b2;walk_at "st";refine oO (by lia) B U fun p0 M0 g0 n0 Z=>⟨_,ae Z, ?_⟩
 have BO:=ET (cz B R U) (gh U);have BP:=ET (cz B L Y) (gh Y);refine am (f:=rD) (ys:=rws P R) (I:=fun l ρ M' acc=>(∃ o0, ρ = [o0])/\Ge M0 M'/\acc=(l.filter fo).map rD) rfl ⟨⟨_,rfl⟩,Ge.refl,rfl⟩ (fun _ _ _ _ h=>ae (h.2.1 _ _ Z)) ?_ ?_
 ·rintro l w r ρ M1 acc e ⟨⟨o0,rfl⟩,g1,rfl⟩;refine ⟨_,rfl,fun N F => ?_⟩;have BJ:=ai e;have BK:=cA R w (by rw [e];simp)
  have BL:=Es fo l;walk_at "wp";refine kj (by lia) (by lia) fun M2 g2=>⟨_,rfl, ?_⟩
  cases ho:fo w with
  | true =>
    rw [if_pos rfl];refine ⟨by rw [r4,D1];lia,F _ _ _ ⟨⟨_,rfl⟩,g1.trans g2, ?_⟩⟩
    rw [EB,EH ho];simp
  | false =>
    rw [if_neg (by simp)]
    refine F _ _ _ ⟨⟨_,rfl⟩,g1.trans g2, ?_⟩;rw [EB,EI (by rw [ho];simp)];simp
 ·rintro ρ M1 acc ⟨⟨o0,rfl⟩,g1,rfl⟩ pr hpr;have gr:=g0.trans (g1.trans (Ge.new (o := .lst (((rws P R).filter fo).map rD)) hpr));have er:=aa (M:=M1) (a:=pr) (o := .lst (((rws P R).filter fo).map rD));generalize ag M1 pr _=M2 at gr er ⊢;clear g0 n0 Z g1 hpr;walk_at "st";refine oO (by lia) B Y fun p3 M3 g3 n3 e3=>⟨_,ae e3, ?_⟩
  have er:=g3 _ _ er;refine am (f:=rD) (ys:=rws P L) (I:=fun l ρ M' acc=>(∃ o0 j, ρ = [o0,j,some (.ref pr)])/\Ge M3 M'/\acc=(prL P R (l.filter fo)).map p2D) rfl ⟨⟨_,_,rfl⟩,Ge.refl,rfl⟩ (fun _ _ _ _ h=>ae (h.2.1 _ _ e3)) ?_ ?_
  ·rintro l w r ρ M4 acc e ⟨⟨o0,j,rfl⟩,G,rfl⟩;refine ⟨_,rfl,fun N F => ?_⟩;have BJ:=ai e;have BK:=cA L w (by rw [e];simp)
   have BL:=Es fo l;have BM:=fD B U;walk_at "wp";refine kj (by lia) (by lia) fun M5 z=>⟨_,rfl, ?_⟩
   cases ho:fo w with
   | true =>
     rw [if_pos rfl];have J:=(G.trans z) _ _ er;refine ⟨_,ae J, ?_⟩;refine am (f:=rD) (ys:=(rws P R).filter fo) (I:=fun l2 ρ M' acc=>(∃ j, ρ = [some (rD w),j,some (.ref pr)])/\M'=M5/\acc=(prL P R (l.filter fo)++l2.map fun r=>(w,r)).map p2D) rfl ⟨⟨_,rfl⟩,rfl,by simp⟩ (fun _ _ _ _ h=>by rw [h.2.1];exact ae J) ?_ ?_
     ·rintro l2 x r2 ρ M6 acc e2 ⟨⟨j,rfl⟩,rfl,rfl⟩;refine ⟨_,rfl,fun N2 BN => ?_⟩;have BQ:=ai e2;have hm:(l.filter fo).length*((rws P R).filter fo).length<=729*729:=EN (by lia) BM
      walk_at "wp";refine ⟨by rw [D1];lia,by rw [r4,z4,gj,r4,D1];lia,BN _ _ _ ⟨⟨_,rfl⟩,rfl,by simp⟩⟩
     ·rintro ρ M6 acc ⟨⟨j,rfl⟩,rfl,rfl⟩;refine F _ _ _ ⟨⟨_,_,rfl⟩,G.trans z, ?_⟩;rw [EB,EH ho];simp [prL,Fk]
   | false =>
     rw [if_neg (by simp)]
     refine F _ _ _ ⟨⟨_,_,rfl⟩,G.trans z, ?_⟩;rw [EB,EI (by rw [ho];simp)];simp
  ·rintro ρ M4 acc ⟨⟨o0,j,rfl⟩,G,rfl⟩ pn O;have z:=gr.trans (g3.trans G);exact q pn _ (z.trans (Ge.new O)) (be z O) aa
theorem tD {k:Nat} (hk : 2<=k) {P L R:Nat} (B:P<=3) (hL:L<=6) (hR:R<=6) {M:Mem} {Q:QD} (q:∀ p M',Ge M M'->M p=none->M' p=some (.lst ((prs P L R).map p2D))->Q (.ref p) M'):phi tab k 19 [.int L, .int R, .int P] M Q:=by
 refine au (by lia) rfl rfl (ρ := [some _,some _,some _,none,none]) rfl ?_
 unfold d19 L2.Mi.K41.b19;walk_at "st";refine ⟨by rw [D1];lia,fun pf j => ?_⟩
 have g1:=Ge.new (o := .lst []) j;have G:=aa (M:=M) (a:=pf) (o := .lst []);generalize ag M pf (.lst [])=M1 at g1 G ⊢;walk_at "st";refine nc (by lia) B hL fun p3 M3 g3 n3 e3=>⟨_,ae e3, ?_⟩
 have BK:=fD B hL;have J:=fD B hR;have O:p3≠pf:=fun z=>by rw [z,G] at n3;cases n3
 refine ax (f:=rD) (ys:=(rws P L).filter fo) (I:=fun l ρ M'=>(∃ U, ρ = [some (.int L),some (.int R),some (.int P),some (.ref pf),U])/\Ge M M'/\M' p3=some (.lst (((rws P L).filter fo).map rD))/\M' pf=some (.lst ((prL P R l).map p2D))) rfl ⟨⟨_,rfl⟩,g1.trans g3,e3,g3 _ _ G⟩ (fun _ _ _ h=>ae h.2.2.1) ?_ ?_
 ·rintro l w r ρ M4 e ⟨⟨U,rfl⟩,Y,e4,f4⟩;refine ⟨_,rfl,fun F hF => ?_⟩;have BL:=ai e;walk_at "st";refine ⟨⟨_,f4⟩, ?_⟩;refine nc (by lia) B hR fun p5 M5 Z n5 e5=>⟨_,ae e5, ?_⟩
  refine am (f:=rD) (ys:=(rws P R).filter fo) (I:=fun l2 ρ M' acc=>(∃ o0, ρ = [o0,some (rD w)])/\M'=M5/\acc=(l2.map fun r=>(w,r)).map p2D) rfl ⟨⟨_,rfl⟩,rfl,rfl⟩ (fun _ _ _ _ h=>by rw [h.2.1];exact ae e5) ?_ ?_
  ·rintro l2 x r2 ρ M6 acc e2 ⟨⟨o1,rfl⟩,rfl,rfl⟩;refine ⟨_,rfl,fun N2 BJ => ?_⟩;have BM:=ai e2;walk_at "wp";refine ⟨by rw [D1];lia,by rw [r4,r4,D1];lia,BJ _ _ _ ⟨⟨_,rfl⟩,rfl,by simp⟩⟩
  ·rintro ρ M6 acc ⟨⟨o1,rfl⟩,rfl,rfl⟩ pe hpe;have gp:=Ge.new (o := .lst ((((rws P R).filter fo).map fun r=>(w,r)).map p2D)) hpe;have hm:l.length*((rws P R).filter fo).length<=729*729:=EN (by lia) J
   refine ⟨pf,pe,_,_,rfl,rfl,gp _ _ (Z _ _ f4),aa,by rw [r4,r4,r4,gj,D1];lia, ?_⟩
   refine hF _ _ ⟨⟨_,rfl⟩,(Y.trans (Z.trans gp)).upd j,by rw [aq O];exact gp _ _ (Z _ _ e4), ?_⟩
   rw [aa];simp [prL,Fk]
 ·rintro ρ M4 ⟨⟨U,rfl⟩,Y,e4,f4⟩;dsimp only;walk_at "st";exact q pf M4 Y j f4
noncomputable def tst (P R:Nat) (tabs:List (List Int)) (t:Tm):List (List Int):=tabs.set t.1.1.toNat (((tabs[t.1.1.toNat]?).getD []).set (t.1.2.1*R+t.1.2.2).toNat (t.2 % P))
noncomputable def tbs (P n R many:Nat) (ts:List Tm):List (List Int):=ts.foldl (tst P R) (DU many (DU n 0))
theorem nh {P n R many:Nat} {ts:List Tm} {t:Tm}:tbs P n R many (ts++[t])=tst P R (tbs P n R many ts) t:=by unfold tbs;rw [Ik];rfl
structure TI' (L R many:Nat) (t:Tm):Prop where
 k : 0<=t.1.1/\t.1.1 < many
 i : 0<=t.1.2.1/\t.1.2.1 < L
 j : 0<=t.1.2.2/\t.1.2.2 < R
theorem Ah {P L R many:Nat} (F : 0 < P) {tabs:List (List Int)} {t:Tm} (z:TI' L R many t) (B:tabs.length=many) (j:∀ v∈tabs,Vr P (L*R) v):(tst P R tabs t).length=many /\ ∀ v∈tst P R tabs t,Vr P (L*R) v:=by
 refine ⟨by unfold tst;rw [IQ];exact B,fun v hm => ?_⟩
 unfold tst at hm
 rcases Jo hm with h | h
 ·exact j v h
 ·have q:t.1.1.toNat < tabs.length:=by have:=z.k;lia
  rw [D0 q,Mn] at h;have h0:=j _ (GW q);rw [h];refine ⟨by rw [IQ];exact h0.len,fun x hx => ?_⟩
  rcases Jo hx with hx | hx
  ·exact h0.inn x hx
  ·rw [hx];exact ⟨Gh _ (by lia),FC _ (by lia)⟩
theorem ee {P L R many:Nat} (q : 0 < P) {ts:List Tm} (j:∀ t∈ts,TI' L R many t):(tbs P (L*R) R many ts).length=many /\ ∀ v∈tbs P (L*R) R many ts,Vr P (L*R) v:=by
 have:∀ (ts:List Tm) (tabs:List (List Int)),(∀ t∈ts,TI' L R many t)->tabs.length=many->(∀ v∈tabs,Vr P (L*R) v)->(ts.foldl (tst P R) tabs).length=many /\ ∀ v∈ts.foldl (tst P R) tabs,Vr P (L*R) v:=by
  intro ts
  induction ts with
  | nil=>intro tabs _ h1 h2;exact ⟨h1,h2⟩
  | cons t ts ih =>
    intro tabs j h1 h2;obtain ⟨a,b⟩:=Ah q (j t Ef) h1 h2;exact ih _ (fun x hx=>j x (E7 _ hx)) a b
 exact this ts _ j (by simp) fun v z=>by rw [JE z];exact gc q
theorem Bb {L i:Nat} (h:i < L):ixN L (i:Nat)=some i:=by
 unfold ixN;rw [if_pos (by lia),if_pos (by lia),Ed]
theorem Ai {l:List Addr} (h:l.Nodup) {i j:Nat} (hi:i < l.length) (q:j < l.length) (e:l[i]=l[j]):i=j:=by
 have z:=Jm.mp (FK.mp h)
 rcases Nat.lt_trichotomy i j with k | k | k
 ·exact absurd e (z i j hi q k)
 ·exact k
 ·exact absurd e.symm (z j i q hi k)
structure TS (qs:List Addr) (tabs:List (List Int)) (M:Mem):Prop where
 len:qs.length=tabs.length
 nd:qs.Nodup
 at':∀ (k:Nat) q v,qs[k]? = some q->tabs[k]? = some v->M q=some (.lst (v.map .int))
theorem TS.put {qs:List Addr} {tabs:List (List Int)} {M:Mem} (h:TS qs tabs M) {k:Nat} {q:Addr} {v w:List Int} (G:qs[k]? = some q) (J:tabs[k]? = some v):TS qs (tabs.set k w) (ag M q (.lst (w.map .int))) where
 len:=by rw [IQ];exact h.len
 nd:=h.nd
 at':=fun k' q' v' j B=>by
  by_cases e:k'=k
  ·subst e;rw [G] at j;cases j;rw [Gm ((DZ.mp J).1)] at B
   cases B
   exact aa
  ·rw [Hv (fun z=>e z.symm)] at B;have F:q'≠q:=fun z=>by
    subst z;obtain ⟨h1,L⟩:=DZ.mp G;obtain ⟨h2,O⟩:=DZ.mp j;exact e (Ai h.nd h2 h1 (O.trans L.symm))
   rw [aq F];exact h.at' k' q' v' j B
theorem oP {qs:List Addr} {tabs:List (List Int)} (L:tabs.length<=1000) (G:∀ v∈tabs,v.length<=1000) {M:Mem} (h:TS qs tabs M) {N:NC} {chk:Mem->Prop} (J:chk M) {o0:Option D} (q:∀ ρ,N ρ M (tabs.map rD)) :
 bm (br 0) (bZ (wAr ir (aW (bo 0) bU))) chk N (qs.map .ref) [o0] M []:=by
 refine am (f:=D.ref) (ys:=qs) (I:=fun l ρ M' acc=>(∃ o0, ρ = [o0])/\M'=M/\acc=(tabs.take l.length).map rD) rfl ⟨⟨_,rfl⟩,rfl,rfl⟩ (fun _ _ _ _ h=>by rw [h.2.1];exact J) ?_ ?_
 ·rintro l x r ρ M1 acc e ⟨⟨o0,rfl⟩,rfl,rfl⟩;refine ⟨_,rfl,fun N' z => ?_⟩;have B:=ai e;have hx:qs[l.length]? = some x:=by rw [e];simp
  have j:l.length < tabs.length:=by rw [<- h.len];exact B
  have F:tabs[l.length]? = some tabs[l.length]:=D0 j;have ex:=h.at' _ _ _ hx F;have O:=h.len;walk_at "wp";refine ⟨_,_,rfl,ae ex,by rw [r4,Eu,D1];lia,z _ _ _ ⟨⟨_,rfl⟩,rfl, ?_⟩⟩
  rw [z4,EV,Jw,F,F7];rfl
 ·rintro ρ M1 acc ⟨⟨o0,rfl⟩,rfl,rfl⟩;rw [He (by rw [h.len];exact E3 _)]
  exact q _
theorem yp {L R:Nat} {i j:Int} (hi : 0<=i/\i < L) (q : 0<=j/\j < R) : 0<=i*R+j/\i*R+j < ((L*R:Nat):Int):=by
 have h1:=Int.mul_nonneg hi.1 (show (0:Int)<=R by lia)
 have h2:=Int.mul_le_mul_of_nonneg_right (show i<=L - 1 by lia) (show (0:Int)<=R by lia)
 rw [Int.sub_mul] at h2
 push_cast
 lia
theorem Aj {P L R many:Nat} {t:Tm} (ht:TI' L R many t) {tabs:List (List Int)} (h1:tabs.length=many) (h2:∀ v∈tabs,Vr P (L*R) v) {qs:List Addr} {M:Mem} (U:TS qs tabs M) :
 ∃ (q:Addr) (v:List Int) (z:Nat),atI (qs.map D.ref) t.1.1=some (.ref q)/\q∈qs/\M q=some (.lst (v.map .int))/\ixN (v.map D.int).length (t.1.2.1*R+t.1.2.2)=some z/\TS qs (tst P R tabs t) (ag M q (.lst ((v.map D.int).set z (.int (t.2 % P))))):=by
 obtain ⟨Y,Z,BJ⟩:=ht;have hlen:=U.len;obtain ⟨k,F⟩:=Gb Y.1;have G:k < qs.length:=by lia
 have J:k < tabs.length:=by lia
 have j:=D0 G;have B:=D0 J;have ea:=U.at' k _ _ j B;have BK:=(h2 _ (GW J)).len;have O:=yp Z BJ;obtain ⟨z,hz⟩:=Gb O.1;have BL:z < (tabs[k]).length:=by rw [BK];lia
 refine ⟨qs[k],tabs[k],z,by rw [F];exact cg (by rw [Eo,j];rfl),GW G,ea, ?_, ?_⟩
 ·rw [hz];exact Bb (by rw [r4];exact BL)
 ·have:=U.put (w:=(tabs[k]).set z (t.2 % P)) j B;unfold tst;rw [F,hz,Ed,Ed,B,Mn, <- show ((tabs[k]).set z (t.2 % P)).map D.int=_ from List.map_set];exact this
theorem tE {k:Nat} (Y : 1<=k) {P L R many:Nat} (hP : 0 < P/\P<=3) (hL:L<=6) (hR:R<=6) (hm:many<=10) {ts:List Tm} (ht:∀ t∈ts,TI' L R many t) {p:Addr} {M:Mem} {Q:QD} (hp:M p=some (.lst (ts.map tmD)))
 (q:∀ pt M',Ge M M'->M pt=none->M' pt=some (.lst ((tbs P (L*R) R many ts).map rD))->Q (.ref pt) M'):phi tab k 3 [.tup [.int L, .int R, .int many, .ref p], .int P] M Q:=by
 have hn:L*R<=6*6:=EN hL hR;refine au (by lia) rfl rfl (ρ := [some _,some _,none,none,none,none,none,none,none,none,none]) rfl ?_
 unfold d3 L2.Mi.K41.b3;walk_at "st";walk_at "st";refine ⟨by lia,by lia, ?_⟩
 rw [Ed];refine am (f:=fun i=>D.int (i:Nat)) (ys:=Ei many) (I:=fun l ρ M' acc=>(∃ o0, ρ = [o0,some (.int L),some (.int R)])/\Ge M M' /\ ∃ qs:List Addr,acc=qs.map .ref/\TS qs (DU l.length (DU (L*R) 0)) M' /\ ∀ q∈qs,M q=none) aG ⟨⟨_,rfl⟩,Ge.refl,[],rfl,⟨rfl,by simp,fun k q v h=>by simp at h⟩,by simp⟩ (fun _ _ _ _ _=>trivial) ?_ ?_
 ·rintro l x r ρ Z acc e ⟨⟨o0,rfl⟩,g1,qs,rfl,j,hq⟩;refine ⟨_,rfl,fun N hN => ?_⟩;have BN:=ai e;rw [Ej] at BN;have BJ:=j.len;rw [Hq] at BJ;walk_at "wp";refine ⟨by rw [D1];lia,fun p0 BO=>⟨dA (by lia), ?_⟩⟩
  rw [<- HN];refine ⟨_,aa,by lia,by lia,by rw [D1];simp;lia,fun p1 BK => ?_⟩
  rw [Ed,jo];have BL:=Ge.new (o := .lst [.int 0]) BO;have g2:=BL.trans (Ge.new (o := .lst ((DU (L*R) (0:Int)).map D.int)) BK);have e2:=aa (M:=ag Z p0 (.lst [.int 0])) (a:=p1) (o := .lst ((DU (L*R) (0:Int)).map D.int));generalize ag (ag Z p0 (.lst [.int 0])) p1 _=M2 at g2 e2 ⊢;have n1:=be BL BK;refine ⟨by rw [r4,D1];lia,hN _ _ _ ⟨⟨_,rfl⟩,g1.trans g2,qs++[p1],by simp,⟨by simp [BJ], ?_, ?_⟩, ?_⟩⟩
  ·rw [Hu];refine ⟨j.nd,by simp,fun a G b hb => ?_⟩
   rw [Fj.mp hb];intro z;obtain ⟨k,Y⟩:=GI G;have J:k < l.length:=by have:=(DZ.mp Y).1;lia
   have:=j.at' k a (DU (L*R) 0) Y (by rw [EY,if_pos J])
   rw [z,n1] at this;cases this
  ·intro k q v h1 h2;rw [EY] at h2
   split at h2
   ·cases h2
    by_cases hkl:k < qs.length
    ·rw [E5 hkl] at h1;exact g2 _ _ (j.at' k q _ h1 (by rw [EY,if_pos (by lia)]))
    ·rw [D2 (by lia)] at h1
     have:k - qs.length=0:=by have:=(DZ.mp h1).1;simp at this;lia
     rw [this] at h1;cases h1;exact e2
   ·cases h2
  ·intro a G
   rcases Ea.mp G with G | G
   ·exact hq a G
   ·rw [Fj.mp G];exact be g1 n1
 ·rintro ρ Z acc ⟨⟨o0,rfl⟩,g1,qs,rfl,j,hq⟩ pt hpt;rw [Ej] at j;have BP:pt∉qs:=fun h=>by
   obtain ⟨k,Y⟩:=GI h;have J:k < (DU many (DU (L*R) (0:Int))).length:=by rw [<- j.len];exact (DZ.mp Y).1
   have:=j.at' k pt _ Y (D0 J);rw [hpt] at this;cases this
  have gt:=Ge.new (o := .lst (qs.map D.ref)) hpt;have et:=aa (M:=Z) (a:=pt) (o := .lst (qs.map D.ref));have j:TS qs (tbs P (L*R) R many []) (ag Z pt (.lst (qs.map D.ref))):=⟨j.len,j.nd,fun k q v h1 h2=>gt _ _ (j.at' k q v h1 h2)⟩;have g2:=g1.trans gt;have BV:=be g1 hpt;generalize ag Z pt _=M2 at g2 et j ⊢;walk_at "st";refine ⟨_,ae (g2 _ _ hp), ?_⟩;refine ax (f:=tmD) (ys:=ts) (I:=fun l ρ M'=>(∃ o7 o8 o9 O, ρ = [some _,some (.int P),some (.int L),some (.int R),some (.int many),some (.ref p),some (.ref pt),o7,o8,o9,O])/\Ge M M'/\M' pt=some (.lst (qs.map .ref))/\TS qs (tbs P (L*R) R many l) M') rfl ⟨⟨_,_,_,_,rfl⟩,g2,et,j⟩ (fun _ _ _ h=>ae (h.2.1 _ _ hp)) ?_ ?_
  ·rintro l t r ρ M3 e ⟨⟨o7,o8,o9,O,rfl⟩,g3,B,U⟩;refine ⟨_,rfl,fun F hF => ?_⟩;obtain ⟨BQ,BR,BS⟩:=ht t (by rw [e];simp)
   walk_at "st";obtain ⟨h1,h2⟩:=ee hP.1 (ts:=l) (fun t BU=>ht t (by rw [e];simp [BU]))
   obtain ⟨a,v,z,c1,c2,c3,c4,c5⟩:=Aj (P:=P) ⟨BQ,BR,BS⟩ h1 h2 U;refine ⟨by lia,aT B c1 ⟨dA (by lia),bp c3 c4 (hF _ _ ⟨⟨_,_,_,_,rfl⟩,g3.upd (hq a c2), ?_,by rw [nh];exact c5⟩)⟩⟩
   rw [aq fun z=>BP (by rw [z];exact c2)];exact B
  ·rintro ρ M3 ⟨⟨o7,o8,o9,O,rfl⟩,g3,B,U⟩;dsimp only;walk_at "st";have hb:=ee hP.1 ht;refine ⟨_,ae B,oP (by lia) (fun v hv=>by rw [(hb.2 v hv).len];lia) U (ae B) fun ρ pn BM=>q pn _ (g3.trans (Ge.new BM)) (be g3 BM) aa⟩
theorem qp {k:Nat} (Y : 1<=k) {P L R many:Nat} (hP : 0 < P/\P<=3) (hL:L<=6) (hR:R<=6) (hm:many<=10) {ts:List Tm} (ht:∀ t∈ts,TI' L R many t) {p:Addr} {M:Mem} {Q:QD} (hp:M p=some (.lst (ts.map tmD)))
 (q:∀ pt M',Ge M M'->M pt=none->M' pt=some (.lst ((tbs P (L*R) R many ts).map rD))->Q (.ref pt) M'):phi tab k 21 [.tup [.int L, .int R, .int many, .ref p], .int P] M Q:=by
 have hn:L*R<=6*6:=EN hL hR;refine au (by lia) rfl rfl (ρ := [some _,some _,none,none,none,none,none]) rfl ?_
 unfold d21 L2.Mi.K41.b21;walk_at "st";refine ⟨_,rfl,_,rfl,by lia,by lia, ?_⟩
 rw [Ed];refine am (f:=fun i=>D.int (i:Nat)) (ys:=Ei many) (I:=fun l ρ M' acc=>(∃ o0, ρ = [o0,some (.tup [.int L, .int R, .int many, .ref p])])/\Ge M M' /\ ∃ qs:List Addr,acc=qs.map .ref/\TS qs (DU l.length (DU (L*R) 0)) M' /\ ∀ q∈qs,M q=none) aG ⟨⟨_,rfl⟩,Ge.refl,[],rfl,⟨rfl,by simp,fun k q v h=>by simp at h⟩,by simp⟩ (fun _ _ _ _ _=>trivial) ?_ ?_
 ·rintro l x r ρ Z acc e ⟨⟨o0,rfl⟩,g1,qs,rfl,j,hq⟩;refine ⟨_,rfl,fun N hN => ?_⟩;have BN:=ai e;rw [Ej] at BN;have BJ:=j.len;rw [Hq] at BJ;walk_at "wp";refine ⟨by rw [D1];lia,fun p0 BO=>⟨_,rfl,_,rfl, ?_⟩⟩
  walk_at "wp";refine ⟨dA (by lia), ?_⟩
  rw [<- HN];refine ⟨_,aa,by lia,by lia,by rw [D1];simp;lia,fun p1 BK => ?_⟩
  rw [Ed,jo];have BL:=Ge.new (o := .lst [.int 0]) BO;have g2:=BL.trans (Ge.new (o := .lst ((DU (L*R) (0:Int)).map D.int)) BK);have e2:=aa (M:=ag Z p0 (.lst [.int 0])) (a:=p1) (o := .lst ((DU (L*R) (0:Int)).map D.int));generalize ag (ag Z p0 (.lst [.int 0])) p1 _=M2 at g2 e2 ⊢;have n1:=be BL BK;refine ⟨by rw [r4,D1];lia,hN _ _ _ ⟨⟨_,rfl⟩,g1.trans g2,qs++[p1],by simp,⟨by simp [BJ], ?_, ?_⟩, ?_⟩⟩
  ·rw [Hu];refine ⟨j.nd,by simp,fun a G b hb => ?_⟩
   rw [Fj.mp hb];intro z;obtain ⟨k,Y⟩:=GI G;have J:k < l.length:=by have:=(DZ.mp Y).1;lia
   have:=j.at' k a (DU (L*R) 0) Y (by rw [EY,if_pos J])
   rw [z,n1] at this;cases this
  ·intro k q v h1 h2;rw [EY] at h2
   split at h2
   ·cases h2
    by_cases hkl:k < qs.length
    ·rw [E5 hkl] at h1;exact g2 _ _ (j.at' k q _ h1 (by rw [EY,if_pos (by lia)]))
    ·rw [D2 (by lia)] at h1
     have:k - qs.length=0:=by have:=(DZ.mp h1).1;simp at this;lia
     rw [this] at h1;cases h1;exact e2
   ·cases h2
  ·intro a G
   rcases Ea.mp G with G | G
   ·exact hq a G
   ·rw [Fj.mp G];exact be g1 n1
 ·rintro ρ Z acc ⟨⟨o0,rfl⟩,g1,qs,rfl,j,hq⟩ pt hpt;rw [Ej] at j;have BP:pt∉qs:=fun h=>by
   obtain ⟨k,Y⟩:=GI h;have J:k < (DU many (DU (L*R) (0:Int))).length:=by rw [<- j.len];exact (DZ.mp Y).1
   have:=j.at' k pt _ Y (D0 J);rw [hpt] at this;cases this
  have gt:=Ge.new (o := .lst (qs.map D.ref)) hpt;have et:=aa (M:=Z) (a:=pt) (o := .lst (qs.map D.ref));have j:TS qs (tbs P (L*R) R many []) (ag Z pt (.lst (qs.map D.ref))):=⟨j.len,j.nd,fun k q v h1 h2=>gt _ _ (j.at' k q v h1 h2)⟩;have g2:=g1.trans gt;have BV:=be g1 hpt;generalize ag Z pt _=M2 at g2 et j ⊢;walk_at "st";refine ⟨_,rfl,_,ae (g2 _ _ hp), ?_⟩;refine ax (f:=tmD) (ys:=ts) (I:=fun l ρ M'=>(∃ o7 o8 o9 O, ρ = [some (.tup [.int L, .int R, .int many, .ref p]),some (.int P),some (.ref pt),o7,o8,o9,O])/\Ge M M'/\M' pt=some (.lst (qs.map .ref))/\TS qs (tbs P (L*R) R many l) M') rfl ⟨⟨_,_,_,_,rfl⟩,g2,et,j⟩ (fun _ _ _ h=>ae (h.2.1 _ _ hp)) ?_ ?_
  ·rintro l t r ρ M3 e ⟨⟨o7,o8,o9,O,rfl⟩,g3,B,U⟩;refine ⟨_,rfl,fun F hF => ?_⟩;obtain ⟨BQ,BR,BS⟩:=ht t (by rw [e];simp)
   walk_at "st";obtain ⟨h1,h2⟩:=ee hP.1 (ts:=l) (fun t BU=>ht t (by rw [e];simp [BU]))
   obtain ⟨a,v,z,c1,c2,c3,c4,c5⟩:=Aj (P:=P) ⟨BQ,BR,BS⟩ h1 h2 U;refine ⟨by lia,aT B c1 ⟨_,rfl, ?_⟩⟩
   walk_at "wp";refine ⟨dA (by lia),bp c3 c4 (hF _ _ ⟨⟨_,_,_,_,rfl⟩,g3.upd (hq a c2), ?_,by rw [nh];exact c5⟩)⟩
   rw [aq fun z=>BP (by rw [z];exact c2)];exact B
  ·rintro ρ M3 ⟨⟨o7,o8,o9,O,rfl⟩,g3,B,U⟩;dsimp only;walk_at "st";have hb:=ee hP.1 ht;refine ⟨_,ae B,oP (by lia) (fun v hv=>by rw [(hb.2 v hv).len];lia) U (ae B) fun ρ pn BM=>q pn _ (g3.trans (Ge.new BM)) (be g3 BM) aa⟩
theorem kl (a b:List Int):Hc eG (a.map .int) (b.map .int)=(a.zip b).map fun xy => .tup [.int xy.1, .int xy.2]:=by
 rw [List.zipWith_map,KY,Mo];rfl
theorem tF {p t:Int} {u v:List Int}:cb p t u v=(u.zip v).map fun xy=>(xy.1+t*xy.2) % p:=by
 unfold cb;rw [KY,Mo]
theorem ni {P:Nat} {e:Nat×List Int}:∀ {bs:List (Nat×List Int)} {r:List Int},wo P (bs++[e]) r=cb P (-(gf (wo P bs r) e.1)) (wo P bs r) e.2
 | [],r=>rfl
 | b::bs,r=>ni (bs:=bs)
theorem BG {P n:Nat} (z : 0 < P) {u v:List Int} (j:Vr P n u) (q:Vr P n v):cb P 0 u v=u:=by
 refine (cW (by lia) j.len q.len).ext j fun x hx => ?_
 have:=cI (p:=P) (t := 0) j.len q.len hx;rw [<- KH] at this
 rwa [show -(gf u x+0*gf v x - gf (cb P 0 u v) x)=gf (cb P 0 u v) x - gf u x by lia] at this
noncomputable abbrev eD (e:Nat×List Int):D := .tup [.int e.1,rD e.2]
theorem Ak {P:Nat} (L : 0 < P) {c:Int} {u v:List Int} (O:u.length<=1000) {M:Mem} {N:NC} {chk:Mem->Prop} (F:chk M) (G:∀ x∈v,0<=x/\x < 3) (q:∀ ρ,N ρ M ((cb P (-c) u v).map .int)) :
 bm (jg (bB (br 0) (bB (br 1) eF))) (bZ (wOp gG (wOp kR (bo 0) (wOp eB (bo 2) (bo 1))) (bo 3))) chk N (Hc eG (u.map .int) (v.map .int)) [none,none,some (.int c),some (.int P)] M []:=by
 refine am (I:=fun l' ρ M' acc=>(∃ z B, ρ = [z,B,some (.int c),some (.int P)])/\M'=M/\acc=(l'.map fun xy=>(xy.1 + -c*xy.2) % P).map .int) (ys:=u.zip v) (f:=fun xy => .tup [.int xy.1, .int xy.2]) (kl _ _) ⟨⟨_,_,rfl⟩,rfl,rfl⟩ (fun _ _ _ _ h=>by rw [h.2.1];exact F) ?_ ?_
 ·rintro l' xy r' ρ M5 acc e' ⟨⟨z,B,rfl⟩,rfl,rfl⟩;refine ⟨_,rfl,fun N J => ?_⟩;walk_at "wp";have j:=ai e';rw [MR] at j;have hs:xy.2∈v:=by
   have:xy∈u.zip v:=by rw [e'];simp
   exact (HM this).2
  have hs:=G _ hs;refine ⟨cL (by lia),by lia,by simp [D1];lia,J _ _ _ ⟨⟨_,_,rfl⟩,rfl, ?_⟩⟩
  rw [F7,F7];simp only [Ew,HB];rw [show xy.1 + -c*xy.2=xy.1 - c*xy.2 by rw [Int.neg_mul];lia]
 ·rintro ρ M5 acc ⟨_,rfl,rfl⟩;have:=q ρ
  rwa [tF] at this
theorem Al {P:Nat} (L : 0 < P) {c:Int} {u v:List Int} (O:u.length<=1000) {M:Mem} {N:NC} {chk:Mem->Prop} (F:chk M) (G:∀ x∈v,0<=x/\x < 3) (q:∀ ρ,N ρ M ((cb P c u v).map .int)) :
 bm (jg (bB (br 0) (bB (br 1) eF))) (bZ (wOp gG (wOp eY (bo 0) (wOp eB (bo 2) (bo 1))) (bo 3))) chk N (Hc eG (u.map .int) (v.map .int)) [none,none,some (.int c),some (.int P)] M []:=by
 refine am (I:=fun l' ρ M' acc=>(∃ z B, ρ = [z,B,some (.int c),some (.int P)])/\M'=M/\acc=(l'.map fun xy=>(xy.1+c*xy.2) % P).map .int) (ys:=u.zip v) (f:=fun xy => .tup [.int xy.1, .int xy.2]) (kl _ _) ⟨⟨_,_,rfl⟩,rfl,rfl⟩ (fun _ _ _ _ h=>by rw [h.2.1];exact F) ?_ ?_
 ·rintro l' xy r' ρ M5 acc e' ⟨⟨z,B,rfl⟩,rfl,rfl⟩;refine ⟨_,rfl,fun N J => ?_⟩;walk_at "wp";have j:=ai e';rw [MR] at j;have hs:xy.2∈v:=by
   have:xy∈u.zip v:=by rw [e'];simp
   exact (HM this).2
  have hs:=G _ hs;exact ⟨cL (by lia),by lia,by simp [D1];lia,J _ _ _ ⟨⟨_,_,rfl⟩,rfl,by simp⟩⟩
 ·rintro ρ M5 acc ⟨_,rfl,rfl⟩;have:=q ρ
  rwa [tF] at this
theorem qq {k:Nat} (hk : 1<=k) {P n:Nat} (U : 0 < P/\P<=3) (hn:n<=100) {base:List (Nat×List Int)} (Y:∀ e∈base,Vr P n e.2) (hp:∀ e∈base,e.1 < n) {v:List Int} (hv:Vr P n v) {a:Addr} {M:Mem} (ea:M a=some (.lst (base.map eD))) {Q:QD} (q:∀ M',Ge M M'->Q (rD (wo P base v)) M'):phi tab k 4 [rD v, .ref a, .int P] M Q:=by
 refine au (by lia) rfl rfl (ρ := [some _,some _,some _,none,none,none]) rfl ?_
 unfold d4 L2.Mi.K41.b4;walk_at "st";refine ⟨_,ae ea, ?_⟩;refine ax (f:=eD) (ys:=base) (I:=fun l ρ M'=>(∃ B G J, ρ = [some (rD (wo P l v)),some (.ref a),some (.int P),B,G,J])/\Ge M M') rfl ⟨⟨_,_,_,rfl⟩,Ge.refl⟩ (fun _ _ _ h=>ae (h.2 _ _ ea)) ?_ ?_
 ·rintro l e r ρ M1 es ⟨⟨B,G,J,rfl⟩,g1⟩;refine ⟨_,rfl,fun F Z => ?_⟩;have z:Vr P n (wo P l v):=j6 U.1 (fun x hx=>Y x (by rw [es];simp [hx])) hv
  have he:=Y e (by rw [es];simp)
  have j:=hp e (by rw [es];simp)
  have BJ:=z.at j;walk_at "st";refine ⟨_,cg (by rw [Eo,cq (by rw [z.len];exact j)];rfl), ?_⟩
  walk_at "st"
  by_cases L:gf (wo P l v) e.1=0
  ·rw [L];simp;refine Z _ _ ⟨?_,g1⟩;rw [ni,L,Int.neg_zero,BG U.1 z he];exact ⟨_,_,_,rfl⟩
  ·rw [if_pos (by simpa using L)]
   walk_at "st";refine Ak (by lia) (by have:=z.len;lia) trivial (c:=gf (wo P l v) e.1) (fun x hx=>by have:=he.inn x hx;lia) fun ρ p O=>⟨_,_,rfl,ae aa,Z _ _ ⟨?_,g1.trans (Ge.new O)⟩⟩
   rw [ni];exact ⟨_,_,_,rfl⟩
 ·rintro ρ M1 ⟨⟨B,G,J,rfl⟩,g1⟩;dsimp only;walk_at "st";exact q _ g1
theorem vI (ns:List Int):eI (ns.map .int)=ns.zipIdx.map fun p => .tup [.int (p.2:Nat), .int p.1]:=by
 unfold eI;apply GG;intro i;rw [IH,Eo,Eo,List.getElem?_zipIdx]
 cases ns[i]? <;> simp
theorem nj:∀ ns:List Int,aC jh (ns.map .int)=some (ns.map fun x=>x != 0)
 | [] => rfl
 | x::r=>by rw [Ew,aC,nj r];rfl
theorem tG {P n:Nat} {v:List Int} (j:Vr P n v):(v.map fun x=>x != 0).any id=false↔v=DU n 0:=by
 constructor
 ·intro h;rw [Lu] at h;rw [Kh];refine ⟨j.len,fun x hx => ?_⟩;have:=h (x != 0) (Ey hx);simpa using this
 ·rintro rfl;simp
theorem vJ {k:Nat} (Y : 1<=k) {P n:Nat} (Z:n<=100) {v:List Int} (z:Vr P n v) (O:v≠DU n 0) {M:Mem} {Q:QD} (q:∀ (pl:Nat) M',pl < n->gf v pl≠0->Ge M M'->Q (.int pl) M'):phi tab k 5 [rD v] M Q:=by
 refine au (by lia) rfl rfl (ρ := [some _]) rfl ?_
 unfold d5 L2.Mi.K41.b5;walk_at "st";rw [vI];refine am (I:=fun l ρ M' acc=>(∃ F G, ρ = [F,G])/\M'=M/\acc=(l.filter fun p=>p.1 != 0).map fun x => .int (x.2:Nat)) (ys:=v.zipIdx) (f:=fun p => .tup [.int (p.2:Nat), .int p.1]) rfl ⟨⟨_,_,rfl⟩,rfl,rfl⟩ (fun _ _ _ _ _=>trivial) ?_ ?_
 ·rintro l x r ρ M1 acc e ⟨⟨F,G,rfl⟩,rfl,rfl⟩;have B:=ai e;rw [List.length_zipIdx,z.len] at B;refine ⟨_,rfl,fun N J => ?_⟩;walk_at "wp";have U:=Es (fun p:Int×Nat=>p.1 != 0) l
  split
  ·next hx =>
   exact ⟨by rw [r4,D1];lia,J _ _ _ ⟨⟨_,_,rfl⟩,rfl,by rw [EB,F7,EH (p:=fun p:Int×Nat=>p.1 != 0) (a:=x) hx];rfl⟩⟩
  ·next hx=>exact J _ _ _ ⟨⟨_,_,rfl⟩,rfl,by rw [EB,EI (p:=fun p:Int×Nat=>p.1 != 0) (a:=x) hx];simp⟩
 ·rintro ρ M1 acc ⟨_,rfl,rfl⟩ p hp
  cases hf:v.zipIdx.filter (fun p=>p.1 != 0) with
  | nil =>
    exfalso
    apply O;rw [Kh];refine ⟨z.len,fun x hx => ?_⟩;obtain ⟨i,hi⟩:=GI hx;have hm:(x,i)∈v.zipIdx:=Hm.mpr hi;have:=List.filter_eq_nil_iff.mp hf _ hm;simpa using this
  | cons x r =>
    have hm:x∈v.zipIdx.filter (fun p=>p.1 != 0):=by rw [hf];exact Ef
    obtain ⟨hm,hx⟩:=Gz.mp hm;have hi:=Hm.mp hm;have L:x.2 < v.length:=(DZ.mp hi).1;have j:=cq L;rw [hi] at j;have j:=FO.inj j;refine aT aa (d := .int x.2) (cg (k := 0) rfl) (q _ _ (by rw [<- z.len];exact L) (by rw [<- j];simpa using hx) (Ge.new hp))
noncomputable def ch (P n:Nat) (ts:List (List Int)):List (Nat->Int):=ts.foldl (fun A t => @ite _ (Sp P n A (gf t)) (JO _) A (A++[gf t])) []
theorem wp {P n:Nat} {ts:List (List Int)} {t:List Int} (h:Sp P n (ch P n ts) (gf t)):ch P n (ts++[t])=ch P n ts:=by
 unfold ch at h ⊢;rw [Ik,Gc,List.foldl_nil,if_pos h]
theorem tH {P n:Nat} {ts:List (List Int)} {t:List Int} (h : ¬ Sp P n (ch P n ts) (gf t)):ch P n (ts++[t])=ch P n ts++[gf t]:=by
 unfold ch at h ⊢;rw [Ik,Gc,List.foldl_nil,if_neg h]
theorem Am {P n pl:Nat} (L : 0 < P) {w:List Int} (O:w.length<=100) (j:pl < n) (hw:Vr P n w) (B:P<=3) {M:Mem} {N:NC} {chk:Mem->Prop} (F:chk M) (q:∀ ρ,N ρ M ((w.map fun x=>(gf w pl*x) % P).map .int)) :
 bm (br 0) (bZ (wOp gG (wOp eB (wOp wIx (bo 1) (bo 2)) (bo 0)) (bo 3))) chk N (w.map .int) [none,some (rD w),some (.int pl),some (.int P)] M []:=by
 refine am (f:=D.int) (ys:=w) (I:=fun l ρ M' acc=>(∃ o0, ρ = [o0,some (rD w),some (.int pl),some (.int P)])/\M'=M/\acc=(l.map fun x=>(gf w pl*x) % P).map .int) rfl ⟨⟨_,rfl⟩,rfl,rfl⟩ (fun _ _ _ _ h=>by rw [h.2.1];exact F) ?_ ?_
 ·rintro l x r ρ M1 acc e ⟨⟨o0,rfl⟩,rfl,rfl⟩;refine ⟨_,rfl,fun N' z => ?_⟩;have G:=ai e;have J:=hw.at j;walk_at "wp";refine ⟨_,cg (by rw [Eo,cq (by rw [hw.len];exact j)];rfl), ?_⟩
  walk_at "wp";refine ⟨dA (by lia),by lia,by simp [D1];lia,z _ _ _ ⟨⟨_,rfl⟩,rfl,by simp⟩⟩
 ·rintro ρ M1 acc ⟨⟨o0,rfl⟩,rfl,rfl⟩;exact q _
theorem vK {k:Nat} (hk : 2<=k) {P n:Nat} (hP:P=2∨P=3) (hn:n<=100) {ts:List (List Int)} (hl:ts.length<=100) (ht:∀ t∈ts,Vr P n t) {a b:Addr} {M:Mem} (ea:M a=some (.lst [])) (eb:M b=some (.lst (ts.map rD))) {Q:QD} (q:∀ c (base:List (Nat×List Int)) M',base.length=(ch P n ts).length->M' c=some (.lst (base.map eD))->Ge M M'->Q (.ref c) M'):phi tab k 6 [.ref a, .ref b, .int P] M Q:=by
 have j : 0 < P:=by lia
 refine au (by lia) rfl rfl (ρ := [some _,some _,some _,none,none,none,none]) rfl ?_
 unfold d6 L2.Mi.K41.b6;walk_at "st";refine ⟨_,_,rfl,ae ea,fun c hc => ?_⟩;have g1:=Ge.new (o := .lst []) hc;have e1:=aa (M:=M) (a:=c) (o := .lst []);generalize ag M c (.lst [])=M1 at g1 e1 ⊢;walk_at "st";refine ⟨_,ae (g1 _ _ eb), ?_⟩;refine ax (f:=rD) (ys:=ts) (I:=fun l ρ M'=>(∃ U Y Z, ρ = [some (.ref a),some (.ref b),some (.int P),some (.ref c),U,Y,Z])/\Ge M M' /\ ∃ base:List (Nat×List Int),M' c=some (.lst (base.map eD))/\Bs P n (ch P n l) base/\base.length<=l.length) rfl ⟨⟨_,_,_,rfl⟩,g1,[],e1,Bs.init,E3 _⟩ (fun _ _ _ h=>ae (h.2.1 _ _ eb)) ?_ ?_
 ·rintro l t r ρ M2 es ⟨⟨U,Y,Z,rfl⟩,g2,base,L,B,BJ⟩;refine ⟨_,rfl,fun F hF => ?_⟩;have z:=ht t (by rw [es];simp)
  have BL:=ai es;walk_at "st";refine qq (by lia) ⟨j,by lia⟩ hn B.vr (fun e he=>(B.pl e he).1) z L fun M3 g3 => ?_
  have hw:=j6 j B.vr z;walk_at "st";refine ⟨_,_,_,rfl,rfl,nj _,⟨_,rfl, ?_⟩⟩
  cases hz:((wo P base t).map fun x=>x != 0).any id with
  | false =>
    rw [if_neg (by simp)]
    have G:=(B.out j z).mp ((tG hw).mp hz);refine hF _ _ ⟨⟨_,_,_,rfl⟩,g2.trans g3,base,g3 _ _ L, ?_,by rw [z4];lia⟩
    rw [wp G];exact B
  | true =>
    rw [if_pos rfl];have O:wo P base t≠DU n 0:=fun h=>by rw [(tG hw).mpr h] at hz;cases hz
    have G : ¬ Sp P n (ch P n l) (gf t):=fun h=>O ((B.out j z).mpr h);walk_at "st";refine vJ (by lia) hn hw O fun pl M4 J BK g4 => ?_
    have BM:=hw.at J;walk_at "st";refine ⟨⟨_,g4 _ _ (g3 _ _ L)⟩,Am j (by have:=hw.len;lia) J hw (by lia) trivial fun ρ pn hpn=>⟨_,_,rfl,ae aa, ?_⟩⟩
    have g5:=g4.trans (Ge.new (o := .lst (((wo P base t).map fun x=>(gf (wo P base t) pl*x) % P).map .int)) hpn);refine ⟨by rw [D1];lia,c,_,_,rfl,rfl,g5 _ _ (g3 _ _ L),by rw [r4,D1];lia, ?_⟩
    refine hF _ _ ⟨⟨_,_,_,rfl⟩,(g2.trans (g3.trans g5)).upd hc,base++[(pl,(wo P base t).map fun x=>(gf (wo P base t) pl*x) % P)], ?_, ?_, ?_⟩
    ·rw [aa,F7];rfl
    ·rw [tH G];exact B.step hP z J BK
    ·rw [z4,z4];simp;lia
 ·rintro ρ M2 ⟨⟨U,Y,Z,rfl⟩,g2,base,L,B,BJ⟩;dsimp only;walk_at "st";exact q _ _ _ B.len L g2
theorem yq {k:Nat} (hk : 3<=k) {P L R many:Nat} (J:P=2∨P=3) (z:L<=6) (B:R<=6) (hm:many<=10) {ts:List Tm} (F:∀ t∈ts,TI' L R many t) {p:Addr} {M:Mem} {Q:QD} (O:M p=some (.lst (ts.map tmD)))
 (q:∀ M',Ge M M'->Q (.int (ch P (L*R) (tbs P (L*R) R many ts)).length) M'):phi tab k 7 [.tup [.int L, .int R, .int many, .ref p], .int P] M Q:=by
 have j : 0 < P:=by lia
 have hn:L*R<=6*6:=EN z B;refine au (by lia) rfl rfl (ρ := [some _,some _]) rfl ?_
 unfold d7 L2.Mi.K41.b7;walk_at "st";refine ⟨by rw [D1];lia,fun a U => ?_⟩
 have g1:=Ge.new (o := .lst []) U;have G:=aa (M:=M) (a:=a) (o := .lst []);generalize ag M a (.lst [])=M1 at g1 G ⊢;refine tE (by lia) ⟨j,by lia⟩ z B hm F (g1 _ _ O) fun pt M2 g2 n2 Y => ?_
 obtain ⟨h1,h2⟩:=ee j (ts:=ts) F;refine vK (by lia) J (by lia) (by lia) h2 (g2 _ _ G) Y fun c base M3 Z e3 g3 => ?_
 refine ⟨_,_,rfl,gZ (ae e3), ?_⟩;rw [r4,Z];exact q _ (g1.trans (g2.trans g3))
theorem tI {u v:List Int} (h:rD u=rD v):u=v:=by
 have h:=D.tup.inj h;exact (List.map_inj_right fun a b e=>D.int.inj e).mp h
noncomputable def kv (u:List Int):D×D:=(rD u, .bl true)
theorem nk:∀ {v:List Int},v≠[]->bu (rD v)=true
 | [],h=>absurd rfl h
 | [_],_=>rfl
 | [_,_],_=>rfl
 | [_,_,_],_=>rfl
 | a::b::c::d::r,_=>by
   have:∀ r:List Int,(r.map D.int).all cP=true:=fun r=>by rw [List.all_map,HD];intro x _;rfl
   show ((D.int a::D.int b::D.int c::D.int d::r.map D.int).all cP&&true)=true;rw [Bool.and_true];exact this (a::b::c::d::r)
theorem An {ks:List (List Int)} {v:List Int}:(dget (ks.map kv) (rD v)).isSome=decide (v∈ks):=by
 unfold dget;rw [Jt];rw [Bool.eq_iff_iff,List.find?_isSome,decide_eq_true_iff];constructor
 ·rintro ⟨p,j,e⟩;obtain ⟨u,q,rfl⟩:=ED.mp j;rw [<- tI (of_decide_eq_true e)];exact q
 ·intro h;exact ⟨kv v,Ey h,decide_eq_true rfl⟩
theorem Ao {ks:List (List Int)} {v:List Int} (h:v∉ks):bM (ks.map kv) (rD v) (.bl true)=(ks++[v]).map kv:=by
 unfold bM;rw [if_neg,F7];rfl;intro z;obtain ⟨p,j,e⟩:=GY.mp z;obtain ⟨u,q,rfl⟩:=ED.mp j;exact h (by rw [<- tI (of_decide_eq_true e)];exact q)
theorem vL {P:Nat} {t u:List Int} {l r:List (List Int)} {l2 j:List Nat} {s:Nat} (h:(nx P t (l++u::r)).Nodup) (e:Ei P=l2++s::j):cb P (s:Nat) u t∉nx P t l++nxR P t u l2:=by
 have q:nx P t (l++u::r)=(nx P t l++nxR P t u l2)++cb P (s:Nat) u t::(nxR P t u j++nx P t r):=by simp [nx,Fk,nxR,e]
 rw [q,Hu] at h;exact fun z=>h.2.2 _ z _ Ef rfl
theorem yr {k:Nat} (hk : 1<=k) {P n:Nat} (hP:P=2∨P=3) (hn : 1<=n/\n<=100) {keys:List (List Int)} {t:List Int} (hl:keys.length<=100000) (hv:∀ u∈keys,u.length=n) (ht:Vr P n t) (J:(nx P t keys).Nodup) {d:Addr} {M:Mem} (ed:M d=some (.dct true (keys.map kv))) {Q:QD}
 (q:∀ f M',(∀ a o,a≠d->M a=some o->M' a=some o)->M f=none->M' f=some (.dct true ((nx P t keys).map kv))->Q (.ref f) M'):phi tab k 22 [.ref d,rD t, .int P] M Q:=by
 have BJ : 0 < P:=by lia
 refine au (by lia) rfl rfl (ρ := [some _,some _,some _,none,none,none]) rfl ?_
 unfold d22 L2.Mi.K41.b22;walk_at "st";intro f hf;have Z:=Ge.new (o := .dct true []) hf;have e0:=aa (M:=M) (a:=f) (o := .dct true []);have L:f≠d:=fun z=>by rw [z,ed] at hf;cases hf
 have j:=Z _ _ ed;generalize ag M f (.dct true [])=M0 at Z e0 j ⊢;walk_at "st";refine oF rfl j ?_;have fd:=aa (M:=M0) (a:=d) (o := .fdc (keys.map kv));have k1:∀ a o,a≠d->M a=some o->ag M0 d (.fdc (keys.map kv)) a=some o:=fun a o n e=>by rw [aq n];exact Z _ _ e
 have e1:=(aq (M:=M0) (o := .fdc (keys.map kv)) L).trans e0;generalize ag M0 d (.fdc (keys.map kv))=M1 at fd k1 e1 ⊢;clear Z e0 j;walk_at "wp";refine ⟨_,fd, ?_⟩;refine ax (f:=rD) (ys:=keys) (I:=fun l ρ M'=>(∃ o4 B, ρ = [some (.ref d),some (rD t),some (.int P),some (.ref f),o4,B])/\(∀ a o,a≠d->M a=some o->M' a=some o)/\M' d=some (.fdc (keys.map kv))/\M' f=some (.dct true ((nx P t l).map kv))) (by rw [GH];rfl) ⟨⟨_,_,rfl⟩,k1,fd,e1⟩ (fun _ _ _ _=>by first | rfl | trivial) ?_ ?_
 ·rintro l u r ρ M2 es ⟨⟨o4,B,rfl⟩,k2,O,e2⟩;refine ⟨_,rfl,fun F hF => ?_⟩;have BM:=ai es;have hu:=hv u (by rw [es];simp)
  walk_at "st";refine ⟨by lia,by lia, ?_⟩
  rw [Ed];refine ax (f:=fun i=>D.int (i:Nat)) (ys:=Ei P) (I:=fun l2 ρ M'=>(∃ B, ρ = [some (.ref d),some (rD t),some (.int P),some (.ref f),some (rD u),B])/\(∀ a o,a≠d->M a=some o->M' a=some o)/\M' d=some (.fdc (keys.map kv))/\M' f=some (.dct true ((nx P t l++nxR P t u l2).map kv))) aG ⟨⟨_,rfl⟩,k2,O,by simpa [nxR] using e2⟩ (fun _ _ _ _=>by first | rfl | trivial) ?_ ?_
  ·rintro l2 s r2 ρ M3 es2 ⟨⟨B,rfl⟩,k3,G,e3⟩;refine ⟨_,rfl,fun F2 BK => ?_⟩;have BL:=ai es2;rw [Ej] at BL;rw [es] at J;have U:=vL J es2;walk_at "st";refine Al BJ (by lia) (by trivial) (fun x hx=>by have:=ht.inn x hx;lia) fun ρ pn hpn=>⟨_,_,rfl,ae aa, ?_⟩
   have gn:=Ge.new (o := .lst ((cb P (s:Nat) u t).map .int)) hpn;have Y:=(cW (p:=P) (t:=(s:Nat)) (by lia) hu ht.len).len
   refine gX (gn _ _ e3) (nk (fun z=>by rw [z] at Y;simp at Y;lia)) (by rw [r4,z4,n6,D1];unfold nxR;rw [r4];rcases hP with rfl | rfl <;> lia) ?_
   rw [Ao U];refine BK _ _ ⟨⟨_,rfl⟩,fun a o n e => ?_, ?_, ?_⟩
   ·rw [aq (fun z=>by rw [z,hf] at e;cases e)];exact gn _ _ (k3 a o n e)
   ·rw [aq L.symm];exact gn _ _ G
   ·rw [aa];simp [nxR]
  ·rintro ρ M3 ⟨⟨B,rfl⟩,k3,G,e3⟩;refine hF _ _ ⟨⟨_,_,rfl⟩,k3,G, ?_⟩;rw [e3];simp [nx,Fk]
 ·rintro ρ M2 ⟨⟨o4,B,rfl⟩,k2,O,e2⟩;dsimp only;walk_at "st";exact q _ _ k2 hf e2
theorem tJ {P n:Nat}:∀ (ts:List (List Int)),(ch P n ts).length<=ts.length:=by
 have:∀ (ts:List (List Int)) (A:List (Nat->Int)),(ts.foldl (fun A t => @ite _ (Sp P n A (gf t)) (JO _) A (A++[gf t])) A).length<=A.length+ts.length:=by
  intro ts
  induction ts with
  | nil=>intro A;simp
  | cons t ts ih =>
    intro A;rw [Gc];refine ET (ih _) ?_
    split <;> simp <;> lia
 intro ts;have:=this ts [];rw [Gd,Ih] at this;exact this
theorem BH {P k:Nat} (j:P=2∨P=3) (h:k<=10):P ^ k<=59049:=ET (Nat.pow_le_pow_left (show P<=3 by lia) k) (ET (KJ (by decide) h) (by decide))
theorem vM {k:Nat} (hk : 2<=k) {P n:Nat} (O:P=2∨P=3) (hn : 1<=n/\n<=100) {ts:List (List Int)} (hl:ts.length<=10) (ht:∀ t∈ts,Vr P n t) {b:Addr} {M:Mem} (eb:M b=some (.lst (ts.map rD))) {Q:QD} (q:∀ d keys M',Kn P n (ch P n ts) keys->M' d=some (.dct true (keys.map kv))->Ge M M'->Q (.ref d) M'):phi tab k 23 [.ref b, .int n, .int P] M Q:=by
 have U : 0 < P:=by lia
 refine au (by lia) rfl rfl (ρ := [some _,some _,some _,none,none]) rfl ?_
 unfold d23 L2.Mi.K41.b23;walk_at "st";intro p hp;rw [Ed,jo,sW];refine ⟨by rw [D1];lia,by lia,by lia,by rw [D1];lia,nk (fun z=>by have:=congrArg HY z;simp at this;lia),aa, ?_⟩
 have g1:=Ge.new (o := .dct true ([DU n (0:Int)].map kv)) hp;have e1:=aa (M:=M) (a:=p) (o := .dct true ([DU n (0:Int)].map kv));change wSs _ _ _ _ (ag M p (.dct true ([DU n (0:Int)].map kv)));generalize ag M p (.dct true ([DU n (0:Int)].map kv))=M1 at g1 e1 ⊢;walk_at "st";refine ⟨_,ae (g1 _ _ eb), ?_⟩;refine ax (f:=rD) (ys:=ts) (I:=fun l ρ M'=>Ge M M' /\ ∃ d keys,(∃ Y, ρ = [some (.ref b),some (.int n),some (.int P),some (.ref d),Y])/\M d=none/\M' d=some (.dct true (keys.map kv))/\Kn P n (ch P n l) keys) rfl ⟨g1,p,[DU n 0],⟨_,rfl⟩,hp,e1,Kn.init U⟩ (fun _ _ _ h=>ae (h.1 _ _ eb)) ?_ ?_
 ·rintro l t r ρ M2 es ⟨g2,d,keys,⟨Y,rfl⟩,nd,G,B⟩;refine ⟨_,rfl,fun F hF => ?_⟩;have j:=ht t (by rw [es];simp)
  have BK:=ai es;have BL:=tJ (P:=P) (n:=n) l;have Z:=BH (k:=(ch P n l).length) O (by lia)
  rw [<- B.len] at Z;have BJ:t≠[]:=fun z=>by have:=j.len;rw [z] at this;simp at this;lia
  walk_at "st";refine ⟨_,_,_,rfl,G,nk BJ,⟨_,rfl, ?_⟩⟩;rw [An]
  by_cases hm:t∈keys
  ·rw [if_neg (by simp [hm])]
   refine hF _ _ ⟨g2,d,keys,⟨_,rfl⟩,nd,G, ?_⟩;rw [wp ((B.mem t).mp hm).2];exact B
  ·rw [if_pos (by simp [hm])]
   have J : ¬ Sp P n (ch P n l) (gf t):=fun h=>hm ((B.mem t).mpr ⟨j,h⟩);have L:=B.step O j J;walk_at "st";refine yr (by lia) O hn (by lia) (fun u hu=>((B.mem u).mp hu).1.len) j L.nd G fun f M3 k3 nf e3 => ?_
   refine hF _ _ ⟨fun a o e=>k3 a o (fun z=>by rw [z,nd] at e;cases e) (g2 _ _ e),f,nx P t keys,⟨_,rfl⟩,be g2 nf,e3, ?_⟩
   rw [tH J];exact L
 ·rintro ρ M2 ⟨g2,d,keys,⟨Y,rfl⟩,nd,G,B⟩;dsimp only;walk_at "st";exact q _ _ _ B G g2
theorem tK {k:Nat} (J : 1<=k) {P r:Nat} (B:P=2∨P=3) (L:r<=10) {keys:List (List Int)} (F:keys.length=P ^ r) {d:Addr} {M:Mem} (ed:M d=some (.dct true (keys.map kv))) {Q:QD} (q:Q (.int r) M):phi tab k 24 [.ref d, .int P] M Q:=by
 refine au (by lia) rfl rfl (ρ := [some _,some _,none,none]) rfl ?_
 unfold d24 L2.Mi.K41.b24;walk_at "st";refine ⟨_,_,rfl,ed, ?_⟩;walk_at "st";refine ⟨r+1, ?_⟩;rw [r4,F];have go:∀ (j h:Nat),h+j=r->aP (eX (wOp wGt (bo 2) (wC (D.int 1)))) (wSs (phi tab (k - 1)) (MSs.cons (MS.par 2 3 (ME.bin BOp.fdiv (ME.var 2) (ME.var 1)) (ME.bin BOp.add (ME.var 3) (ME.int 1))) MSs.nil)) { nx:=wSs (phi tab (k - 1)) (MSs.cons (MS.ret (ME.var 3)) MSs.nil) { nx:=fun x M'=>Q D.non M',rt:=Q },rt:=Q } (j+1) [some (D.ref d),some (D.int ↑P),some (D.int ((P ^ j:Nat):Int)),some (D.int (h:Nat))] M:=by
  intro j
  induction j with
  | zero =>
    intro h e;unfold aP;walk_at "wp";rw [if_neg (by simp)]
    walk_at "st";rw [show h=r by lia];exact q
  | succ j ih =>
    intro h e;have G : 1<=P ^ j:=Nat.pow_pos (by lia)
    have z:P ^ (j+1)=P ^ j*P:=LO _ _;unfold aP;walk_at "wp";rw [if_pos (by rw [z];rcases B with rfl | rfl <;> lia)]
    walk_at "st";refine ⟨by lia,by have O:(3:Int) < 2 ^ 256:=(by decide);lia, ?_⟩
    rw [z,HN,Int.mul_ediv_cancel _ (by lia)]
    exact ih (h+1) (by lia)
 exact go r 0 (by lia)
theorem km {l:List Int} (h:dH l):Big l:=fun x hx=>by have:=h x hx;lia
theorem yt {n:Nat} (hn : 6<=n) {b:Addr} {L R:Nat} (hL : 1<=L/\L<=6) (hR : 1<=R/\R<=6) {M:Mem} {Q:QD} (hb:Box b M)
 (q:∀ (many:Nat) (ts:List Tm) pt M',(1<=many/\many<=4)->(∀ t∈ts,TI' L R many t)->ts.length<=1000->Bx b M M'->M pt=none->M' pt=some (.lst (ts.map tmD))->Q (.tup [.int L, .int R, .int many, .ref pt]) M'):phi tab n 25 [.ref b, .int L, .int R] M Q:=by
 refine au (by lia) rfl rfl (ρ := [some _,some _,some _,none,none,none,none,none]) rfl ?_
 unfold d25 L2.Mi.K41.b25;walk_at "st";refine bh (by lia) hb (by decide) (by decide) fun c M1 c0 c1 x1 => ?_
 obtain ⟨many,rfl,hm⟩:∃ N:Nat,c=(N:Int) - 1/\1<=N/\N<=4:=⟨(c+1).toNat,by lia,by lia⟩
 walk_at "wp";rw [show (1:Int)+((many:Int) - 1)=many by lia]
 walk_at "st";refine bh (by lia) x1.box (by decide) (by decide) fun w M2 w0 w1 Z => ?_
 have Z:=x1.trans Z;clear x1 c0 c1;walk_at "wp";have mLR:L*R<=6*6:=EN hL.2 hR.2
 by_cases hw:w=0
 ·rw [if_pos (by simpa using hw)]
  walk_at "st";refine ⟨by rw [D1];lia,fun pt BJ => ?_⟩
  have g3:=Ge.new (o := .lst []) BJ;have e3:=aa (M:=M2) (a:=pt) (o := .lst []);have G:=cn Z.box BJ;have npt:=Z.none BJ G;generalize ag M2 pt (.lst [])=M3 at g3 e3 ⊢;have x3:=Z.ge g3;walk_at "st";refine ⟨by lia,by lia, ?_⟩
  rw [Ed];refine ax (f:=fun i=>D.int (i:Nat)) (ys:=Ei many) (I:=fun l ρ M'=>(∃ o5 o6 o7, ρ = [some (.ref b),some (.int L),some (.int R),some (.int many),some (.ref pt),o5,o6,o7])/\Bx b M M' /\ ∃ ts:List Tm,M' pt=some (.lst (ts.map tmD))/\(∀ t∈ts,TI' L R many t)/\ts.length=l.length*(L*R)) aG ⟨⟨_,_,_,rfl⟩,x3,[],e3,by simp,by simp⟩ (fun _ _ _ _=>by first | rfl | trivial) ?_ ?_
  ·rintro l k r ρ M4 es ⟨⟨o5,o6,o7,rfl⟩,J,ts,e4,ht,hl⟩;refine ⟨_,rfl,fun F hF => ?_⟩;have BO:=ai es;rw [Ej] at BO;have hk:k < many:=by have h9:k∈Ei many:=(by rw [es];simp);simpa using h9
   have ml:l.length*(L*R)<=4*36:=EN (by lia) mLR
   walk_at "st";refine ⟨by lia,by lia, ?_⟩
   rw [Ed];refine ax (f:=fun i=>D.int (i:Nat)) (ys:=Ei L) (I:=fun l2 ρ M'=>(∃ o6 o7, ρ = [some (.ref b),some (.int L),some (.int R),some (.int many),some (.ref pt),some (.int (k:Nat)),o6,o7])/\Bx b M M' /\ ∃ us:List Tm,M' pt=some (.lst ((ts++us).map tmD))/\(∀ t∈us,TI' L R many t)/\us.length=l2.length*R) aG ⟨⟨_,_,rfl⟩,J,[],by simpa using e4,by simp,by simp⟩ (fun _ _ _ _=>by first | rfl | trivial) ?_ ?_
   ·rintro l2 i r2 ρ M5 es2 ⟨⟨o6,o7,rfl⟩,x5,us,e5,hu,U⟩;refine ⟨_,rfl,fun F2 BR => ?_⟩;have BS:=ai es2;rw [Ej] at BS;have hi:i < L:=by have h9:i∈Ei L:=(by rw [es2];simp);simpa using h9
    have BW:l2.length*R<=6*6:=EN (by lia) hR.2
    walk_at "st";refine ⟨⟨_,e5⟩,by lia,by lia, ?_⟩
    rw [Ed];refine am (f:=fun i=>D.int (i:Nat)) (ys:=Ei R) (I:=fun l3 ρ M' acc=>(∃ o0, ρ = [o0,some (.int (k:Nat)),some (.int (i:Nat)),some (.ref b)])/\Bx b M M'/\M' pt=some (.lst ((ts++us).map tmD)) /\ ∃ vs:List Tm,acc=vs.map tmD/\(∀ t∈vs,TI' L R many t)/\vs.length=l3.length) aG ⟨⟨_,rfl⟩,x5,e5,[],rfl,by simp,rfl⟩ (fun _ _ _ _ _=>trivial) ?_ ?_
    ·rintro l3 j r3 ρ M6 acc es3 ⟨⟨o0,rfl⟩,x6,e6,vs,rfl,hv,Y⟩;refine ⟨_,rfl,fun N hN => ?_⟩;have BU:=ai es3;rw [Ej] at BU;have hj:j < R:=by have h9:j∈Ei R:=(by rw [es3];simp);simpa using h9
     walk_at "wp";refine bh (by lia) x6.box (by decide) (by decide) fun z M7 z0 z1 x7 => ?_
     walk_at "wp";refine ⟨by rw [D1];lia,by rw [r4,D1];lia,hN _ _ _ ⟨⟨_,rfl⟩,x6.trans x7,x7.keep _ _ G e6,vs++[((((k:Nat):Int),((i:Nat):Int),((j:Nat):Int)),z - 3)], ?_, ?_, ?_⟩⟩
     ·rw [F7];rfl
     ·intro t O
      rcases Ea.mp O with h | h
      ·exact hv t h
      ·rw [Fj.mp h];exact ⟨⟨by dsimp only;lia,by dsimp only;lia⟩,⟨by dsimp only;lia,by dsimp only;lia⟩,⟨by dsimp only;lia,by dsimp only;lia⟩⟩
     ·rw [z4,z4,Y];rfl
    ·rintro ρ M6 acc ⟨⟨o0,rfl⟩,x6,e6,vs,rfl,hv,Y⟩ pe hpe;have g7:=Ge.new (o := .lst (vs.map tmD)) hpe;rw [Ej] at Y;refine ⟨pt,pe,_,_,rfl,rfl,g7 _ _ e6,aa,by rw [r4,r4,z4,D1];lia, ?_⟩
     refine BR _ _ ⟨⟨_,_,rfl⟩,(x6.ge g7).upd npt G,us++vs, ?_, ?_, ?_⟩
     ·rw [aa];simp
     ·intro t O
      rcases Ea.mp O with h | h
      ·exact hu t h
      ·exact hv t h
     ·rw [z4,z4,U,Y,EV,FG]
   ·rintro ρ M5 ⟨⟨o6,o7,rfl⟩,x5,us,e5,hu,U⟩;rw [Ej] at U;refine hF _ _ ⟨⟨_,_,_,rfl⟩,x5,ts++us,e5, ?_, ?_⟩
    ·intro t O
     rcases Ea.mp O with h | h
     ·exact ht t h
     ·exact hu t h
    ·rw [z4,z4,hl,U,EV,FG]
  ·rintro ρ M4 ⟨⟨o5,o6,o7,rfl⟩,J,ts,e4,ht,hl⟩;dsimp only;rw [Ej] at hl;have ml:many*(L*R)<=4*36:=EN (by lia) mLR
   walk_at "st";refine ⟨_,ae e4, ?_⟩;refine am (f:=tmD) (ys:=ts) (I:=fun l ρ M' acc=>(∃ o0, ρ = [o0])/\M'=M4/\acc=(l.filter fun t => !(t.2==0)).map tmD) rfl ⟨⟨_,rfl⟩,rfl,rfl⟩ (fun _ _ _ _ h=>by rw [h.2.1];exact ae e4) ?_ ?_
   ·rintro l t r ρ M5 acc es ⟨⟨o0,rfl⟩,rfl,rfl⟩;refine ⟨_,rfl,fun N hN => ?_⟩;have BO:=ai es;have BV:=Es (fun t:Tm => !(t.2==0)) l;walk_at "wp";refine ⟨_,_,rfl,rfl, ?_⟩;walk_at "wp"
    by_cases hz:t.2=0
    ·rw [if_neg (by simp [hz])]
     refine hN _ _ _ ⟨⟨_,rfl⟩,rfl, ?_⟩;rw [EB,EI (by simp [hz])];simp
    ·rw [if_pos (by simp [hz])]
     refine ⟨by rw [r4,D1];lia,hN _ _ _ ⟨⟨_,rfl⟩,rfl, ?_⟩⟩
     rw [EB,EH (by simp [hz])];simp
   ·rintro ρ M5 acc ⟨⟨o0,rfl⟩,rfl,rfl⟩ pn BK;have BV:=Es (fun t:Tm => !(t.2==0)) ts;have BL:=cn J.box BK;exact ⟨by rw [D1];lia,q many _ pn _ hm (fun t h=>ht t (Gz.mp h).1) (by lia) (J.ge (Ge.new BK)) (J.none BK BL) aa⟩
 ·rw [if_neg (by simpa using hw)]
  walk_at "st";refine ⟨by rw [D1];lia,fun a BM => ?_⟩
  have g3:=Ge.new (o := .lst [.int L, .int R, .int many]) BM;have ha:=aa (M:=M2) (a:=a) (o := .lst [.int L, .int R, .int many]);have BP:=cn Z.box BM;generalize ag M2 a (.lst [.int L, .int R, .int many])=M3 at g3 ha ⊢;have x3:=Z.ge g3;clear Z g3 BM;refine bh (by lia) x3.box (by decide) (by decide) fun c M4 c0 c1 J => ?_
  have ha:=J.keep _ _ BP ha;have J:=x3.trans J;clear x3;obtain ⟨c,rfl⟩:=Gb c0;refine t6 (s:=ak 16) (ft := 11) (fp := 13) rfl (bh (by lia)) (vG (by lia)) (by lia) (by lia) (by lia) (by lia) (by lia) J.box BP ha fun ps pr M5 BX B x5 npr epr => ?_
  have x5:=J.trans x5;have m1:L*(R*many)<=6*(6*4):=EN hL.2 (EN hR.2 hm.2);have m2:ps.length*(L*(R*many))<=4*(6*(6*4)):=EN (by lia) m1
  walk_at "st";refine vE (s:=ak 17) rfl (by lia) (by lia) (by lia) (by lia) epr (by lia) (fun p h=>⟨km (B p h).s0,km (B p h).s2,(B p h).l0,(B p h).l1,(B p h).l2⟩) fun Ls ds M6 BN BY g6 nds eds => ?_
  have x6:=x5.ge g6;refine vF (s:=ak 18) rfl (by lia) BN.nd (by lia) eds fun rs pt M7 BQ _ g7 npt ept => ?_
  have BL:=cn x6.box npt;refine ⟨by rw [D1];lia,q many rs pt _ hm (fun t ht => ?_) (by rw [BQ.length_eq];lia) (x6.ge g7) (x6.none npt BL) ept⟩
  have ht:=BQ.mem_iff.mp ht;have e:=BN.val ht;have z:=BN.nz t ht;rw [<- e] at z;obtain ⟨h1,h2,h3⟩:=tq (fun u hu=>⟨(B u hu).l0,(B u hu).l1,(B u hu).l2⟩) z;exact ⟨h1,h2,h3⟩
def KI (L R many:Nat) (a:K3):Prop:=a.1=(many:Int)/\(0<=a.2.1/\a.2.1 < (L:Int))/\(0<=a.2.2/\a.2.2 < (R:Int))
theorem yu {n:Nat} (hn : 6<=n) {b:Addr} {P L R many:Nat} (hP : 0 < P/\P<=3) (hL : 1<=L/\L<=6) (hR : 1<=R/\R<=6) (hm : 1<=many/\many<=4) {ts:List Tm} (ht:∀ t∈ts,TI' L R many t) (hl:ts.length<=1000) {pt:Addr} {M:Mem} {Q:QD} (hb:Box b M) (B:pt≠b) (ept:M pt=some (.lst (ts.map tmD)))
 (q:∀ (us:List Tm) pu M',(∀ t∈us,TI' L R (many+1) t)->Bx b M M'->M pu=none->M' pu=some (.lst (us.map tmD))->Q (.tup [.int L, .int R, .int (many+1:Nat), .ref pu]) M'):phi tab n 26 [.ref b, .tup [.int L, .int R, .int many, .ref pt], .int P] M Q:=by
 refine au (by lia) rfl rfl (ρ := [some _,some _,some _,none,none,none,none,none,none,none,none,none]) rfl ?_
 unfold d26 L2.Mi.K41.b26;walk_at "st";refine ⟨_,rfl, ?_⟩;refine bh (by lia) hb (by lia) (by lia) fun one M1 BW BX x1 => ?_
 refine ⟨_,rfl, ?_⟩;refine bh (by lia) x1.box (by lia) (by lia) fun oth M2 BY BZ x2 => ?_
 have x2:=x1.trans x2;clear x1;walk_at "st";intro d hd;have g3:=Ge.new (o := .dct true []) hd;have e3:=aa (M:=M2) (a:=d) (o := .dct true []);have G:=cn x2.box hd;have nd:=x2.none hd G;generalize ag M2 d (.dct true [])=M3 at g3 e3 ⊢;have x3:=x2.ge g3;walk_at "st";refine ⟨_,rfl,_,ae (x3.keep _ _ B ept), ?_⟩;refine ax (f:=tmD) (ys:=ts) (I:=fun l ρ M'=>(∃ o6 o7 o8 o9 J O, ρ = [some (.ref b),some (.tup [.int L, .int R, .int many, .ref pt]),some (.int P),some (.int one),some (.int oth),some (.ref d),o6,o7,o8,o9,J,O])/\Bx b M M' /\ ∃ ls:List Tm,M' d=some (.dct true (ls.map kcD))/\(ls.map (·.1)).Nodup/\ls.length<=l.length /\ ∀ a∈ls.map (·.1),KI L R many a) rfl ⟨⟨_,_,_,_,_,_,rfl⟩,x3,[],e3,by simp,by simp,by simp⟩ (fun _ _ _ h=>ae (h.2.1.keep _ _ B ept)) ?_ ?_
 ·rintro l t r ρ M4 es ⟨⟨o6,o7,o8,o9,J,O,rfl⟩,x4,ls,e4,j,BM,U⟩;refine ⟨_,rfl,fun F hF => ?_⟩;have BN:=ai es;obtain ⟨C0,BO,BP⟩:=ht t (by rw [es];simp)
  walk_at "st";have BJ:∀ c:Bool, -(2 ^ 64) < (if c=true then (1:Int) else 0)/\(if c=true then (1:Int) else 0) < 2 ^ 64:=fun c=>by split <;> lia
  refine ⟨cL (BJ _),bh (by lia) x4.box (by decide) (by decide) fun z M5 z0 z1 x5 => ?_⟩
  have e5:=x5.keep _ _ G e4;have x5:=x4.trans x5;walk_at "wp";refine ⟨cL (by lia),cL (BJ _),cL (by lia),dA (by lia), ?_⟩
  generalize t.2*(if (t.1.1==one)=true then (1:Int) else 0)*z+t.2*(if (t.1.1==oth)=true then (1:Int) else 0)*2+(P:Int)*(if (t.1.1==one)=true then (1:Int) else 0)=v
  walk_at "st";refine ⟨⟨_,_,e5⟩,_,rfl,by rw [D1];lia,_,_,e5,rfl, ?_⟩
  have ek:D.tup [D.int (many:Int),D.int t.1.2.1,D.int t.1.2.2]=k3D ((many:Int),t.1.2.1,t.1.2.2):=rfl;rw [ek,jq];have eg:((N4 (fun p:Tm=>D.int p.2) (ls.find? fun p=>decide (p.1=((many:Int),t.1.2.1,t.1.2.2)))).getD (.int 0)) = .int ((((ls.find? fun p=>decide (p.1=((many:Int),t.1.2.1,t.1.2.2))).map (·.2)).getD 0)):=by
   cases ls.find? fun p=>decide (p.1=((many:Int),t.1.2.1,t.1.2.2)) <;> rfl
  rw [eg];walk_at "wp";refine ⟨_,rfl,by rw [D1];lia, ?_⟩
  refine gX e5 rfl (by rw [r4,D1];lia) ?_
  rw [ek,oG j];have C1:=mV (L:=ls) (k:=((many:Int),t.1.2.1,t.1.2.2)) (c:=v);refine hF _ _ ⟨⟨_,_,_,_,_,_,rfl⟩,x5.upd nd G,cy ls ((many:Int),t.1.2.1,t.1.2.2) v,aa,j3 j,by rw [z4,EV];lia,fun a ha => ?_⟩
  rcases vy ha with h | h
  ·exact U a h
  ·rw [h];exact ⟨rfl,BO,BP⟩
 ·rintro ρ M4 ⟨⟨o6,o7,o8,o9,J,O,rfl⟩,x4,ls,e4,j,BM,U⟩;dsimp only;walk_at "st";refine ⟨d,true,_, .tup [.int, .int, .int],rfl,e4,rfl,fun kv BQ => ?_,fun ps ys BR Y BK => ?_⟩
  ·obtain ⟨t,_,rfl⟩:=ED.mp BQ;rfl
  obtain ⟨rs,hp,rfl,C2⟩:=gB j Y BK;have g7:=Ge.new (o := .lst (rs.map fun t=>k3D t.1)) BR;have d7:=g7 _ _ e4;have s7:=aa (M:=M4) (a:=ps) (o := .lst (rs.map fun t=>k3D t.1));generalize ag M4 ps (.lst (rs.map fun t=>k3D t.1))=M7 at g7 d7 s7 ⊢;have x7:=x4.ge g7;have C3:rs.length<=1000:=by rw [hp.length_eq];lia
  refine ⟨_,ae s7, ?_⟩;refine am (f:=fun t:Tm=>k3D t.1) (ys:=rs) (I:=fun l ρ M' acc=>(∃ o0, ρ = [o0,some (.ref d)])/\M'=M7/\acc=(l.filter fun t => !(t.2==0)).map tmD) rfl ⟨⟨_,rfl⟩,rfl,rfl⟩ (fun _ _ _ _ h=>by rw [h.2.1];exact ae s7) ?_ ?_
  ·rintro l t r ρ M8 acc e ⟨⟨o0,rfl⟩,rfl,rfl⟩;refine ⟨_,rfl,fun N' BL => ?_⟩;have BN:=ai e;have ht:t∈ls:=hp.mem_iff.mp (by rw [e];simp)
   have BS:=Es (fun t:Tm => !(t.2==0)) l;walk_at "wp";refine .inr (.inl ⟨true,_,_,d7,rfl,dB j ht, ?_⟩);walk_at "wp"
   by_cases hz:t.2=0
   ·rw [if_neg (by simp [hz])]
    refine BL _ _ _ ⟨⟨_,rfl⟩,rfl, ?_⟩;rw [EB,EI (by simp [hz])];simp
   ·rw [if_pos (by simp [hz])]
    refine .inr (.inl ⟨true,_,_,d7,rfl,dB j ht, ?_⟩);refine ⟨by rw [D1];lia, ?_⟩
    unfold k3D;walk_at "wp";refine ⟨.inr trivial,by rw [D1];lia,by rw [r4,D1];lia,BL _ _ _ ⟨⟨_,rfl⟩,rfl, ?_⟩⟩
    rw [EB,EH (by simp [hz]),F7];rfl
  ·rintro ρ M8 acc ⟨⟨o0,rfl⟩,rfl,rfl⟩ p2 hp2;have g8:=Ge.new (o := .lst ((rs.filter fun t => !(t.2==0)).map tmD)) hp2;have e8:=aa (M:=M8) (a:=p2) (o := .lst ((rs.filter fun t => !(t.2==0)).map tmD));generalize ag M8 p2 _=M9 at g8 e8 ⊢;have x9:=x7.ge g8;have BS:=Es (fun t:Tm => !(t.2==0)) rs;walk_at "st";refine ⟨_,rfl,_,rfl,_,rfl, ?_⟩;walk_at "wp";refine ⟨_,rfl, ?_⟩;refine ⟨_,_,x9.keep _ _ B ept,e8,by rw [r4,r4,D1];lia,fun pu Z=>⟨by rw [D1];lia, ?_⟩⟩
   have BU:=cn x9.box Z;rw [<- F7];refine q (ts++rs.filter fun t => !(t.2==0)) pu _ (fun t BV => ?_) (x9.ge (Ge.new Z)) (x9.none Z BU) aa
   rcases Ea.mp BV with h | h
   ·obtain ⟨h1,h2,h3⟩:=ht t h;exact ⟨⟨h1.1,by lia⟩,h2,h3⟩
   ·have h:=hp.mem_iff.mp (Gz.mp h).1;obtain ⟨h1,h2,h3⟩:=U t.1 (Ey h);exact ⟨by rw [h1];lia,h2,h3⟩
noncomputable def dL (x:List Int×List Int):Fi := .tuple [.tuple (x.1.map .int), .tuple (x.2.map .int)]
theorem qr {k:Nat} {M:Mem}:∀ ps:List (List Int×List Int),aC (rb (k+2) M) (ps.map p2D)=some (ps.map dL)
 | [] => rfl
 | p::r=>by
   have e:rb (k+2) M (p2D p)=some (dL p):=by simp [rb,dL,aC,dX]
   rw [Ew,aC,e,qr r];rfl
theorem Ap:∀ ns:List Int,Fq (ns.map .int) (ns.map .int)=true
 | [] => rfl
 | n::ns=>by simp [Fq,Fb,Ap ns]
theorem wq:∀ ps:List (List Int×List Int),Fq (ps.map dL) (ps.map dL)=true
 | [] => rfl
 | p::ps=>by simp [Fq,Fb,wq ps,dL,Ap]
theorem wt {M:Mem} {a b:Addr} {ps:List (List Int×List Int)} {Q:QD} (j:M a=some (.lst (ps.map p2D))) (z:M b=some (.lst (ps.map p2D))) (q:Q (.bl false) M):wNe (.ref a) (.ref b) M Q:=by
 refine ⟨.list (ps.map dL), .list (ps.map dL),by rw [dY j,qr];rfl,by rw [dY z,qr];rfl, ?_⟩
 rw [show Fb (.list (ps.map dL)) (.list (ps.map dL))=true by simp [Fb,wq]]
 exact q
theorem oQ:∀ n:Nat,aC jh (DU n (D.bl true))=some (DU n true)
 | 0=>rfl
 | n+1=>by
   rw [Fd,aC,oQ n];rfl
theorem yv {P L R:Nat} (j:P<=3) (q:L<=6) (z:R<=6):(prs P L R).length<=729*729:=by
 show (prL P R ((rws P L).filter fo)).length<=_;rw [gj];exact EN (fD j q) (fD j z)
theorem law_holds (ns:List Int) (hl:ns.length<=63):phi tab 40 27 [.con (ns.map D.int)] (fun _=>none) fun d _=>d = .bl true:=by
 refine au (by lia) rfl rfl (ρ := [some _,none,none,none,none,none,none,none,none,none,none]) rfl ?_
 unfold d27 b27;walk_at "st";rw [r4];refine ⟨by split <;> lia,by split <;> lia, ?_⟩
 refine ax (I:=fun l ρ M' => ∃ o1 o2 o3 o4 o5 O U Y Z q, ρ = [some (.con (ns.map D.int)),o1,o2,o3,o4,o5,O,U,Y,Z,q]) aG ⟨_,_,_,_,_,_,_,_,_,_,rfl⟩ (fun _ _ _ hI=>trivial) ?_ ?_
 ·rintro l k r ρ M8 e ⟨o1,o2,o3,o4,o5,O,U,Y,Z,q,rfl⟩;refine ⟨_,rfl,fun F hF => ?_⟩;walk_at "st";refine Aa (s:=ak 12) (fc := 8) (fm := 9) (sc:=ak 10) rfl rfl (oM (by lia)) (by lia) (by lia) fun b x y BM => ?_
  have j:Box b (ag M8 b (.lst [.int x, .int y, .int 0])):=⟨_,_,_,aa⟩;generalize ag M8 b (.lst [.int x, .int y, .int 0])=M0 at j ⊢;walk_at "st";refine vH (by lia) j fun p L R M1 hp h0 h1 x1 => ?_
  have j:=x1.box;clear x1 BM;obtain ⟨P,rfl,hP⟩:∃ P:Nat,p=(P:Int)/\(P=2∨P=3):=⟨p.toNat,by lia,by lia⟩
  refine ⟨_,rfl, ?_⟩;walk_at "st";refine tD (by lia) (by lia) h0.2 h1.2 fun pd M2 g2 _ B => ?_
  have j:=(Bx.of j g2).box;walk_at "st";refine ng (by lia) (by lia) h0.2 h1.2 fun pf M3 g3 nf G => ?_
  have BN:=(Bx.of j g3).box;have BO:=B;have B:=g3 _ _ B;clear g2 g3;have BY:=yv (P:=P) (by lia) h0.2 h1.2
  have BP:pd≠pf:=fun z=>by rw [<- z,BO] at nf;cases nf
  walk_at "st";refine ⟨"list",by simp only [tyN,G],_,rfl, ?_⟩
  rw [if_neg (by decide)]
  refine wt G B ⟨_,rfl, ?_⟩;rw [if_neg (by decide)]
  refine ⟨_,ae G, ?_⟩;refine am (f:=p2D) (ys:=prs P L R) (I:=fun l ρ M' acc=>(∃ o0, ρ = [o0])/\M'=M3/\acc=DU l.length (.bl true)) rfl ⟨⟨_,rfl⟩,rfl,rfl⟩ (fun _ _ _ _ h=>by rw [h.2.1];exact ae G) ?_ ?_
  ·rintro l x r ρ M4 acc es ⟨⟨o0,rfl⟩,rfl,rfl⟩;refine ⟨_,rfl,fun N hN => ?_⟩;have BZ:=ai es;walk_at "wp";refine ⟨_,rfl,by rw [Hq,D1];lia,hN _ _ _ ⟨⟨_,rfl⟩,rfl, ?_⟩⟩
   rw [z4,EV,List.replicate_succ'];rfl
  ·rintro ρ M4 acc ⟨⟨o0,rfl⟩,rfl,rfl⟩ pa hpa;refine ⟨_,_,_,rfl,ae aa,oQ _, ?_⟩;have g5:=Ge.new (o := .lst (DU (prs P L R).length (D.bl true))) hpa;generalize ag M4 pa _=M5 at g5 ⊢;have B:=g5 _ _ B;have G:=g5 _ _ G;have BQ:=cn j nf;have j:=(Bx.of BN g5).box;clear g5 hpa;refine ⟨_,rfl, ?_⟩;rw [if_neg (by simp)]
   walk_at "st";refine ⟨⟨_,G⟩,pf,_,_,rfl,rfl,G,by rw [r4,D1];lia, ?_⟩
   have j:Box b (ag M5 pf (.lst ((prs P L R).map p2D++[.non]))):=by
    obtain ⟨x,y,z,ez⟩:=j;exact ⟨x,y,z,by rw [aq BQ.symm];exact ez⟩
   have B:ag M5 pf (.lst ((prs P L R).map p2D++[.non])) pd=some (.lst ((prs P L R).map p2D)):=by rw [aq BP];exact B
   generalize ag M5 pf _=M6 at j B ⊢;walk_at "st";refine ng (by lia) (by lia) h0.2 h1.2 fun C0 M7 g7 BR e7 => ?_
   refine wt e7 (g7 _ _ B) ⟨_,rfl, ?_⟩;rw [if_neg (by decide)]
   have j:=(Bx.of j g7).box;clear g7 BR e7;walk_at "st";refine yt (by lia) h0 h1 j fun many ts pt M8 hm ht BS x8 npt ept => ?_
   have J:=cn j npt;have j:=x8.box;clear x8 npt;walk_at "st";refine yu (by lia) ⟨by lia,by lia⟩ h0 h1 hm ht BS j J ept fun us pu M9 hu x9 npu epu => ?_
   have ept:=x9.keep _ _ J ept;refine ⟨by rw [D1];lia, ?_⟩
   have BK:∀ x∈[(many,pt,ts),(many+1,pu,us)],x.1<=10/\(∀ t∈x.2.2,TI' L R x.1 t)/\M9 x.2.1=some (.lst (x.2.2.map tmD)):=by
    intro x hx
    rcases Eb.mp hx with rfl | hx
    ·exact ⟨by dsimp only;lia,ht,ept⟩
    ·rw [Fj.mp hx];exact ⟨by dsimp only;lia,hu,epu⟩
   refine ax (f:=fun x:Nat×Addr×List Tm=>D.tup [.int L, .int R, .int x.1, .ref x.2.1]) (ys := [(many,pt,ts),(many+1,pu,us)]) (I:=fun l ρ M'=>(∃ O U Y Z q, ρ = [some (.con (ns.map D.int)),some (.int (k:Nat)),some (.ref b),some (.int P),some (.int L),some (.int R),O,U,Y,Z,q])/\Ge M9 M') rfl ⟨⟨_,_,_,_,_,rfl⟩,Ge.refl⟩ (fun _ _ _ _=>trivial) ?_ ?_
   ·rintro l x r ρ M10 es ⟨⟨O,U,Y,Z,q,rfl⟩,BJ⟩;obtain ⟨y1,y2,y3⟩:=BK x (by rw [es];simp)
    refine ⟨_,rfl,fun F2 BU => ?_⟩;have y3:=BJ _ _ y3;have hn:L*R<=6*6:=EN h0.2 h1.2;have C1 : 1*1<=L*R:=EN h0.1 h1.1;obtain ⟨z1,z2⟩:=ee (P:=P) (by lia) y2
    walk_at "st";refine yq (by lia) hP h0.2 h1.2 y1 y2 y3 fun C2 BL => ?_
    have y3:=BL _ _ y3;walk_at "st";refine qp (by lia) ⟨by lia,by lia⟩ h0.2 h1.2 y1 y2 y3 fun C3 C4 BV C5 BW => ?_
    refine ⟨dA (by lia), ?_⟩
    rw [<- HN];refine vM (by lia) hP (by lia) (by lia) z2 BW fun d keys C6 hK ed BX => ?_
    have C7:=tJ (P:=P) (n:=L*R) (tbs P (L*R) R x.1 x.2.2);refine tK (by lia) hP (by lia) hK.len ed ?_
    walk_at "st";refine ⟨_,rfl,_,rfl, ?_⟩;rw [if_neg (by decide)]
    refine ⟨_,rfl,_,rfl, ?_⟩;rw [if_neg (by decide)]
    walk_at "wp";rw [if_neg (by simp)]
    refine BU _ _ ⟨⟨_,_,_,_,_,rfl⟩,BJ.trans (BL.trans (BV.trans BX))⟩
   ·rintro ρ M10 ⟨⟨O,U,Y,Z,q,rfl⟩,BJ⟩;dsimp only;walk_at "wp";exact hF _ _ ⟨_,_,_,_,_,_,_,_,_,_,rfl⟩
 ·rintro ρ M1 ⟨o1,o2,o3,o4,o5,O,U,Y,Z,q,rfl⟩;dsimp only;walk_at "st"
end K41
end
end
end Mi
end L2
namespace PySem.W.Fast
theorem tw4119317247136373490:True:=trivial
theorem tw14087300101722154874:True:=trivial
theorem tw12816936496543476202:True:=trivial
theorem tw5578767536787093922:True:=trivial
theorem tw14538700812994350189:True:=trivial
theorem tw13409074694467698859:True:=trivial
theorem tw4689853981840304001:True:=trivial
theorem tw13030062689346576714:True:=trivial
theorem tw3532523127381328594:True:=trivial
theorem tw491334094755578631:True:=trivial
theorem tw17213363096333225151:True:=trivial
theorem tw8155860846653370530:True:=trivial
theorem tw13306619693834057474:True:=trivial
theorem tw14615774500494312065:True:=trivial
theorem tw7565019781703558175:True:=trivial
theorem tw5115640919263975670:True:=trivial
theorem tw5786500413853253711:True:=trivial
theorem tw4820501230663618031:True:=trivial
theorem tw16161581379363572086:True:=trivial
theorem tw15697853118273281446:True:=trivial
theorem tw4700490908683789845:True:=trivial
theorem tw14292797044495551118:True:=trivial
theorem tw8721027183923183223:True:=trivial
theorem tw14263309896760096493:True:=trivial
theorem tw11887314239790498337:True:=trivial
theorem tw16710582463776083504:True:=trivial
theorem tw15692295586143686517:True:=trivial
theorem tw3411447195387526330:True:=trivial
theorem tw12306661033239327908:True:=trivial
theorem tw14204232732501950822:True:=trivial
theorem tw14049749373129984377:True:=trivial
theorem tw3964058118745298320:True:=trivial
theorem tw5038580558752458314:True:=trivial
theorem tw11823936652196651100:True:=trivial
theorem tw14176798836984142522:True:=trivial
theorem tw537534013020035515:True:=trivial
theorem tw7874167707040326634:True:=trivial
theorem tw14727496677439470333:True:=trivial
theorem tw7636743355812790157:True:=trivial
theorem tw10019256251513112293:True:=trivial
theorem tw3896413790559597531:True:=trivial
theorem tw7059201686792916814:True:=trivial
theorem tw5558075529607757678:True:=trivial
theorem tw8461055457931272587:True:=trivial
theorem tw4249940815939089698:True:=trivial
theorem tw14738101780248835326:True:=trivial
theorem tw9459421504288636302:True:=trivial
theorem tw17283146093282050447:True:=trivial
theorem tw14833232637076581680:True:=trivial
theorem tw12107327349758002841:True:=trivial
theorem tw17632686434920908626:True:=trivial
theorem tw17580336849001341651:True:=trivial
theorem tw3521901790645646883:True:=trivial
theorem tw15122547973254259084:True:=trivial
theorem tw3076153447402012793:True:=trivial
theorem tw3865804749422985394:True:=trivial
theorem tw13477031254701950864:True:=trivial
theorem tw6047681003172253393:True:=trivial
theorem tw17724459005095910923:True:=trivial
theorem tw16963089652359006636:True:=trivial
theorem tw6340818922954382952:True:=trivial
theorem tw14494097950734349667:True:=trivial
theorem tw8137462764714449312:True:=trivial
theorem tw1327357783229544076:True:=trivial
theorem tw3800061300531263340:True:=trivial
theorem tw11654921919386318847:True:=trivial
theorem tw16881590042666288824:True:=trivial
theorem tw9039632250236131876:True:=trivial
theorem tw4131199494968246249:True:=trivial
end PySem.W.Fast
open PySem.W in
set_option maxRecDepth 100000 in
set_option maxHeartbeats 0 in
theorem PySem.Challenge.cw_fewtimes_k41_pairs_and_spans_holds : PySem.Challenge.rw_fewtimes_k41_pairs_and_spans.Holds := by
 w_on;o_law;k_head;(case hw=>w_witness2)
 k_fill
 refine L2.Mi.K41.walk (l:=PySem.Challenge.rw_fewtimes_k41_pairs_and_spans) rfl rfl L2.Mi.K41.law_holds (fun w h Y=>PySem.W.kIn_of Y) ?F
 case F =>
  intro w mg fa h KX G hmg;refine' L2.Mi.K41.all_mk KX G hmg ?z ?_ ?_ ?_ ?_ ?_ ?_ ?_ ?_ ?_ ?_ ?_ ?_ ?_ ?_ ?_ ?_ ?_ ?_ ?_ ?_ ?_ ?_ ?_ ?_ ?_ ?_ ?_ ?_ ?_ ?_ ?_ ?_ ?_ ?_ ?_ ?_ ?_ ?_ ?_ ?_ ?_ ?_ ?_ ?_ ?_ ?_ ?_ ?_ ?_ ?_ ?_ ?_ ?_ ?_ ?_ ?_ ?_ ?_ ?_ ?_ ?_ ?_ ?_ ?_ ?_ ?_ ?_ ?_ ?_ ?_ ?_ ?_ ?_ ?_ ?_ ?_ ?_ ?_ ?_ ?_ ?_ ?_ ?_ ?_ ?_ ?_ ?_ ?_ ?_ ?_ ?_ ?_ ?_ ?_ ?_ ?_ ?_ ?_ ?_ ?_ ?_ ?_ ?_ ?_ ?_ ?_ ?_ ?_ ?_ ?_ ?_ ?_
  case z =>
   intro x hx;simp only [L2.Mi.bltNames,List.mem_cons,List.not_mem_nil,or_false] at hx
   rcases hx with rfl | rfl | rfl | rfl | rfl | rfl | rfl | rfl | rfl | rfl | rfl | rfl | rfl | rfl | rfl | rfl | rfl | rfl | rfl | rfl <;> k_is
  all_goals try (show _=_;k_is)
