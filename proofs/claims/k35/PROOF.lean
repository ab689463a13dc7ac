import PyProof.Rows.All
import Wide.All
import OpenK.AllK
import Wide.FinOn
import Lean
import PyProof.EqAt
import PyProof.EqKinds
import PyProof.TupleCall
import PyProof.ZipIter
import PyProof.EnumMake
import PyProof.EnumFor
import PyProof.CollectIter
import PyProof.TupleKey
import PyProof.DictRoadsH
import PyProof.P3Eq
import PyProof.Rows.SeqMore
import PyProof.ConsumeWalk
import PyProof.Rows.SortShellK
import PyProof.DictItems
import PyProof.DictWalks
import PyProof.AttrMissHeap
import PyProof.DictIter
import PyProof.MaxThree
import PyProof.SeqI3
import PyProof.DictTruth
import PyProof.Rows.TupDisplay
import PyProof.ListCopy
import PyProof.NeKinds
import PyProof.RaisesDict
import KE.KDictOf
import PyProof.Rows.CallKwBuiltin
import PyProof.DelItemList
import PySem.Challenge.RW_fewtimes_k35_flips
set_option Elab.async false
set_option linter.all false
set_option compiler.extract_closed false
set_option genSizeOf false
set_option bootstrap.genMatcherCode false
set_option maxRecDepth 100000
set_option maxHeartbeats 4000000
open PySem.W (Frag)
open PySem renaming wpAny_bind → b3, Value → e7, Shared → g6, wpAny_pure → gV, sizeLine_eq → tv, sizeLine → D0, wpAny → Ee, model → El, Program → Er, starEach → Et, wpAny_setField_rec → Ex, wpAny_call_entry → EG, World → EH, Around → EK, wpAny_field → ER, wpAny_callSpecial?_slot → ET, Comprehension → F6, wpAny_seqItems → Ff, PyData → Fg, mainGlobals → Fo, wpAny_newObj_type → Fs, compareOp → Ft, Paired → FG, mem_of_lookup → FI, wpAny_holding → FO, binaryOp → FP, wpAny_rule → FU, wpAny_pyIter_tuple → FV, cLine → G0, sliceBounds → G3, sysModules → G6, wpAny_mono → G7, assignEach → G8, wpAny_truthy_bool → Gh, foldedSetIterable → Gi, cellsFrom → Gj, wpAny_pyIter_list → Gk, wpAny_loadPart' → Gm, bootBuiltins → Gs, swappedStores → Gx, wpAny_passesOwn → GG, Builtin → GI, IsPair → GO, NameKind → GU, wpAny_letGo → H0, wpAny_Call_Name_kw → H9, wpAny_standAt → Hh, swapsWithSole → Hi, backTo → Hk, pyNext → Hl, FuncData → Ht, storedH → HA, wpAny_isInstance → HB, behindInMarks → HG, atKey → HK, wpAny_attempt → HM, Reads → HN, intKind → HR, codeAny → HS, swapsWith → I8, Model → Ib, wpAny_tryCatch → Ip, atKey_none_of_get → Ir, wpAny_forIn_list → Iz, DictEntry → IC, plainId_quiet → IQ, richCompare → IT, wpAny_of_eq → IU, wpAny_updateSeq_pair → IV, letOwnedTupleGo → J0, wpAny_specialOf → J4, wpAny_ite_false → J6, codeAny_builtin → J8, standAt → Jd, codeAny_mono → Je, rawInt → Jp, firstArgMember → Jv, wpAny_newTuple → Jw, ReadsAll → Jy, wpAny_binaryOp_repeat_ref → JG, getItem → JO, IsZip → JQ, wpAny_getItem_list_slice → JR, attributeBase → JS, wpAny_comprehension_free → JU, wpAny_onRaise → JV, noFill_tuple_add → JZ, seqItems? → K0, pyIter → Ke, IsPart → Kf, typeIs_int → Kh, Keyword → Ki, call_meets → Kj, IsEnum → Kk, wpAny_execs_nil → Kr, pushCells_keeps → Kx, wpAny_updateSeq → KD, isSubtype_tuple_tuple → KG, builtinLookup_eq_fast → KJ, newFunctionEnv → KR, ZipApart → KS, isSubtype_stop → KW, carriedByValue → KZ, isSubtype_type → L5, codeAny_call_builtin → L6, dictSetDefault → La, tupleKind → Lg, callerA → Lh, valueAt → Li, eqIsQuiet → Lj, assignInOrder → Lq, seq_tuple_add → Lr, evalPart_none → Ls, wpAny_newList → Lv, foldedForSure → LB, wpAny_getItem_heap → LL, tupleKind_room_in1 → LM, wpAny_setItem_heap → LN, argsOk → LQ, setItem → LW, Operator → LY, BindsTo → Mc, concat_meets → Md, wpAny_sequenceKey → Me, wpAny_typeOf → Mf, seqIndex_neg → Mg, wpAny_pyIter_enum → Mn, eqIsQuiet_byValue → Mp, wpAny_pyIter_slot → Mv, wpAny_collect_seq → Mw, slicePick → MN, pushCells → MQ, wpAny_pyIter_zip → MV, IsEnumOut → MW, checkBuiltinCall → N5, seqIndex_of → Nf, keywordEach → Ng, storedH_new → Nl, builtinsNs → NA, wpAny_Name → NB, bindName → ND, Result → NF, wpAny_call → NG, bindL → NH, bindC → NI, call → NM, reduceHash → NO
open PySem.Heap renaming get?_push_of_some → g0, get?_push_size → D1, lt_size → Ed, size_push → Fx, SameBut → FC, get?_update_other → FE, get?_update_self → GB, get?_push_cases → IW, get?_update_ne → Jc, IsTuple → Jg, IsList → KY, ExtBut → Nh
open Bool renaming and_eq_true → g8, false_ne_true → D2, false_eq_true → EV, not_eq_true' → G2, not_eq_true → IE, not_true → IP, and_eq_true_iff → IX, false_or → JT, or_eq_true → Kz
open List renaming getElem?_eq_getElem → h7, getElem?_append_right → hH, getElem?_eq_some_iff → o7, pairwise_append → q7, length_append → r4, size_toArray → E9, mem_append → Ea, mem_cons → Eb, getElem?_append_left → Ef, length_map → Eg, append_assoc → Ei, replicate → Em, getElem?_map → Eo, mem_append_right → Ep, not_mem_nil → Eu, map_cons → Ew, toList_toArray → Ey, mem_cons_of_mem → Ez, mem_map → EA, range → ED, length_take → EE, mem_of_getElem? → EI, length_eq_zero_iff → EL, length_pos_iff → EX, filter_append → EY, drop_eq_getElem_cons → F7, append_nil → F8, flatten_cons → Fc, mem_cons_self → Fl, mem_filter → Fm, replicate_succ → Fp, take_append_drop → Fq, mem_append_left → Fu, getD_eq_getElem?_getD → Fy, map_append → FA, mem_map_of_mem → FJ, flatMap_append → FK, pairwise_map → FN, length_nil → FR, find?_cons → FT, length_cons → FW, filter_cons_of_neg → FY, filter_cons_of_pos → FZ, eraseIdx_eq_take_drop_succ → G5, all_cons → Gb, mem_iff_getElem → Gd, getElem?_of_mem → Gg, dropLast_concat_getLast → Gp, flatten_append → Gr, drop_eq_nil_of_le → Gv, lookup_cons → Gy, Perm → Gz, length_filter_le → GC, pairwise_flatMap → GD, getElem?_mapIdx → GJ, flatMap_cons → GK, filterMap_cons_none → GP, filterMap_cons_some → GQ, getElem?_cons_succ → GX, length → GZ, getElem?_set_self → H8, take_of_length_le → Hc, nodup_cons → Hd, forIn_cons → Hf, perm_append_comm → Hn, ext_getElem? → Hq, length_range → Hr, zipWith → HC, mem_reverse → HD, mem_flatMap → HE, getElem?_take_of_lt → HH, getElem?_drop → I0, eraseIdx_append_of_length_le → Ia, map_nil → Ii, drop_drop → Il, extract → Im, reverse_perm → Io, nodup_append → Iu, length_singleton → Iv, length_drop → IA, foldl → IB, all_eq_true → IK, any_cons → IM, getElem?_set_ne → IS, mem_of_mem_drop → IY, mem_of_mem_take → IZ, filterMap_cons → Jb, mem_range → Jm, zip_cons_cons → Js, pairwise_cons → JB, pairwise_iff_getElem → JH, getElem?_eq_none_iff → JI, getElem?_replicate → JY, zipIdx_cons → K1, getElem_mem → K7, getElem?_cons_zero → Ka, filter_eq_nil_iff → Kn, map_map → Ko, of_mem_zip → Ks, foldl_cons → Ku, nil_append → Kv, pairwise_reverse → KH, set_append_right → KI, forIn_nil → KU, drop_left → L4, nodup_nil → L9, getElem?_range → Lm, length_reverse → Ln, map_eq_nil_iff → Lo, zip_eq_zipWith → Lp, Pairwise → Lx, mem_filterMap → LD, filterMap_map → LH, mem_singleton → LR, set_cons_zero → LU, set_cons_succ → LV, take_add_one → Mr, getElem?_inj → MB, drop_length → MX, map_snd_zip → N4, map_zipWith → Na, zipIdx_nil → Nu, map_const' → Ny
open PyProof.Rows renaming wpS_bind → r3, Keyed → u2, pendingOf → Ek, arrOf → EM, wpS_forRange → F4, SortSt → F5, kindOf → FH, slot_tuple_getitem → G4, wpS_modify → G9, failedOf → Gq, callWith_type1 → Gu, SortKind → HP, IntsAre → HU, wpS_get → HW, setPending → HZ, mem_zip_self → Jj, assignInOrder_cons → Jo, AllBare → JM, seqSlot_of → K5, subscriptTail_builtinR → Kg, get?_update_seq → KA, envOfC → KN, entry_tuple_getitem → Lk, subscriptTail → Lu, listUpdate_at → Lw, args_tuple_getitem → LI, assignInOrder_nil → LX, listItems_at → Mt, IsTup → Nc, keyKind'_eq → Nj, seqEpoch_at → Nk, Subscript_ → NJ, tail_any → NL, mergeAt' → NP, seqObj → NQ
open Nat renaming le_refl → Ec, lt_of_lt_of_le → EC, ne_of_lt → EN, le_trans → Fb, lt_irrefl → Fn, zero_le → Gc, min_eq_left → Gn, add_assoc → Hj, le_of_lt → Hy, ne_of_gt → Hz, sub_self → Jh, zero_add → Ji, succ_le_succ → K6, le_mul_of_pos_right → K9, mul_le_mul → Le, succ_mul → Mh, lt_succ_of_lt → Mk, lt_succ_self → MY, div_eq_of_lt → N6, not_lt → NN
open Array renaming toList_append → Eh, toList_push → Ej, length_toList → Es, getElem?_toList → EB, toList_reverse → EJ, getElem?_eq_getElem → Fj, toList_extract → Gf, size_append → Ho, toList_inj → IH, map → II, size_push → J7, forIn_toList → Jx, toList_setIfInBounds → JC, toList → Kd, all_eq_true → Mu, filterMap → Nx
open PySem.NameKind renaming free → EF, cell → Ga
open PySem.W renaming mg_of → EO, kia_one → Fz, fnOf → Ha, keepIn → Hu, kitx_list → Ic, kitx_dict → Ie, cellsFrom_some → Ig, nsIn → Ik, codeIn → Jr, methodObj → JL, instObj → Kq, OpenLaw → Kw, lookIn → KL, kitAny → L7, kitx_float → LF, kitx_tuple → LG, kitx_none → LZ, kitx_bool → Ma, plainGet → MD, kitx_int → MJ, kitx_str → MK
open PySem.Value renaming ref → ES, type → Fk, none → Hs, int → Iw, bool → Jl, isInt → JJ, isInt_shape → JK, notImplemented → KO, str → Lf, float → Nb
open PySem.PyData renaming canLayAll0 → EU, eqv → EW, depthAll → F9, depth → FF, eqvAll → FQ, canLay0 → Hw, int → Jz, list → Ni
open List.Perm renaming append_left → EZ, append_right → Fd, of_eq → Hg, refl → JD
open PySem.Str renaming ofString → Fe
open Int renaming toNat_natCast → Fh, eq_ofNat_of_zero_le → GY, emod_lt_of_pos → I7, emod_nonneg → Ja, natCast_mul → Nv
open PySem.Builtin.Tuple renaming tupleHashOf → Fi, tupleExact → GN, tupleCompareSizes → GR, tupleItemsOf → Hv, tupleIsExact → Ju, tupleTooMany → JA
open True renaming intro → Fv
open Option renaming some → FL, isSome_iff_exists → GL, map_eq_some_iff → Hb, map_some → HV, bind_some → IF, getD_some → K8, isSome_some → LK, getD_none → MM, join_some → N7, bind_none → N8, join_none → N9
open PySem.F renaming plain_min_loop → FX, slot_tuple_iterator_next → GA, slot_enumerate_next → Hm, args_tuple_add_2 → HI, entry_tuple_add → I9, slot_tuple_add → Ih, entry_min_loop → IJ, slot_int_rmul → J1, args_tuple_iterator_next_1 → J2, slot_zip_next → J3, slot_dict_setdefault → J9, entry_tuple_iterator_next → Jf, args_enumerate_next_1 → K2, entry_enumerate_next → Kl, slot_dict_items_iter → Km, args_int_rmul_2 → Mj, args_zip_next_1 → Ml, slot_tuple_hash → Mo, slot_dict_items → Mx, entry_int_rmul → MP, entry_zip_next → MR, fills_int_mul → Nt, slot_tuple_lt → Nw
open PySem.SeqAt renaming readOf → G1, readOf_eq → GH, eqAt_reads → MZ
open PySem.Paired renaming length → Gw
open PySem.Builtin.Slice renaming slicePlaces → GF, sliceAdjust → HF, sliceApplied → Jt
open PySem.Heap.SameBut renaming update → GS
open LawfulBEq renaming eq_of_beq → GW
open PySem.Shared renaming heap → H4
open ForInStep renaming yield → He
open PySem.Around renaming under_plainId → Hx, in1_handled → LP
open PySem.Builtin.List renaming listTooLong → HJ, listFitsIndex → JF
open List.Pairwise renaming imp_of_mem → HQ, nil → JP
open List.cons renaming injEq → HX
open PySem.Obj renaming mapSeq → HY, data_mapDictKeys → Lb, data_mapFields → LO
open PySem.Calls renaming callWith_builtin → Ij, Name_function_global → Jn, spliced_cons → Jq, evalArgs_plain → KP, spliced_nil → Mb
open PySem.Builtin.Dict_items renaming pairFromOwner → Iq, isOneOf → JE
open PyProof.Rows.IsTup renaming new → Iy
open And renaming intro → ID
open PyProof.Rows.SortSt renaming mk' → IG
open PySem.Builtin.Builtins renaming bindParams → Jk
open PySem.Data renaming fields → JN, seq → KQ
open PySem.Env renaming blockKind → JW, kindOf → LS
open Prod.mk renaming injEq → JX
open Sum renaming inl → Kb, inr → Kc
open ToString renaming toString → L8
open PySem.Expr renaming Subscript → Lc, Attribute → Ld, Constant → Ly, ListComp → Lz, UnaryOp → Mz, Compare → MA, BoolOp → Nm, BinOp → NR, IfExp → NS, Tuple → NT, Slice → NU, Name → NX, List → NY, Call → NZ, Dict → O0
open PySem.Builtin.Int renaming intBits → Ll
open PySem.Stmt renaming Continue → LA, Assign → Np, Delete → Nq, Return → Nr, While → NV, Break → NW, Expr → O1, Pass → O6
open Sum.inr renaming injEq → LC
open PySem.Heap.IsSliceOf renaming new → LJ
open PySem.Heap.IsTuple renaming push → Mm
open Option.some renaming injEq → Mq
open Exists renaming intro → Ms
open MonadExcept renaming tryCatch → My
open PySem.Heap.IsList renaming push → MU
open Iff renaming rfl → Nz
namespace L2
open PySem PySem.Spec PyProof.Rows
section
noncomputable abbrev Key:=Sum Int Str
noncomputable def eV:Key->e7->Bool
 | .inl k,v=>JJ k v
 | .inr x,v=>Value.isStrOf x v
noncomputable def Bp (w:EH):Key->Int
 | .inl k=>hashInt k
 | .inr x=>hashStr w x
theorem aP:∀ {k:Key} {v:e7},eV k v=true->(∃ i t,k=Kb i/\v=Iw i t)∨(∃ x t,k=Kc x/\v=Lf x t)
 | .inl i,v,h=>by
  obtain ⟨t,e⟩:=JK (k:=i) (v:=v) h;exact .inl ⟨i,t,rfl,e⟩
 | .inr x,v,h=>by
  obtain ⟨t,e⟩:=Value.isStrOf_shape (x:=x) (v:=v) h;exact .inr ⟨x,t,rfl,e⟩
theorem qK (i:Int) (t:Tok):eV (.inl i) (.int i t)=true:=by simp [eV,JJ]
theorem qL (x:Str) (t:Tok):eV (.inr x) (.str x t)=true:=by simp [eV,Value.isStrOf]
theorem yP (a b:Int):decide ((Kb a:Key)=Kb b)=(a==b):=by
 by_cases e:a=b
 ·subst e;simp
 ·have h : ¬ (Kb a:Key)=Kb b:=fun q=>e (Kb.inj q);rw [decide_eq_false h];exact (beq_eq_false_iff_ne.mpr e).symm
theorem yQ (a b:Str):decide ((Kc a:Key)=Kc b)=decide (a=b):=by
 by_cases e:a=b
 ·subst e;simp
 ·have h : ¬ (Kc a:Key)=Kc b:=fun q=>e (Kc.inj q);rw [decide_eq_false h,decide_eq_false e]
theorem yR (a:Int) (b:Str):decide ((Kb a:Key)=Kc b)=false:=decide_eq_false (fun q=>nomatch q)
theorem yS (a:Str) (b:Int):decide ((Kc a:Key)=Kb b)=false:=decide_eq_false (fun q=>nomatch q)
noncomputable def aS (prog:Er) (w:EH):PySem.KeyKind prog w Key where
 is:=eV
 hash:=Bp w
 inj:=fun v a b ha hb=>by
  rcases aP ha with ⟨i,t,rfl,rfl⟩ | ⟨x,t,rfl,rfl⟩
  ·rcases aP hb with ⟨j,u,rfl,e⟩ | ⟨y,u,rfl,e⟩
   ·injection e with e1 _;rw [e1]
   ·exact nomatch e
  ·rcases aP hb with ⟨j,u,rfl,e⟩ | ⟨y,u,rfl,e⟩
   ·exact nomatch e
   ·injection e with e1 _;rw [e1]
 byValue:=fun k v h=>by
  rcases aP h with ⟨i,t,rfl,rfl⟩ | ⟨x,t,rfl,rfl⟩ <;> rfl
 pyHash:=fun hv h=>by
  rcases aP hv with ⟨i,t,rfl,rfl⟩ | ⟨x,t,rfl,rfl⟩
  ·exact wpAny_pyHash_int h
  ·exact wpAny_pyHash_str h
 eqBool:=fun hu hv h=>by
  rcases aP hu with ⟨i,t,rfl,rfl⟩ | ⟨x,t,rfl,rfl⟩
  ·rcases aP hv with ⟨j,u,rfl,rfl⟩ | ⟨y,u,rfl,rfl⟩
   ·rw [yP] at h;exact wpAny_eqBool_int h
   ·rw [yR] at h;exact SeqAt.EqAt.int_str i t y u _ _ _ _ h
  ·rcases aP hv with ⟨j,u,rfl,rfl⟩ | ⟨y,u,rfl,rfl⟩
   ·rw [yS] at h;exact SeqAt.EqAt.str_int x t j u _ _ _ _ h
   ·rw [yQ] at h;exact wpAny_eqBool_str h
 «strs» := fun k x t v h=>by
  rcases aP h with ⟨i,u,rfl,e⟩ | ⟨y,u,rfl,e⟩
  ·exact nomatch e
  ·injection e with e1 _
   subst e1
   cases v <;> rfl
theorem nC (prog:Er) (w:EH) (i:Int) (t:Tok):(aS prog w).is (.inl i) (.int i t)=true:=qK i t
theorem nD (prog:Er) (w:EH) (x:Str) (t:Tok):(aS prog w).is (.inr x) (.str x t)=true:=qL x t
end
section
inductive V where
 | non | bl (b:Bool) | int (i:Int) | str (x:Str) | byt (b:Array UInt8) | flt (b:UInt64) | ref (a:Addr) | ty (n:String)
 deriving DecidableEq
noncomputable def RelV:V->e7->Prop
 | .non,u=>u=Hs
 | .bl b,u=>u=Jl b
 | .int i,u => ∃ t,u=Iw i t
 | .str x,u => ∃ t,u=Lf x t
 | .byt b,u => ∃ t,u=Value.bytes b t
 | .flt b,u => ∃ t,u=Nb b t
 | .ref a,u=>u=ES a
 | .ty n,u=>u=Fk n
noncomputable abbrev Vals:List V->List e7->Prop:=FG RelV
theorem Vals.length {xs:List V} {us:List e7} (r:Vals xs us):xs.length=us.length:=Gw r
theorem Vals.get:∀ {xs:List V} {us:List e7} {i:Nat} {x:V},Vals xs us->xs[i]? = some x -> ∃ u,us[i]? = some u/\RelV x u
 | _,_,_,_, .nil,e=>by simp at e
 | _,_,0,_, .cons r _,e=>by simp at e;subst e;exact ⟨_,rfl,r⟩
 | _,_,i+1,x, .cons _ t,e=>by
   obtain ⟨u,h1,h2⟩:=Vals.get (i:=i) (x:=x) t (by simpa using e)
   exact ⟨u,by simpa using h1,h2⟩
theorem Vals.set {x:V} {u:e7} (r:RelV x u):∀ {xs:List V} {us:List e7} (i:Nat),Vals xs us->Vals (xs.set i x) (us.set i u)
 | _,_,_, .nil => .nil
 | _,_,0, .cons _ t => .cons r t
 | _,_,i+1, .cons q t => .cons q (Vals.set r i t)
theorem Vals.append:∀ {xs ys:List V} {us ws:List e7},Vals xs us->Vals ys ws->Vals (xs++ys) (us++ws)
 | _,_,_,_, .nil,s=>s
 | _,_,_,_, .cons r t,s => .cons r (Vals.append t s)
theorem Vals.take:∀ {xs:List V} {us:List e7} (n:Nat),Vals xs us->Vals (xs.take n) (us.take n)
 | _,_,0,_ => .nil
 | _,_,_+1, .nil => .nil
 | _,_,n+1, .cons r t => .cons r (Vals.take n t)
theorem Vals.drop:∀ {xs:List V} {us:List e7} (n:Nat),Vals xs us->Vals (xs.drop n) (us.drop n)
 | _,_,0,r=>r
 | _,_,_+1, .nil => .nil
 | _,_,n+1, .cons _ t=>Vals.drop n t
noncomputable def RelO:Option V->Option e7->Prop
 | some v,some u=>RelV v u
 | none,none=>True
 | _,_=>False
noncomputable def KV {κ:Type}:List (κ × V)->List (κ × e7)->Prop:=FG fun (p : κ × V) (q : κ × e7)=>p.1=q.1/\RelV p.2 q.2
noncomputable def kV:Key->V
 | .inl i => .int i
 | .inr x => .str x
inductive HO where
 | lst (xs:List V)
 | tup (xs:List V)
 | dK (kvs:List (Key×V)) | dT (kvs:List (List Key×V))
 | set (S:Int->Bool) (n:Nat)
 | ins (C dx:Addr) (fs:List (Str×V))
 | own (x:Addr)
 | xd (fs:List (Str×V))
 | met (f x:Addr)
 | rng (lo hi:Int)
 | frz (o:Obj) (u:HO)
 | tbl (ps:Array e7)
 | ext (φ:Heap->Prop)
noncomputable abbrev Hp:=Addr->Option HO
noncomputable def upd (H:Hp) (a:Addr) (o:HO):Hp:=fun b=>if b=a then some o else H b
theorem ar {H:Hp} {a:Addr} {o:HO}:upd H a o a=some o:=by unfold upd;rw [if_pos rfl]
theorem ak {H:Hp} {a b:Addr} {o:HO} (h:b≠a):upd H a o b=H b:=by unfold upd;rw [if_neg h]
theorem Ay {H:Hp} {a b:Addr} {o u:HO} (h:H a=some o) (h':H b=some u) (d:o≠u):a≠b:=by
 intro e;subst e;rw [h] at h';exact d (FL.inj h')
theorem aQ {H:Hp} {a b:Addr} {o:HO} (h:H a=some o) (h':H b=none):a≠b:=by
 intro e;subst e;rw [h] at h';cases h'
section
variable (P:Er) (w:EH)
noncomputable def ObjOk (H:Hp) (h:Heap) (a:Addr):HO->Prop
 | .lst xs=>xs.length<=D0 /\ ∃ (its:List e7) (n:Nat),Vals xs its/\h.get? a=some { cls := .type "list",data := .seq its.toArray n }
 | .tup xs=>xs.length<=D0 /\ ∃ its:List e7,Vals xs its/\Nc h a its.toArray
 | .dK kvs=>kvs.length<=D0/\(a==G6)=false /\ ∃ vs,KV kvs vs/\h.DictOf (aS P w) a vs
 | .dT kvs=>kvs.length<=D0/\(a==G6)=false /\ ∃ xs:List (List Key×Addr×e7),
  FG (fun (p:List Key×V) (q:List Key×Addr×e7)=>p.1=q.1/\H q.2.1=some (.tup (p.1.map kV))/\RelV p.2 q.2.2) kvs xs /\
  ∃ o es ep,h.get? a=some o/\o.ExactDict/\o.data = .dict es ep/\es.toList=xs.map (entryOfKey (Lg (aS P w)))/\(xs.map (·.1)).Nodup
 | .set S n=>h.SetOf (HR P w) a S n
 | .ins C dx fs=>H dx=some (.own a)/\fs.length<=1000/\dx≠a/\h.get? a=some (Kq C dx) /\
  ∃ mA,h.Ns1 dx mA/\(∀ f,RelO (fs.lookup f) (mA f))/\PySem.Within mA (fs.map (·.1))
 | .own _ => ∃ o,h.get? a=some o
 | .xd fs => ∃ mA,h.Ns1 a mA /\ ∀ f,RelO (fs.lookup f) (mA f)
 | .rng lo hi => ∃ t u v,h.get? a=some { cls := .type "range",data := .fields #[.int lo t, .int hi u, .int 1 v] }
 | .frz o u=>h.get? a=some o/\ObjOk H h a u
 | .tbl ps=>h.get? a=some { cls := .none,data := .fields ps }
 | .met f x=>h.get? a=some (JL (.ref f) (.ref x))
 | .ext φ => φ h/\(∃ o,h.get? a=some o) /\ ∀ h1 h2:Heap, φ h1->(∀ o,h1.get? a=some o->h2.get? a=some o) -> φ h2
def HOk (H:Hp) (h:Heap):Prop := ∀ a o,H a=some o->ObjOk P w H h a o
end
section
variable {P:Er} {w:EH} {H H':Hp} {h h':Heap} {a:Addr} {o:HO}
theorem ObjOk.lt (x:ObjOk P w H h a o):a < h.objs.size:=by
 cases o with
 | lst xs=>obtain ⟨_,_,_,_,e⟩:=x;exact Ed e
 | tup xs=>obtain ⟨_,_,_,p⟩:=x;exact p.lt
 | dK kvs=>obtain ⟨_,_,_,_,o,_,_,e,_⟩:=x;exact Ed e
 | dT kvs=>obtain ⟨_,_,_,_,o,_,_,e,_⟩:=x;exact Ed e
 | set S n=>obtain ⟨o,_,_,_,e,_⟩:=x;exact Ed e
 | ins C dx fs=>obtain ⟨_,_,_,e,_⟩:=x;exact Ed e
 | own y=>obtain ⟨_,e⟩:=x;exact Ed e
 | xd fs=>obtain ⟨_,⟨_,_,_,e,_⟩,_⟩:=x;exact Ed e
 | rng lo hi=>obtain ⟨_,_,_,e⟩:=x;exact Ed e
 | frz ob u=>obtain ⟨e,_⟩:=x;exact Ed e
 | tbl ps=>exact Ed (show h.get? a=some _ from x)
 | met f y=>exact Ed (show h.get? a=some _ from x)
 | ext φ => obtain ⟨_,⟨_,e⟩,_⟩:=x;exact Ed e
theorem Ob {α β:Type} {F G : α -> β -> Prop}:∀ {l₁:List α} {l₂:List β},FG F l₁ l₂ -> (∀ a b,F a b->G a b)->FG G l₁ l₂
 | _,_, .nil,_ => .nil
 | _,_, .cons r t,f => .cons (f _ _ r) (Ob t f)
theorem ObjOk.stay (x:ObjOk P w H h a o) (k:∀ b u,(b=a∨H b=some (.own a))->h.get? b=some u->h'.get? b=some u)
 (ho:∀ b,H b=some (.own a)->H' b=some (.own a)) (j:∀ b xs,H b=some (.tup xs)->H' b=some (.tup xs)):ObjOk P w H' h' a o:=by
 induction o with
 | lst xs=>obtain ⟨z,its,n,r,e⟩:=x;exact ⟨z,its,n,r,k _ _ (.inl rfl) e⟩
 | tup xs=>obtain ⟨z,its,r,ob,e,c⟩:=x;exact ⟨z,its,r,ob,k _ _ (.inl rfl) e,c⟩
 | dK kvs=>obtain ⟨z,y,vs,r,ob,es,ep,e,c⟩:=x;exact ⟨z,y,vs,r,ob,es,ep,k _ _ (.inl rfl) e,c⟩
 | dT kvs =>
   obtain ⟨z,y,xs,r,ob,es,ep,e,c⟩:=x;exact ⟨z,y,xs,Ob r fun p q z=>⟨z.1,j _ _ z.2.1,z.2.2⟩,ob,es,ep,k _ _ (.inl rfl) e,c⟩
 | set S n=>obtain ⟨ob,es,ep,t,e,c⟩:=x;exact ⟨ob,es,ep,t,k _ _ (.inl rfl) e,c⟩
 | ins C dx fs =>
   obtain ⟨d,z,ne,e,mA,⟨od,es,ep,B,c⟩,r⟩:=x;exact ⟨ho _ d,z,ne,k _ _ (.inl rfl) e,mA,⟨od,es,ep,k _ _ (.inr d) B,c⟩,r⟩
 | own y=>obtain ⟨ob,e⟩:=x;exact ⟨ob,k _ _ (.inl rfl) e⟩
 | xd fs=>obtain ⟨mA,⟨od,es,ep,e,c⟩,r⟩:=x;exact ⟨mA,⟨od,es,ep,k _ _ (.inl rfl) e,c⟩,r⟩
 | rng lo hi=>obtain ⟨t,u,v,e⟩:=x;exact ⟨t,u,v,k _ _ (.inl rfl) e⟩
 | frz ob u ih=>obtain ⟨e,q⟩:=x;exact ⟨k _ _ (.inl rfl) e,ih q⟩
 | tbl ps =>
   have e:h.get? a=some { cls := .none,data := .fields ps }:=x;show h'.get? a=some { cls := .none,data := .fields ps };exact k a _ (.inl rfl) e
 | met f y =>
   have e:h.get? a=some (JL (.ref f) (.ref y)):=x;show h'.get? a=some (JL (.ref f) (.ref y));exact k a _ (.inl rfl) e
 | ext φ => obtain ⟨p,⟨o,e⟩,st⟩:=x;exact ⟨st _ _ p fun o q=>k _ _ (.inl rfl) q,⟨o,k _ _ (.inl rfl) e⟩,st⟩
theorem HOk.lt (x:HOk P w H h) (e:H a=some o):a < h.objs.size:=(x a o e).lt
theorem HOk.fresh (x:HOk P w H h) (e:h.objs.size<=a):H a=none:=by
 cases q:H a with
 | none=>rfl
 | some u=>exact absurd (EC (x.lt q) e) (Fn _)
theorem HOk.kept (x:HOk P w H h) (k:∀ b u,h.get? b=some u->h'.get? b=some u):HOk P w H h':=fun a o e =>
 (x a o e).stay (fun b u _ q=>k b u q) (fun _ q=>q) fun _ _ q=>q
theorem HOk.laid (x:HOk P w H h) (k:∀ b u,h.get? b=some u->h'.get? b=some u) (z:h.objs.size<=a) (new:ObjOk P w (upd H a o) h' a o):HOk P w (upd H a o) h':=fun b u e=>by
 have j:=x.fresh z
 by_cases hb:b=a
 ·subst hb;rw [ar] at e;cases e;exact new
 ·rw [ak hb] at e;exact (x b u e).stay (fun c v _ q=>k c v q) (fun c q=>by rw [ak (aQ q j)];exact q) fun c xs q=>by rw [ak (aQ q j)];exact q
end
def Rd (H:Hp) (a:Addr) (u:HO):Prop:=H a=some u ∨ ∃ o,H a=some (.frz o u)
theorem Rd.ok {P:Er} {w:EH} {H:Hp} {h:Heap} {a:Addr} {u:HO} (r:Rd H a u) (x:HOk P w H h):ObjOk P w H h a u:=by
 rcases r with r | ⟨o,r⟩
 ·exact x a u r
 ·obtain ⟨_,q⟩:=x a _ r;exact q
noncomputable def Mut:Option HO->Prop
 | some (.lst _)=>True
 | some (.dK _)=>True
 | some (.dT _)=>True
 | some (.set _ _)=>True
 | some (.ins _ _ _)=>True
 | some (.ext _)=>True
 | _=>False
section
variable {P:Er} {w:EH} {H:Hp} {h h':Heap} {x e:Addr} {o':HO}
theorem HOk.write (ok:HOk P w H h) (mu:Mut (H x)) (he:e=x∨H e=some (.own x)) (k:∀ b u,b≠e->h.get? b=some u->h'.get? b=some u) (F:∃ u,h'.get? e=some u)
 (new:ObjOk P w (upd H x o') h' x o'):HOk P w (upd H x o') h':=fun b u q=>by
 have nown:∀ c y,H c=some (.own y)->c≠x:=fun c y r z=>by subst z;rw [r] at mu;exact mu
 have ntup:∀ c xs,H c=some (.tup xs)->c≠x:=fun c xs r z=>by subst z;rw [r] at mu;exact mu
 by_cases hb:b=x
 ·subst hb;rw [ar] at q;cases q;exact new
 ·rw [ak hb] at q
  by_cases j:b=e
  ·have q':H b=some (.own x):=by
    rcases he with z | z
    ·exact absurd (j.trans z) hb
    ·rw [j];exact z
   rw [q] at q';cases q';obtain ⟨v,G⟩:=F;exact ⟨v,by rw [j];exact G⟩
  ·refine (ok b u q).stay (fun c v B r=>k c v ?_ r) (fun c r=>by rw [ak (nown c b r)];exact r) fun c xs r=>by rw [ak (ntup c xs r)];exact r
   rcases B with rfl | B
   ·exact j
   ·rintro rfl
    rcases he with z | z
    ·exact nown c b B z
    ·rw [B] at z;cases z;exact hb rfl
end
structure Un (fs ex:List Addr) (H H':Hp) (h h':Heap):Prop where
 keep:∀ b o,h.get? b=some o->H b=none->b∉fs->b∉ex->h'.get? b=some o
 slot:∀ b o,h.get? b=some o->H b=none->b∈fs->b∉ex -> ∃ sl,h'.get? b=some { o with slots:=sl }
 free:∀ b o,h.get? b=some o->H b=none->b∉ex->H' b=none
 there:∀ b o,h.get? b=some o->b∉ex -> ∃ o',h'.get? b=some o'
 tups:∀ b xs,H b=some (.tup xs)->H' b=some (.tup xs)
 frzs:∀ b o u,H b=some (.frz o u)->H' b=some (.frz o u)
 tbls:∀ b ps,H b=some (.tbl ps) -> ∃ more,H' b=some (.tbl (ps++more))
section
variable {fs fs' ex ex':List Addr} {H H1 H2:Hp} {h h1 h2 h':Heap} {a x e:Addr} {o:HO}
theorem Un.any (u:Un fs ex H H1 h h1) {b:Addr} {ob:Obj} (q:h.get? b=some ob) (n:H b=none) (hx:b∉ex):∃ sl,h1.get? b=some { ob with slots:=sl }:=by
 by_cases j:b∈fs
 ·exact u.slot b ob q n j hx
 ·exact ⟨ob.slots,u.keep b ob q n j hx⟩
theorem Un.kept (k:∀ b u,h.get? b=some u->h'.get? b=some u):Un fs ex H H h h' :=
 ⟨fun b ob q _ _ _=>k b ob q,fun b ob q _ _ _=>⟨ob.slots,k b ob q⟩,fun _ _ _ n _=>n,fun b ob q _=>⟨ob,k b ob q⟩,fun _ _ q=>q,fun _ _ _ q=>q,fun _ ps q=>⟨#[],by rw [q];simp⟩⟩
theorem Un.refl:Un fs ex H H h h:=Un.kept fun _ _ q=>q
theorem Un.laid (k:∀ b u,h.get? b=some u->h'.get? b=some u) (z:h.objs.size<=a) (j:H a=none):Un fs ex H (upd H a o) h h' where
 keep:=fun b u q _ _ _=>k b u q
 slot:=fun b u q _ _ _=>⟨u.slots,k b u q⟩
 free:=fun b u q n _=>by rw [ak (EN (EC (Ed q) z))];exact n
 there:=fun b u q _=>⟨u,k b u q⟩
 tups:=fun b xs q=>by rw [ak (aQ q j)];exact q
 frzs:=fun b u xs q=>by rw [ak (aQ q j)];exact q
 tbls:=fun b ps q=>⟨#[],by rw [ak (aQ q j),q];simp⟩
theorem Un.write (mu:Mut (H x)) (he:e=x∨H e=some (.own x)) (k:∀ b u,b≠e->h.get? b=some u->h'.get? b=some u) (B:∃ u,h'.get? e=some u):Un fs ex H (upd H x o) h h':=by
 have hx:∀ b,H b=none->b≠x:=fun b n z=>by subst z;rw [n] at mu;exact mu
 have F:∀ b,H b=none->b≠e:=fun b n z=>by
  subst z
  rcases he with r | r
  ·exact hx b n r
  ·rw [n] at r;cases r
 have hm:∀ b u,H b=some u -> ¬ Mut (some u)->b≠x:=fun b u q nm z=>by subst z;rw [q] at mu;exact nm mu
 refine ⟨fun b u q n _ _=>k b u (F b n) q,fun b u q n _ _=>⟨u.slots,k b u (F b n) q⟩,fun b u q n _=>by rw [ak (hx b n)];exact n,fun b u q _ => ?_,
  fun b xs q=>by rw [ak (hm b _ q fun z=>z)];exact q,fun b u xs q=>by rw [ak (hm b _ q fun z=>z)];exact q,fun b ps q=>⟨#[],by rw [ak (hm b _ q fun z=>z),q];simp⟩⟩
 by_cases j:b=e
 ·subst j;exact B
 ·exact ⟨u,k b u j q⟩
end
noncomputable def trk (h:Heap) (H:Hp):List Addr:=(ED h.objs.size).filter fun a=>(H a).isSome
noncomputable def dR (h:Heap) (H:Hp):Heap:=PySem.W.hideAll h (trk h H)
theorem qM (h:Heap) (H:Hp):(dR h H).objs.size=h.objs.size:=PySem.W.hideAll_size _ _
theorem tV {h:Heap} {H:Hp} {b:Addr} {o:Obj} (e:h.get? b=some o) (n:H b=none):(dR h H).get? b=some o :=
 PySem.W.hideAll_get _ e fun hm=>by
  have q:(H b).isSome=true:=(Fm.mp hm).2;rw [n] at q;simp at q
theorem wL {h:Heap} {H:Hp} {b:Addr} {o:Obj} (e:(dR h H).get? b=some o):h.get? b=some o/\H b=none:=by
 have e':h.get? b=some o:=PySem.W.of_hideAll (trk h H) e;refine ⟨e', ?_⟩
 cases q:H b with
 | none=>rfl
 | some x =>
   have hm:b∈trk h H:=Fm.mpr ⟨Jm.mpr (Ed e'),by simp [q]⟩
   have z:(dR h H).get? b=none:=PySem.W.hideAll_none (trk h H) hm;rw [z] at e;cases e
noncomputable def wM (g h:Heap) (L:Addr):List (Addr×Obj):=(ED h.objs.size).filterMap fun a=>if a=L∨(g.get? a).isSome=true then none else (h.get? a).map fun o=>(a,o)
noncomputable def rest (g h:Heap) (L d:Addr):List (Addr×Obj):=(wM g h L).filter fun p=>decide (p.1≠d)
end
section
structure Mod (K:Frag) (mg:Str->Option e7) (base:Heap):Prop where
 kin:K.In base
 glob:base.Ns Fo mg
 blt:∃ mb,base.Ns NA mb /\ ∀ x:Str,x ≠ "__name__" -> mb x=Gs x
 nolimit:base.NoLimit
structure Cx where
 prog:Er
 w:EH
 K:Frag
 mg:Str->Option e7
 base:Heap
 A:EK
 N:List Str
 s₀:g6
 H₀:Hp
 env:Env
 outer:List Env
 stack:List Env
 ex:List Addr
 fn:Str->Bool
 calm:Bool
 pn:List (Addr×Obj)
 xe:e7->g6->Prop
noncomputable def frs (l:List Env):List Addr:=l.filterMap (·.frame)
noncomputable abbrev Cx.fs (X:Cx):List Addr:=frs X.outer
def Vis (sc:Scope) (x:Str):Prop:=sc.names.lookup x=some .local∨sc.names.lookup x=some .cell∨sc.names.lookup x=some .free
def Loc (sc:Scope) (x:Str):Prop:=sc.names.lookup x=some .local∨sc.names.lookup x=some .cell
def Bq (env:Env) (h:Heap) (m:Str->Option e7) (x:Str) (u:e7):Prop :=
 (env.kindOf x=some .local/\m x=some u)∨((env.kindOf x=some .cell∨env.kindOf x=some .free) /\ ∃ c,env.cells.lookup x=some c/\h.IsCell c (some u))
structure Cx.Ok (X:Cx):Prop where
 mod:Mod X.K X.mg X.base
 kind:X.env.scope.kind = .function
 glob:X.env.globals=Fo
 blt:X.env.builtins=NA
 above:X.s₀.heap.objs.size<=X.env.locals
 inj:∀ x y c,X.env.cells.lookup x=some c->X.env.cells.lookup y=some c->x=y
 has:∀ x,(X.env.kindOf x=some .cell∨X.env.kindOf x=some .free) -> ∃ c,X.env.cells.lookup x=some c
 cab:∀ x c,X.fn x=true->X.env.cells.lookup x=some c->X.s₀.heap.objs.size<=c
 hd:X.calm=true->X.A.handled=none
 frames:X.A.frames=some X.stack
 stk:X.stack=X.outer∨(X.stack=X.env::X.outer/\X.env.frame=some X.env.locals)
 exf:∀ b∈X.ex,b≠X.env.locals /\ ∀ x c,X.env.cells.lookup x=some c->c≠b
 bs:∀ b o,X.base.get? b=some o->X.s₀.heap.get? b=some o/\X.H₀ b=none
 bsz:X.base.objs.size<=X.s₀.heap.objs.size
 noex:∀ b o,X.base.get? b=some o->b∉X.ex
 exfs:∀ b∈X.ex,b∉X.fs
 funs:X.s₀.heap.FunFrames X.base X.outer
 frf:∀ b∈X.fs,X.H₀ b=none
structure Inv (X:Cx) (pins:List (Addr×Obj)) (σ:List (Option V)) (H:Hp) (s:g6):Prop where
 ok:X.Ok
 os:s.os=X.s₀.os
 bare:JM s.gens
 base:Un X.fs X.ex X.H₀ H X.s₀.heap s.heap
 loc:∃ m,s.heap.Ns X.env.locals m /\ ∀ (i:Nat) (x:Str) (v:V),X.N[i]? = some x -> σ[i]? = some (some v)->Vis X.env.scope x -> ∃ u,RelV v u/\Bq X.env s.heap m x u
 cell:∀ x c,X.env.cells.lookup x=some c -> ∃ v,s.heap.IsCell c v
 free:H X.env.locals=none
 freeC:∀ x c,X.env.cells.lookup x=some c->H c=none
 pin:∀ p∈X.pn++pins,s.heap.get? p.1=some p.2/\H p.1=none/\p.1≠X.env.locals/\p.1∉X.fs /\ ∀ v,p.2.data ≠ .cell v
 hok:HOk X.prog X.w H s.heap
 len : σ.length=X.N.length
section
variable {X:Cx} {pins:List (Addr×Obj)} {σ:List (Option V)} {H H':Hp} {s:g6} {h':Heap}
theorem Cx.Ok.nofr (ok:X.Ok) {b:Addr} {o:Obj} (e:X.base.get? b=some o):b∉X.fs:=fun j=>by
 have:=(ok.funs.mem j).1;rw [e] at this;cases this
theorem Inv.bs (I:Inv X pins σ H s):∀ b o,X.base.get? b=some o->s.heap.get? b=some o/\H b=none:=fun b o e =>
 ⟨I.base.keep b o (I.ok.bs b o e).1 (I.ok.bs b o e).2 (I.ok.nofr e) (I.ok.noex b o e),I.base.free b o (I.ok.bs b o e).1 (I.ok.bs b o e).2 (I.ok.noex b o e)⟩
theorem Inv.bk (I:Inv X pins σ H s):∀ b o,X.base.get? b=some o->s.heap.get? b=some o:=fun b o e=>(I.bs b o e).1
theorem Inv.mod (I:Inv X pins σ H s):Mod X.K X.mg X.base:=I.ok.mod
theorem Inv.kIn (I:Inv X pins σ H s):X.K.In s.heap:=I.ok.mod.kin.keeps I.bk
theorem Inv.lt (I:Inv X pins σ H s):X.env.locals < s.heap.objs.size:=let ⟨_,j,_⟩:=I.loc;j.lt
theorem Inv.sz (I:Inv X pins σ H s):X.s₀.heap.objs.size<=s.heap.objs.size:=Fb I.ok.above (Hy I.lt)
theorem Inv.nofs (I:Inv X pins σ H s) {a:Addr} (h:s.heap.objs.size<=a):a∉X.fs:=fun j=>by
 obtain ⟨_,o,ho,_⟩:=I.ok.funs.mem j;exact absurd (EC (Ed ho) (Fb I.sz h)) (Fn _)
theorem Inv.cne (I:Inv X pins σ H s):∀ x c,X.env.cells.lookup x=some c->c≠X.env.locals:=fun x c e z=>by
 obtain ⟨v,o,ho,hd⟩:=I.cell x c e;obtain ⟨m,⟨o',es,ep,j,q,_⟩,_⟩:=I.loc;rw [z,j] at ho;cases ho;rw [q] at hd;cases hd
theorem Inv.funs (I:Inv X pins σ H s):s.heap.FunFrames X.base X.outer:=by
 have all:∀ (l:List Env),(∀ b∈frs l,b∈X.fs)->X.s₀.heap.FunFrames X.base l->s.heap.FunFrames X.base l:=by
  intro l
  induction l with
  | nil=>intro _ _;trivial
  | cons env r ih =>
    intro hs B;obtain ⟨F,⟨L,o,hf,G,ho,hd⟩,J⟩:=B;have j:L∈X.fs:=hs L (by unfold frs;rw [Jb,hf];exact Fl)
    obtain ⟨sl,e⟩:=I.base.slot L o ho (I.ok.frf L j) j fun z=>I.ok.exfs L z j;exact ⟨F,⟨L,_,hf,G,e,hd⟩,ih (fun b q=>hs b (by unfold frs;rw [Jb,hf];exact Ez _ q)) J⟩
 exact all X.outer (fun _ q=>q) I.ok.funs
theorem Inv.stack (I:Inv X pins σ H s):s.heap.FunFrames X.base X.stack:=by
 rcases I.ok.stk with e | ⟨e,hf⟩
 ·rw [e];exact I.funs
 ·rw [e];obtain ⟨m,j,_⟩:=I.loc;refine .cons (by rw [I.ok.kind];decide) hf j ?_ I.funs
  exact Heap.get?_none_of_le (Fb I.ok.bsz I.ok.above)
theorem Inv.stkSub (I:Inv X pins σ H s):∀ b∈frs X.stack,b∈X.env.locals::X.fs:=fun b j=>by
 rcases I.ok.stk with e | ⟨e,hf⟩
 ·rw [e] at j;exact Ez _ j
 ·rw [e] at j;unfold frs at j;rw [Jb,hf] at j;exact j
theorem Inv.stkFree (I:Inv X pins σ H s):∀ b∈frs X.stack,H b=none:=fun b j=>by
 rcases Eb.mp (I.stkSub b j) with e | j
 ·rw [e];exact I.free
 ·obtain ⟨_,o,ho,_⟩:=I.ok.funs.mem j;exact I.base.free b o ho (I.ok.frf b j) fun z=>I.ok.exfs b z j
theorem Inv.step {g':Array GenState} {t':Nat} {d':Drawn} {ch:List Addr} (I:Inv X pins σ H s)
 (j:∀ b∈ch,(b∈X.ex∨X.s₀.heap.objs.size<=b)/\b≠X.env.locals/\(∀ x c,X.env.cells.lookup x=some c->c≠b) /\ ∀ p∈X.pn++pins,p.1≠b)
 (keep:∀ b o,b≠X.env.locals->b∉X.fs->b∉ch->s.heap.get? b=some o->H b=none->h'.get? b=some o)
 (slot:∀ b o,b≠X.env.locals->b∈X.fs->b∉ch->s.heap.get? b=some o->H b=none -> ∃ sl,h'.get? b=some { o with slots:=sl }) (free:∀ b o,b∉ch->s.heap.get? b=some o->H b=none->H' b=none)
 (there:∀ b o,b∉ch->s.heap.get? b=some o -> ∃ o',h'.get? b=some o')
 (tups:∀ b xs,H b=some (.tup xs)->H' b=some (.tup xs)) (frzs:∀ b o u,H b=some (.frz o u)->H' b=some (.frz o u)) (tbls:∀ b ps,H b=some (.tbl ps) -> ∃ more,H' b=some (.tbl (ps++more)))
 (ns:∀ m,s.heap.Ns X.env.locals m->h'.Ns X.env.locals m) (hok:HOk X.prog X.w H' h') (O:JM g') :
 Inv X pins σ H' { s with heap:=h',gens:=g',drawn:=d',toks:=t' }:=by
 have neL:∀ b o,X.s₀.heap.get? b=some o->b≠X.env.locals:=fun b o e=>EN (EC (Ed e) I.ok.above);have neC:∀ b o,X.s₀.heap.get? b=some o->b∉X.ex->b∉ch:=fun b o e hx F=>by
  rcases (j b F).1 with z | z
  ·exact hx z
  ·exact absurd (EC (Ed e) z) (Fn _)
 have cellK:∀ x c,X.env.cells.lookup x=some c -> ∀ v,s.heap.IsCell c v->h'.IsCell c v:=fun x c e v ⟨o,ho,hd⟩=>by
  have nch:c∉ch:=fun z=>(j c z).2.2.1 x c e rfl
  by_cases J:c∈X.fs
  ·obtain ⟨sl,q⟩:=slot c o (I.cne x c e) J nch ho (I.freeC x c e);exact ⟨_,q,hd⟩
  ·exact ⟨o,keep c o (I.cne x c e) J nch ho (I.freeC x c e),hd⟩
 refine ⟨I.ok,I.os,O,⟨fun b o e n F hx => ?_,fun b o e n F hx => ?_,fun b o e n hx => ?_,fun b o e hx => ?_,fun b xs e=>tups b xs (I.base.tups b xs e),fun b o xs e=>frzs b o xs (I.base.frzs b o xs e),fun b ps e => ?_⟩, ?_,fun x c e => ?_, ?_,fun x c e => ?_,fun p L => ?_,hok,I.len⟩
 ·exact keep b o (neL b o e) F (neC b o e hx) (I.base.keep b o e n F hx) (I.base.free b o e n hx)
 ·obtain ⟨sl,B⟩:=I.base.slot b o e n F hx;obtain ⟨sl',G⟩:=slot b _ (neL b o e) F (neC b o e hx) B (I.base.free b o e n hx);exact ⟨sl',G⟩
 ·obtain ⟨o',B⟩:=I.base.there b o e hx;exact free b o' (neC b o e hx) B (I.base.free b o e n hx)
 ·obtain ⟨o',B⟩:=I.base.there b o e hx;exact there b o' (neC b o e hx) B
 ·obtain ⟨U,B⟩:=I.base.tbls b ps e;obtain ⟨Y,G⟩:=tbls b _ B;exact ⟨U++Y,by rw [G,Array.append_assoc]⟩
 ·obtain ⟨m,Z,hl⟩:=I.loc;refine ⟨m,ns m Z,fun i x v B G e3 => ?_⟩;obtain ⟨u,r,l⟩:=hl i x v B G e3;refine ⟨u,r, ?_⟩
  rcases l with l | ⟨k,c,e,z⟩
  ·exact .inl l
  ·exact .inr ⟨k,c,e,cellK x c e _ z⟩
 ·obtain ⟨v,z⟩:=I.cell x c e;exact ⟨v,cellK x c e v z⟩
 ·obtain ⟨m,⟨o,_,_,ho,_⟩,_⟩:=I.loc;exact free _ o (fun z=>(j _ z).2.1 rfl) ho I.free
 ·obtain ⟨v,o,ho,hd⟩:=I.cell x c e;exact free c o (fun z=>(j c z).2.2.1 x c e rfl) ho (I.freeC x c e)
 ·obtain ⟨e,n,ne,nf,d⟩:=I.pin p L;have nch:p.1∉ch:=fun z=>(j p.1 z).2.2.2 p L rfl;exact ⟨keep p.1 p.2 ne nf nch e n,free p.1 p.2 nch e n,ne,nf,d⟩
theorem Inv.un {t':Nat} (I:Inv X pins σ H s) (u:Un X.fs [] H H' s.heap h') (hok:HOk X.prog X.w H' h'):Inv X pins σ H' { s with heap:=h',toks:=t' }:=by
 obtain ⟨m,⟨o,es,ep,ho,r⟩,_⟩:=id I.loc;obtain ⟨sl,B⟩:=u.any ho I.free (by simp)
 exact I.step (g':=s.gens) (d':=s.drawn) (ch := []) (fun _ z=>nomatch z) (fun b o _ q _ e n=>u.keep b o e n q (by simp)) (fun b o _ q _ e n=>u.slot b o e n q (by simp)) (fun b o _ e n=>u.free b o e n (by simp)) (fun b o _ e=>u.there b o e (by simp)) u.tups u.frzs u.tbls (fun m' hm=>by
  obtain ⟨o',es',ep',j,r'⟩:=hm;rw [ho] at j;cases j;exact ⟨_,es',ep',B,r'⟩) hok I.bare
theorem Inv.call {g':Array GenState} {t':Nat} {d':Drawn} {ch:List Addr} (I:Inv X pins σ H s) (u:Un (frs X.stack) ch H H' s.heap h') (hok:HOk X.prog X.w H' h') (G:JM g')
 (q:∀ b∈ch,(b∈X.ex∨X.s₀.heap.objs.size<=b)/\b≠X.env.locals/\(∀ x c,X.env.cells.lookup x=some c->c≠b) /\ ∀ p∈X.pn++pins,p.1≠b) :
 Inv X pins σ H' { s with heap:=h',gens:=g',drawn:=d',toks:=t' }:=by
 obtain ⟨m,⟨o,es,ep,ho,r⟩,_⟩:=id I.loc;obtain ⟨sl,F⟩:=u.any ho I.free fun z=>(q _ z).2.1 rfl;exact I.step (ch:=ch) q (fun b o F J j e n=>u.keep b o e n (fun z=>(Eb.mp (I.stkSub b z)).elim F J) j) (fun b o _ _ j e n=>u.any e n j) (fun b o j e n=>u.free b o e n j) (fun b o j e=>u.there b o e j) u.tups u.frzs u.tbls (fun m' hm=>by
  obtain ⟨o',es',ep',B,r'⟩:=hm;rw [ho] at B;cases B;exact ⟨_,es',ep',F,r'⟩) hok G
theorem Inv.turned {t':Nat} {it:Addr} (I:Inv X pins σ H s) (k:∀ b o,b≠it->s.heap.get? b=some o->h'.get? b=some o) (F:H it=none) (B:it≠X.env.locals)
 (h1:it∈X.ex∨X.s₀.heap.objs.size<=it) (h2:∀ x c,X.env.cells.lookup x=some c->c≠it) (G:∀ p∈X.pn++pins,p.1≠it):Inv X pins σ H { s with heap:=h',toks:=t' }:=by
 have nit:∀ b u,H b=some u->b≠it:=fun b u e z=>by rw [z,F] at e;cases e
 refine I.step (g':=s.gens) (d':=s.drawn) (ch := [it]) (fun b J => ?_) (fun b o _ _ j e _=>k b o (fun z=>j (by simp [z])) e) (fun b o _ _ j e _=>⟨o.slots,k b o (fun z=>j (by simp [z])) e⟩) (fun _ _ _ _ n=>n)
  (fun b o j e=>⟨o,k b o (fun z=>j (by simp [z])) e⟩) (fun _ _ e=>e) (fun _ _ _ e=>e) (fun b ps e=>⟨#[],by rw [e];simp⟩) (fun m hm => ?_) (fun b u e => ?_) I.bare
 ·have e:b=it:=by simpa using J
  subst e;exact ⟨h1,B,h2,G⟩
 ·obtain ⟨o,es,ep,ho,r⟩:=hm;exact ⟨o,es,ep,k _ o (Ne.symm B) ho,r⟩
 ·refine (I.hok b u e).stay (fun c v j q=>k c v ?_ q) (fun _ q=>q) fun _ _ q=>q
  rcases j with z | z
  ·rw [z];exact nit b u e
  ·exact nit c _ z
theorem Inv.tok (I:Inv X pins σ H s) (t:Nat):Inv X pins σ H { s with toks:=t }:=I.un (h':=s.heap) (t':=t) Un.refl I.hok
theorem Inv.kept {t':Nat} (I:Inv X pins σ H s) (k:∀ b u,s.heap.get? b=some u->h'.get? b=some u):Inv X pins σ H { s with heap:=h',toks:=t' }:=I.un (Un.kept k) (I.hok.kept k)
theorem Inv.laid {a:Addr} {o:HO} {t':Nat} (I:Inv X pins σ H s) (k:∀ b u,s.heap.get? b=some u->h'.get? b=some u) (j:s.heap.objs.size<=a) (new:ObjOk X.prog X.w (upd H a o) h' a o) :
 Inv X pins σ (upd H a o) { s with heap:=h',toks:=t' }:=I.un (Un.laid k j (I.hok.fresh j)) (I.hok.laid k j new)
theorem Inv.write {x e:Addr} {o:HO} {t':Nat} (I:Inv X pins σ H s) (mu:Mut (H x)) (he:e=x∨H e=some (.own x)) (k:∀ b u,b≠e->s.heap.get? b=some u->h'.get? b=some u) (j:∃ u,h'.get? e=some u)
 (new:ObjOk X.prog X.w (upd H x o) h' x o):Inv X pins σ (upd H x o) { s with heap:=h',toks:=t' }:=I.un (Un.write mu he k j) (I.hok.write mu he k j new)
theorem Inv.pins_of {pins':List (Addr×Obj)} (I:Inv X pins σ H s) (h:∀ p∈pins',s.heap.get? p.1=some p.2/\H p.1=none/\p.1≠X.env.locals/\p.1∉X.fs /\ ∀ v,p.2.data ≠ .cell v):Inv X pins' σ H s :=
 ⟨I.ok,I.os,I.bare,I.base,I.loc,I.cell,I.free,I.freeC,fun p j=>(Ea.mp j).elim (fun z=>I.pin p (Fu _ z)) (h p),I.hok,I.len⟩
theorem ku {N:List Str} (q:N.Nodup) {i j:Nat} {x:Str} (a:N[i]? = some x) (b:N[j]? = some x):i=j:=by
 obtain ⟨h1,z⟩:=o7.mp a;obtain ⟨h2,B⟩:=o7.mp b;exact (List.getElem_inj q).mp (z.trans B.symm)
theorem qN {M:Ib} {A:EK} {E:e7->g6->Prop} {i:Nat} {x:Str} {v:V} {u:e7} {Q:Unit->g6->Prop} (I:Inv X pins σ H s) (hN:X.N.Nodup) (hi:X.N[i]? = some x) (hx:Loc X.env.scope x) (r:RelV v u)
 (h:∀ s',Inv X pins (σ.set i (some v)) H s'->(∃ a,FC a s.heap s'.heap/\(a=X.env.locals∨X.env.cells.lookup x=some a))->Q () s') (hf:X.fn x=true∨X.env.scope.names.lookup x=some .local:=by first | exact .inl rfl | exact .inr rfl | assumption):Ee M A (storeName X.env x u) Q E s:=by
 obtain ⟨m,hn,hl⟩:=id I.loc;have Z:(X.env.scope.kind == .class || (X.env.scope.kind == .module&&X.env.locals != X.env.globals))=false:=by rw [I.ok.kind];rfl
 have BY:i < σ.length:=by rw [I.len];exact (o7.mp hi).1
 have cne:=I.cne;have tracked:∀ {a:Addr} {h':Heap},(∃ o,s.heap.get? a=some o/\H a=none)->FC a s.heap h'->HOk X.prog X.w H h':=fun {a h'} ha hs b ob e=>by
  obtain ⟨_,_,G⟩:=ha;refine (I.hok b ob e).stay (fun c w' F q=>(hs.2 c ?_).trans q) (fun _ q=>q) fun _ _ q=>q;rintro rfl
  rcases F with rfl | F
  ·rw [G] at e;cases e
  ·rw [G] at F;cases F
 rcases hx with L | L
 ·refine wpAny_storeName_local L hn (fun h' C3 hs => ?_) Z;obtain ⟨oL,_,_,C4,_⟩:=id hn;refine h _ ⟨I.ok,I.os,I.bare,⟨fun b o e n O hx => ?_,fun b o e n O hx => ?_,I.base.free,fun b o e hx => ?_,I.base.tups,I.base.frzs,I.base.tbls⟩,⟨_,C3,fun j y v' B J e3 => ?_⟩,fun y c e => ?_,I.free,I.freeC,fun p hp => ?_,tracked ⟨oL,C4,I.free⟩ hs,by simpa using I.len⟩ ⟨_,hs, .inl rfl⟩
  ·exact (hs.2 b (EN (EC (Ed e) I.ok.above))).trans (I.base.keep b o e n O hx)
  ·obtain ⟨sl,B⟩:=I.base.slot b o e n O hx;exact ⟨sl,(hs.2 b (EN (EC (Ed e) I.ok.above))).trans B⟩
  ·obtain ⟨o',B⟩:=I.base.there b o e hx;exact ⟨o',(hs.2 b (EN (EC (Ed e) I.ok.above))).trans B⟩
  ·by_cases U:j=i
   ·subst U;rw [hi] at B;cases B;rw [H8 BY] at J
    cases J
    exact ⟨u,r, .inl ⟨L,by simp⟩⟩
   ·rw [IS (Ne.symm U)] at J;obtain ⟨u',r',q⟩:=hl j y v' B J e3;refine ⟨u',r', ?_⟩
    rcases q with ⟨k,e⟩ | ⟨k,c,e,z⟩
    ·refine .inl ⟨k, ?_⟩;have:y≠x:=fun e=>U (ku hN B (e ▸ hi));simp [this,e]
    ·exact .inr ⟨k,c,e,z.sameBut hs (cne y c e)⟩
  ·obtain ⟨w',z⟩:=I.cell y c e;exact ⟨w',z.sameBut hs (cne y c e)⟩
  ·obtain ⟨e,n,ne,nf,d⟩:=I.pin p hp;exact ⟨(hs.2 p.1 ne).trans e,n,ne,nf,d⟩
 ·have Y:X.fn x=true:=by
   rcases hf with z | z
   ·exact z
   ·rw [z] at L;cases L
  obtain ⟨c,F⟩:=I.ok.has x (.inl L);obtain ⟨w',z⟩:=I.cell x c F;refine wpAny_storeName_cell I.ok.kind L F z (fun h' BZ hs => ?_);obtain ⟨oc,C0,C1⟩:=id z;refine h { s with heap:=h' } ⟨I.ok,I.os,I.bare,⟨fun b o e n O hx => ?_,fun b o e n O hx => ?_,I.base.free,fun b o e hx => ?_,I.base.tups,I.base.frzs,I.base.tbls⟩,⟨m,hn.sameBut hs (Ne.symm (cne x c F)),fun j y v' B J e3 => ?_⟩,fun y c' e => ?_,I.free,I.freeC,fun p hp => ?_,tracked ⟨oc,C0,I.freeC x c F⟩ hs,by simpa using I.len⟩ ⟨c,hs, .inr F⟩
  ·exact (hs.2 b (EN (EC (Ed e) (I.ok.cab x c Y F)))).trans (I.base.keep b o e n O hx)
  ·obtain ⟨sl,B⟩:=I.base.slot b o e n O hx;exact ⟨sl,(hs.2 b (EN (EC (Ed e) (I.ok.cab x c Y F)))).trans B⟩
  ·obtain ⟨o',B⟩:=I.base.there b o e hx;exact ⟨o',(hs.2 b (EN (EC (Ed e) (I.ok.cab x c Y F)))).trans B⟩
  ·by_cases U:j=i
   ·subst U;rw [hi] at B;cases B;rw [H8 BY] at J
    cases J
    exact ⟨u,r, .inr ⟨.inl L,c,F,BZ⟩⟩
   ·rw [IS (Ne.symm U)] at J;obtain ⟨u',r',q⟩:=hl j y v' B J e3;refine ⟨u',r', ?_⟩
    rcases q with q | ⟨k,c',e,z'⟩
    ·exact .inl q
    ·refine .inr ⟨k,c',e,z'.sameBut hs ?_⟩;rintro rfl;exact U (ku hN B (I.ok.inj _ _ _ e F ▸ hi))
  ·by_cases C2:c'=c
   ·subst C2;exact ⟨_,BZ⟩
   ·obtain ⟨w2,z2⟩:=I.cell y c' e;exact ⟨w2,z2.sameBut hs C2⟩
  ·obtain ⟨e,n,ne,nf,d⟩:=I.pin p hp;refine ⟨(hs.2 p.1 ?_).trans e,n,ne,nf,d⟩;intro q;rw [q,C0] at e;have q':oc=p.2:=FL.inj e;exact d w' (by rw [<- q'];exact C1)
theorem fY {M:Ib} {A:EK} {E:e7->g6->Prop} {i:Nat} {x:Str} {v:V} {u:e7} {Q:Unit->g6->Prop} (I:Inv X pins σ H s) (j:X.N.Nodup) (hi:X.N[i]? = some x) (hx:Loc X.env.scope x) (r:RelV v u)
 (h:∀ s',Inv X pins (σ.set i (some v)) H s'->Q () s') (hf:X.fn x=true∨X.env.scope.names.lookup x=some .local:=by first | exact .inl rfl | exact .inr rfl | assumption):Ee M A (storeName X.env x u) Q E s :=
 qN I j hi hx r (fun s' I' _=>h s' I') hf
theorem Inv.call' {s':g6} {ch:List Addr} (I:Inv X pins σ H s) (ho:s'.os=s.os) (u:Un (frs X.stack) ch H H' s.heap s'.heap) (hok:HOk X.prog X.w H' s'.heap) (q:JM s'.gens)
 (j:∀ b∈ch,(b∈X.ex∨X.s₀.heap.objs.size<=b)/\b≠X.env.locals/\(∀ x c,X.env.cells.lookup x=some c->c≠b) /\ ∀ p∈X.pn++pins,p.1≠b):Inv X pins σ H' s':=by
 obtain ⟨h',g',d',t',o'⟩:=s';have e:o'=s.os:=ho;subst e;exact I.call (g':=g') (t':=t') (d':=d') u hok q j
end
noncomputable abbrev XK:=e7->Option Addr->Hp->Prop
noncomputable abbrev St:=List (Option V)
noncomputable abbrev VK:=V->Hp->Prop
noncomputable abbrev TE:=St->Hp->VK->Prop
noncomputable abbrev TT:=St->Hp->(Bool->Hp->Prop)->Prop
noncomputable abbrev TA:=St->Hp->(List V->Hp->Prop)->Prop
structure bd where
 nx:St->Hp->Prop
 rt:VK
 bk:St->Hp->Prop:=fun _ _=>False
 ct:St->Hp->Prop:=fun _ _=>False
noncomputable abbrev TS:=bd->St->Hp->Prop
def EP (X:Cx) (pins:List (Addr×Obj)) (σ:St) (Q:VK) (u:e7) (s':g6):Prop := ∃ v H',Inv X pins σ H' s'/\RelV v u/\Q v H'
def TP (X:Cx) (pins:List (Addr×Obj)) (σ:St) (Q:Bool->Hp->Prop) (b:Bool) (s':g6):Prop := ∃ H',Inv X pins σ H' s'/\Q b H'
def AP (X:Cx) (pins:List (Addr×Obj)) (σ:St) (Q:List V->Hp->Prop) (us:List e7) (s':g6):Prop := ∃ vs H',Inv X pins σ H' s'/\Vals vs us/\Q vs H'
def SP (X:Cx) (pins:List (Addr×Obj)) (D:bd) (f:Flow) (s':g6):Prop :=
 match f with
 | .next => ∃ σ' H',Inv X pins σ' H' s'/\D.nx σ' H'
 | .brk => ∃ σ' H',Inv X pins σ' H' s'/\D.bk σ' H'
 | .cont => ∃ σ' H',Inv X pins σ' H' s'/\D.ct σ' H'
 | .ret u => ∃ v σ' H',Inv X pins σ' H' s'/\RelV v u/\D.rt v H'
def PE (X:Cx) (e:Expr) (t:TE):Prop :=
 ∀ (pins:List (Addr×Obj)) (s:g6) (σ:St) (H:Hp) (Q:VK),Inv X pins σ H s->t σ H Q->Ee (model X.prog X.w) X.A (eval e X.env) (EP X pins σ Q) X.xe s
def PT (X:Cx) (e:Expr) (t:TT):Prop :=
 ∀ (pins:List (Addr×Obj)) (s:g6) (σ:St) (H:Hp) (Q:Bool->Hp->Prop),Inv X pins σ H s->t σ H Q->Ee (model X.prog X.w) X.A (isTrue e X.env (eval e X.env)) (TP X pins σ Q) X.xe s
def PW (X:Cx) (e:Expr) (t:TT):Prop :=
 ∀ (whole:Sem e7) (pins:List (Addr×Obj)) (s:g6) (σ:St) (H:Hp) (Q:Bool->Hp->Prop),Inv X pins σ H s->t σ H Q->Ee (model X.prog X.w) X.A (isTrue e X.env whole) (TP X pins σ Q) X.xe s
theorem PW.pt {X:Cx} {e:Expr} {t:TT} (h:PW X e t):PT X e t:=h _
def PA (X:Cx) (es:List Expr) (t:TA):Prop :=
 ∀ (pos:Pos) (pins:List (Addr×Obj)) (s:g6) (σ:St) (H:Hp) (Q:List V->Hp->Prop),Inv X pins σ H s->t σ H Q->Ee (model X.prog X.w) X.A (spliced (Hk pos (Et es X.env))) (AP X pins σ Q) X.xe s
def PS (X:Cx) (st:Stmt) (t:TS):Prop :=
 ∀ (pins:List (Addr×Obj)) (s:g6) (σ:St) (H:Hp) (D:bd),Inv X pins σ H s->t D σ H->Ee (model X.prog X.w) X.A (exec st X.env) (SP X pins D) X.xe s
def PSs (X:Cx) (st:List Stmt) (t:TS):Prop :=
 ∀ (pins:List (Addr×Obj)) (s:g6) (σ:St) (H:Hp) (D:bd),Inv X pins σ H s->t D σ H->Ee (model X.prog X.w) X.A (execs st X.env) (SP X pins D) X.xe s
theorem thn {α:Type} {t:Sem α} {Q Q' : α -> g6->Prop} {M:Ib} {A:EK} {E:e7->g6->Prop} {s:g6} (h:Ee M A t Q E s) (j:∀ a s,Q a s->Q' a s):Ee M A t Q' E s:=G7 h j fun _ _ x=>x
end
section
section
variable {X:Cx}
noncomputable def Br (i:Nat):TE:=fun σ H Q => ∃ v, σ[i]? = some (some v)/\Q v H
noncomputable def tC (v:V):TE:=fun _ H Q=>Q v H
theorem yT {i:Nat} {x:Str} {pos:Pos} (F:X.N[i]? = some x) (G:Vis X.env.scope x) (hd:(x==("__debug__":Str))=false:=by decide) (z:(x==("__classdict__":Str))=false:=by decide):PE X (.Name x pos) (Br i):=by
 intro pins s σ H Q I h;obtain ⟨v,e,h⟩:=h;obtain ⟨m,J,L⟩:=I.loc;obtain ⟨u,r,l⟩:=L i x v F e G;have fin:EP X pins σ Q u s:=⟨v,H,I,r,h⟩
 rcases l with ⟨q,hm⟩ | ⟨q,c,B,j⟩
 ·exact NB (wpAny_loadName_local I.ok.kind q J hm fin) hd
 ·rcases q with q | q
  ·exact NB (wpAny_loadName_cell I.ok.kind q B j fin) hd
  ·exact NB (wpAny_loadName_free I.ok.kind q B j fin z) hd
theorem yU {i j pos}:PE X (.Constant (.int i) j pos) (tC (.int i)):=fun _ _ _ H _ I h=>wpAny_Constant_int ⟨.int i,H,I.tok _,⟨_,rfl⟩,h⟩
theorem Az {b j pos}:PE X (.Constant (.bool b) j pos) (tC (.bl b)):=fun _ _ _ H _ I h=>Constant_bool ⟨.bl b,H,I,rfl,h⟩
theorem yV {j pos}:PE X (.Constant .none j pos) (tC .non):=fun _ _ _ H _ I h=>Constant_none ⟨.non,H,I,rfl,h⟩
def Gl (X:Cx) (x:Str):Prop:=X.env.kindOf x=some .globalImplicit
theorem nW {E:e7->g6->Prop} {pins:List (Addr×Obj)} {s:g6} {σ:St} {H:Hp} {x:Str} {u:e7} {pos:Pos} {Q:e7->g6->Prop} (I:Inv X pins σ H s) (j:Gl X x) (hm:X.mg x=some u) (h:Q u s)
 (hd:(x==("__debug__":Str))=false:=by decide):Ee (model X.prog X.w) X.A (eval (.Name x pos) X.env) Q E s :=
 Jn I.ok.kind j (Calls.loadGlobal_global (by rw [I.ok.glob];exact I.mod.glob.keeps I.bk) hm h) hd
theorem cX {E:e7->g6->Prop} {pins:List (Addr×Obj)} {s:g6} {σ:St} {H:Hp} {x:Str} {u:e7} {pos:Pos} {Q:e7->g6->Prop} (I:Inv X pins σ H s) (j:Gl X x) (hm:X.mg x=none) (q:Gs x=some u) (h:Q u s)
 (z:x ≠ "__name__" := by decide) (hd:(x==("__debug__":Str))=false:=by decide):Ee (model X.prog X.w) X.A (eval (.Name x pos) X.env) Q E s:=by
 obtain ⟨mb,h1,h2⟩:=I.mod.blt;exact Jn I.ok.kind j (Calls.loadGlobal_builtin (by rw [I.ok.glob];exact I.mod.glob.keeps I.bk) hm (by rw [I.ok.blt];exact h1.keeps I.bk) ((h2 x z).trans q) h) hd
theorem iR {x:Str} {v:V} {u:e7} {pos:Pos} (j:Gl X x) (hm:X.mg x=none) (q:Gs x=some u) (r:RelV v u) (z:x ≠ "__name__" := by decide) (hd:(x==("__debug__":Str))=false:=by decide):PE X (.Name x pos) (tC v) :=
 fun _ _ _ H _ I h=>cX I j hm q ⟨v,H,I,r,h⟩ z hd
variable {a b:Expr} {ta tb:TE} {pos:Pos}
variable {tA tB':TT} {rest:List Expr}
noncomputable def Bs (t u:TT):TT:=fun σ H Q=>t σ H fun c H1=>if c=true then u σ H1 Q else Q false H1
noncomputable def tOr (t u:TT):TT:=fun σ H Q=>t σ H fun c H1=>if c=true then Q true H1 else u σ H1 Q
noncomputable def Bt (t:TT):TT:=fun σ H Q=>t σ H fun c H1=>Q (!c) H1
theorem wN (j:PT X a tA):PW X (.BoolOp .And [a] pos) tA:=by
 intro wh pins s σ H Q I h;refine isTrue_and (thn (j pins s σ H Q I h) fun c s1 e => ?_)
 cases c with
 | true=>exact isTrue_and_nil e
 | false=>exact e
theorem yW (j:PT X a tA):PW X (.BoolOp .Or [a] pos) tA:=by
 intro wh pins s σ H Q I h;refine isTrue_or (thn (j pins s σ H Q I h) fun c s1 e => ?_)
 cases c with
 | false=>exact isTrue_or_nil e
 | true=>exact e
theorem yX (z:PT X a tA) (B:PW X (.BoolOp .And (b::rest) pos) tB'):PW X (.BoolOp .And (a::b::rest) pos) (Bs tA tB'):=by
 intro wh pins s σ H Q I h;refine isTrue_and (thn (z pins s σ H _ I h) fun c s1 ⟨H1,j,q⟩ => ?_)
 cases c with
 | true=>exact B wh pins s1 σ H1 Q j q
 | false=>exact ⟨H1,j,q⟩
theorem AA (z:PT X a tA) (B:PW X (.BoolOp .Or (b::rest) pos) tB'):PW X (.BoolOp .Or (a::b::rest) pos) (tOr tA tB'):=by
 intro wh pins s σ H Q I h;refine isTrue_or (thn (z pins s σ H _ I h) fun c s1 ⟨H1,j,q⟩ => ?_)
 cases c with
 | true=>exact ⟨H1,j,q⟩
 | false=>exact B wh pins s1 σ H1 Q j q
theorem yY (j:PT X a tA):PT X (.UnaryOp .Not a pos) (Bt tA):=by
 intro pins s σ H Q I h;exact isTrue_not (j pins s σ H (fun c H1=>Q (!c) H1) I h)
noncomputable def AB (ta tb:TE):TE:=fun σ H Q=>ta σ H fun x H1 => ∃ c,x = .bl c/\if c=true then tb σ H1 Q else Q (.bl false) H1
noncomputable def Bu (ta tb:TE):TE:=fun σ H Q=>ta σ H fun x H1 => ∃ c,x = .bl c/\if c=true then Q (.bl true) H1 else tb σ H1 Q
noncomputable def AC (ta:TE):TE:=fun σ H Q=>ta σ H fun x H1 => ∃ c,x = .bl c/\Q (.bl (!c)) H1
theorem yZ {op} {t:TE} (h:PE X a t):PE X (.BoolOp op [a] pos) t:=fun pins s σ H Q I hw=>BoolOp_one (h pins s σ H Q I hw)
theorem z9 (z:PE X a ta) (B:PE X (.BoolOp .And (b::rest) pos) tb):PE X (.BoolOp .And (a::b::rest) pos) (AB ta tb):=by
 intro pins s σ H Q I h;refine BoolOp_and (thn (z pins s σ H _ I h) fun v s1 ⟨x,H1,q,F,j⟩ => ?_);obtain ⟨c,rfl,j⟩:=j
 cases F
 refine Gh ?_
 cases c with
 | true=>exact B pins s1 σ H1 Q q j
 | false=>exact ⟨.bl false,H1,q,rfl,j⟩
theorem AD (z:PE X a ta) (B:PE X (.BoolOp .Or (b::rest) pos) tb):PE X (.BoolOp .Or (a::b::rest) pos) (Bu ta tb):=by
 intro pins s σ H Q I h;refine BoolOp_or (thn (z pins s σ H _ I h) fun v s1 ⟨x,H1,q,F,j⟩ => ?_);obtain ⟨c,rfl,j⟩:=j
 cases F
 refine Gh ?_
 cases c with
 | false=>exact B pins s1 σ H1 Q q j
 | true=>exact ⟨.bl true,H1,q,rfl,j⟩
theorem za (q:PE X a ta):PE X (.UnaryOp .Not a pos) (AC ta):=by
 intro pins s σ H Q I h;refine UnaryOp_ (thn (q pins s σ H _ I h) fun v s1 ⟨x,H1,z,B,j⟩ => ?_);obtain ⟨c,rfl,j⟩:=j
 cases B
 exact not_of (Gh ⟨.bl (!c),H1,z,rfl,j⟩)
noncomputable def tIf (t:TT) (ta tb:TE):TE:=fun σ H Q=>t σ H fun c H1=>if c=true then ta σ H1 Q else tb σ H1 Q
theorem tW {c:Expr} (z:PT X c tA) (B:PE X a ta) (F:PE X b tb):PE X (.IfExp c a b pos) (tIf tA ta tb):=by
 intro pins s σ H Q I h;refine wpAny_IfExp (thn (z pins s σ H _ I h) fun d s1 ⟨H1,j,q⟩ => ?_)
 cases d with
 | true=>exact B pins s1 σ H1 Q j q
 | false=>exact F pins s1 σ H1 Q j q
end
end
section
def SqL (K:Frag) (H:Hp) (a:Addr) (xs:List V):Prop :=
 Rd H a (.lst xs) ∨
  ∃ (o:Obj) (its:Array e7) (n:Nat),K.lookup a=some o/\o.cls = .type "list" /\ o.dict=none/\o.data = .seq its n/\its.size<=D0/\Vals xs its.toList
def SqT (K:Frag) (H:Hp) (a:Addr) (xs:List V):Prop :=
 Rd H a (.tup xs) ∨
  ∃ (o:Obj) (its:Array e7) (n:Nat),K.lookup a=some o/\o.cls = .type "tuple" /\ o.data = .seq its n/\its.size<=D0/\Vals xs its.toList
noncomputable def Bv:e7->Option V
 | .none=>some .non
 | .bool b=>some (.bl b)
 | .int i _=>some (.int i)
 | .str x _=>some (.str x)
 | .bytes b _=>some (.byt b)
 | .float b _=>some (.flt b)
 | .ref a=>some (.ref a)
 | .type n=>some (.ty n)
 | _=>none
theorem RelV.abs {x:V} {u:e7} (r:RelV x u):Bv u=some x:=by
 cases x with
 | non=>cases r;rfl
 | bl _=>cases r;rfl
 | int _=>obtain ⟨t,rfl⟩:=r;rfl
 | str _=>obtain ⟨t,rfl⟩:=r;rfl
 | byt _=>obtain ⟨t,rfl⟩:=r;rfl
 | flt _=>obtain ⟨t,rfl⟩:=r;rfl
 | ref _=>cases r;rfl
 | ty _=>cases r;rfl
theorem RelV.inj {x y:V} {u:e7} (r:RelV x u) (q:RelV y u):x=y:=FL.inj (r.abs.symm.trans q.abs)
theorem Vals.inj:∀ {xs ys:List V} {us:List e7},Vals xs us->Vals ys us->xs=ys
 | _,_,_, .nil, .nil=>rfl
 | _,_,_, .cons r t, .cons r' t'=>by rw [r.inj r',Vals.inj t t']
section
variable {X:Cx} {pins:List (Addr×Obj)} {σ:St} {H:Hp} {s:g6} {a:Addr} {xs ys:List V}
theorem SqL.of {K:Frag} (h:H a=some (.lst xs)):SqL K H a xs := .inl (.inl h)
theorem SqT.of {K:Frag} (h:H a=some (.tup xs)):SqT K H a xs := .inl (.inl h)
theorem Inv.list (I:Inv X pins σ H s) (h:SqL X.K H a xs):∃ its:List e7,Vals xs its/\PlainL s.heap a its.toArray/\xs.length<=D0:=by
 rcases h with h | ⟨o,its,n,j,q,hd,hs,hz,r⟩
 ·obtain ⟨z,its,n,r,e⟩:=h.ok I.hok;exact ⟨its,r,⟨_,n,e,rfl,rfl,rfl⟩,z⟩
 ·refine ⟨its.toList,r,⟨o,n,I.kIn a o j,q,hd,by simpa using hs⟩, ?_⟩
  have e:=r.length;simp only [Es] at e;omega
theorem Inv.tuple (I:Inv X pins σ H s) (h:SqT X.K H a xs):∃ its:List e7,Vals xs its/\Nc s.heap a its.toArray/\xs.length<=D0:=by
 rcases h with h | ⟨o,its,n,j,q,hs,hz,r⟩
 ·obtain ⟨z,its,r,p⟩:=h.ok I.hok;exact ⟨its,r,p,z⟩
 ·refine ⟨its.toList,r,⟨o,I.kIn a o j,q,n,by simpa using hs⟩, ?_⟩
  have e:=r.length;simp only [Es] at e;omega
theorem Inv.list_inj (I:Inv X pins σ H s) (h:SqL X.K H a xs) (h':SqL X.K H a ys):xs=ys:=by
 obtain ⟨its,r,⟨o,n,e,_,_,d⟩,_⟩:=I.list h;obtain ⟨its',r',⟨o',n',e',_,_,d'⟩,_⟩:=I.list h';rw [e] at e';cases e';rw [d] at d'
 injection d' with d1 _
 have:its=its':=by simpa using congrArg Kd d1
 subst this;exact r.inj r'
theorem Inv.tuple_inj (I:Inv X pins σ H s) (h:SqT X.K H a xs) (h':SqT X.K H a ys):xs=ys:=by
 obtain ⟨its,r,⟨o,e,_,n,d⟩,_⟩:=I.tuple h;obtain ⟨its',r',⟨o',e',_,n',d'⟩,_⟩:=I.tuple h';rw [e] at e';cases e';rw [d] at d'
 injection d' with d1 _
 have:its=its':=by simpa using congrArg Kd d1
 subst this;exact r.inj r'
end
noncomputable abbrev Cx.wish (X:Cx) (E:e7->g6->Prop):Cx := { X with xe:=E }
noncomputable abbrev Cx.nox (X:Cx):Cx:=X.wish fun _ _=>False
theorem Cx.Ok.wish {X:Cx} (ok:X.Ok) (E:e7->g6->Prop):(X.wish E).Ok :=
 ⟨ok.mod,ok.kind,ok.glob,ok.blt,ok.above,ok.inj,ok.has,ok.cab,ok.hd,ok.frames,ok.stk,ok.exf,ok.bs,ok.bsz,ok.noex,ok.exfs,ok.funs,ok.frf⟩
theorem Cx.Ok.unwish {X:Cx} {E:e7->g6->Prop} (ok:(X.wish E).Ok):X.Ok :=
 ⟨ok.mod,ok.kind,ok.glob,ok.blt,ok.above,ok.inj,ok.has,ok.cab,ok.hd,ok.frames,ok.stk,ok.exf,ok.bs,ok.bsz,ok.noex,ok.exfs,ok.funs,ok.frf⟩
section
variable {X:Cx} {pins:List (Addr×Obj)} {σ:St} {H:Hp} {s:g6} {E:e7->g6->Prop}
theorem Inv.wish (I:Inv X pins σ H s) (E:e7->g6->Prop):Inv (X.wish E) pins σ H s:=⟨I.ok.wish E,I.os,I.bare,I.base,I.loc,I.cell,I.free,I.freeC,I.pin,I.hok,I.len⟩
theorem Inv.unwish (I:Inv (X.wish E) pins σ H s):Inv X pins σ H s:=⟨I.ok.unwish,I.os,I.bare,I.base,I.loc,I.cell,I.free,I.freeC,I.pin,I.hok,I.len⟩
theorem SP.unwish {D:bd} {f:Flow} {s':g6} (h:SP (X.wish E) pins D f s'):SP X pins D f s':=by
 cases f with
 | next=>obtain ⟨σ',H',I,q⟩:=h;exact ⟨σ',H',I.unwish,q⟩
 | brk=>obtain ⟨σ',H',I,q⟩:=h;exact ⟨σ',H',I.unwish,q⟩
 | cont=>obtain ⟨σ',H',I,q⟩:=h;exact ⟨σ',H',I.unwish,q⟩
 | ret u=>obtain ⟨v, σ',H',I,r,q⟩:=h;exact ⟨v, σ',H',I.unwish,r,q⟩
theorem PSs.nox {st:List Stmt} {t:TS} (h:PSs X.nox st t):PSs X st t:=fun pins s σ H D I hw =>
 G7 (h pins s σ H D (I.wish _) hw) (fun _ _ q=>q.unwish) fun _ _ z=>False.elim z
end
section
variable {X:Cx} {st:Stmt} {rest:List Stmt} {t u:TS} {e:Expr} {te:TE} {pos:Pos}
noncomputable def oT:TS:=fun D σ H=>D.nx σ H
noncomputable def zb (t u:TS):TS:=fun D σ H=>t { D with nx:=u D } σ H
theorem wP:PSs X [] oT:=fun _ _ σ H _ I h=>Kr ⟨σ,H,I,h⟩
theorem tX (h1:PS X st t) (h2:PSs X rest u):PSs X (st::rest) (zb t u):=by
 intro pins s σ H D I h;refine wpAny_execs_cons (thn (h1 pins s σ H { D with nx:=u D } I h) fun f s1 q => ?_)
 cases f with
 | next =>
   obtain ⟨σ',H',I',q⟩:=q;exact h2 pins s1 σ' H' D I' q
 | ret v=>exact q
 | brk=>exact q
 | cont=>exact q
noncomputable def qO:TS:=fun D σ H=>D.bk σ H
noncomputable def w6:TS:=fun D σ H=>D.ct σ H
theorem wQ:PS X (.Pass pos) oT:=fun _ _ σ H _ I h=>wpAny_Pass ⟨σ,H,I,h⟩
theorem tY:PS X (.Break pos) qO:=fun _ _ σ H _ I h=>wpAny_Break ⟨σ,H,I,h⟩
theorem nE:PS X (.Continue pos) w6:=fun _ _ σ H _ I h=>wpAny_Continue ⟨σ,H,I,h⟩
theorem Inv.quiet {pins:List (Addr×Obj)} {σ:St} {H:Hp} {s:g6} (I:Inv X pins σ H s):interactive X.env=false:=by simp [interactive,I.ok.kind]
noncomputable def w8 (te:TE):TS:=fun D σ H=>te σ H fun _ H1=>D.nx σ H1
theorem wR (he:PE X e te) (hs:I8 e none pos.line X.env=pure false:=by rfl):PS X (.Expr e pos) (w8 te):=by
 intro pins s σ H D I h;exact wpAny_Expr_any (thn (he pins s σ H _ I h) fun v s1 ⟨x,H1,j,z,q⟩=>⟨σ,H1,j,q⟩) I.quiet hs
noncomputable def zc (te:TE):TS:=fun D σ H=>te σ H D.rt
theorem ze (he:PE X e te):PS X (.Return (some e) pos) (zc te):=by
 intro pins s σ H D I h;exact wpAny_Return_some (thn (he pins s σ H _ I h) fun v s1 ⟨x,H1,j,q,z⟩=>⟨x, σ,H1,j,q,z⟩)
noncomputable def zf (c:TT) (t u:TS):TS:=fun D σ H=>c σ H fun b H1=>if b=true then t D σ H1 else u D σ H1
theorem AE {c:Expr} {a b:List Stmt} {tc:TT} (z:PT X c tc) (B:PSs X a t) (F:PSs X b u):PS X (.If c a b pos) (zf tc t u):=by
 intro pins s σ H D I h;refine wpAny_If (thn (z pins s σ H _ I h) fun d s1 ⟨H1,j,q⟩ => ?_)
 cases d with
 | true=>exact B pins s1 σ H1 D j q
 | false=>exact F pins s1 σ H1 D j q
end
noncomputable abbrev TG:=V->St->Hp->(St->Hp->Prop)->Prop
noncomputable abbrev TGs:=List V->St->Hp->(St->Hp->Prop)->Prop
def PG (X:Cx) (target:Expr) (t:TG):Prop :=
 ∀ (pins:List (Addr×Obj)) (s:g6) (σ:St) (H:Hp) (v:V) (u:e7) (Q:St->Hp->Prop),Inv X pins σ H s->RelV v u->t v σ H Q ->
  Ee (model X.prog X.w) X.A (assign target X.env u) (fun _ s' => ∃ σ' H',Inv X pins σ' H' s'/\Q σ' H') X.xe s
def PGs (X:Cx) (ts:List Expr) (t:TGs):Prop :=
 ∀ (pins:List (Addr×Obj)) (s:g6) (σ:St) (H:Hp) (vs:List V) (us:List e7) (Q:St->Hp->Prop),Inv X pins σ H s->Vals vs us->t vs σ H Q ->
  Ee (model X.prog X.w) X.A (Lq ((G8 ts X.env).map (·.2)) us) (fun _ s' => ∃ σ' H',Inv X pins σ' H' s'/\Q σ' H') X.xe s
noncomputable abbrev oU:=V->V->V->Hp->(Hp->Prop)->Prop
def PSet (X:Cx) (t:oU):Prop :=
 ∀ (pins:List (Addr×Obj)) (s:g6) (σ:St) (H:Hp) (o i v:V) (ov iv u:e7) (Q:Hp->Prop),Inv X pins σ H s->RelV o ov->RelV i iv->RelV v u->t o i v H Q ->
  Ee (model X.prog X.w) X.A (LW ov iv u) (fun _ s' => ∃ H',Inv X pins σ H' s'/\Q H') X.xe s
section
variable {X:Cx} {pos:Pos}
noncomputable def gQ (i:Nat):TG:=fun v σ H Q=>Q (σ.set i (some v)) H
theorem nX {i:Nat} {x:Str} (j:X.N.Nodup) (hi:X.N[i]? = some x) (hx:Loc X.env.scope x) (hf:X.fn x=true∨X.env.scope.names.lookup x=some .local:=by first | exact .inl rfl | exact .inr rfl | assumption):PG X (.Name x pos) (gQ i):=by
 intro pins s σ H v u Q I r h;exact wpAny_assign_Name (fY I j hi hx r (fun s' I'=>⟨_,H,I',h⟩) hf)
noncomputable def Bw:TGs:=fun vs σ H Q=>vs=[]/\Q σ H
noncomputable def AF (t:TG) (u:TGs):TGs:=fun vs σ H Q => ∃ v r,vs=v::r/\t v σ H fun σ' H'=>u r σ' H' Q
theorem wU:PGs X [] Bw:=by
 intro pins s σ H vs us Q I r h;obtain ⟨e,h⟩:=h;subst e
 cases r
 exact LX ⟨σ,H,I,h⟩
theorem tZ {e:Expr} {es:List Expr} {t:TG} {u:TGs} (h1:PG X e t) (h2:PGs X es u)
 (hs:(G8 (e::es) X.env).map (·.2)=assign e X.env::(G8 es X.env).map (·.2):=by rfl):PGs X (e::es) (AF t u):=by
 intro pins s σ H vs us Q I r h;obtain ⟨v,vr,j,h⟩:=h;subst j
 cases r with
 | cons r rr =>
   rw [hs];refine Jo (thn (h1 pins s σ H _ _ _ I r h) fun _ s1 ⟨σ1,H1,q,z⟩ => ?_);exact h2 pins s1 σ1 H1 _ _ Q q rr z
noncomputable def By (K:Frag) (n:Nat) (t:TGs):TG:=fun v σ H Q => ∃ a xs,v = .ref a/\SqT K H a xs/\xs.length=n/\t xs σ H Q
theorem zg {es:List Expr} {k:Nat} {t:TGs} {n:Nat} (q:X.calm=true) (h:PGs X es t)
 (z:(G8 es X.env).length=n:=by rfl) (j:(G8 es X.env).findIdx? (·.1)=none:=by rfl):PG X (.Tuple es k pos) (By X.K n t):=by
 intro pins s σ H v u Q I r hw;obtain ⟨a,xs,B,F,G,hw⟩:=hw;subst B
 cases r
 obtain ⟨its,rv,J,hz⟩:=I.tuple F;refine assign_Tuple_tuple (I.ok.hd q) J (by simp [z, <- G,rv.length]) j fun h' hx => ?_
 have L:Inv X pins σ H { s with heap:=h' }:=I.kept (t':=s.toks) fun b o e=>hx b o (EN (Ed e)) e
 exact h pins _ σ H xs _ Q L (by simpa using rv) hw
noncomputable def Bz (to ti:TE) (t:oU):TG:=fun v σ H Q=>to σ H fun o H1=>ti σ H1 fun i H2=>t o i v H2 fun H3=>Q σ H3
theorem qP {o i:Expr} {to ti:TE} {t:oU} (ho:PE X o to) (hi:PE X i ti) (hs:PSet X t)
 (j:∀ v,assign (.Subscript o i pos) X.env v=(do
   let ov <- holding [v] (eval o X.env)
   let iv <- holding [v,ov] (eval i X.env)
   Jd pos
   holding [v,ov,iv] (LW ov iv v)
   release [v,ov,iv] []):=by intro _;rfl):PG X (.Subscript o i pos) (Bz to ti t):=by
 intro pins s σ H v u Q I r h;rw [j];refine b3 (FO (thn (ho pins s σ H _ I h) fun ov s1 ⟨x,H1,q,z,B⟩ => ?_));refine b3 (FO (thn (hi pins s1 σ H1 _ q B) fun iv s2 ⟨y,H2,F,G,J⟩ => ?_));refine b3 (Hh (b3 (FO (thn (hs pins s2 σ H2 x y v ov iv u _ F z G r J) fun _ s3 ⟨L,O,U⟩ => ?_))));exact wpAny_release ⟨σ,L,O,U⟩
noncomputable def oV (te:TE) (g:TG):TS:=fun D σ H=>te σ H fun x H1=>g x σ H1 D.nx
theorem kx {tg e:Expr} {te:TE} {g:TG} (he:PE X e te) (j:PG X tg g) (hs:Hi [tg] e pos.line X.env=pure false:=by rfl) (hw:Gx [tg] e X.env=pure none:=by rfl)
 (h1:(G8 [tg] X.env).map (·.2)=[assign tg X.env]:=by rfl):PS X (.Assign [tg] e pos) (oV te g):=by
 intro pins s σ H D I h;refine wpAny_Assign_stores (thn (he pins s σ H _ I h) fun v s1 ⟨x,H1,z,B,F⟩ => ?_) hs hw;rw [h1];exact thn (j pins s1 σ H1 x v _ z B F) fun _ s2 q=>q
noncomputable def zh (i j:Nat) (ta:TA):TS:=fun D σ H=>ta σ H fun vs H1 => ∃ v w,vs=[v,w]/\D.nx ((σ.set i (some v)).set j (some w)) H1
theorem zi {i j:Nat} {x y:Str} {a b:Expr} {ta:TA} {px py pt:Pos} {kt G z} (hc:X.calm=true) (U:X.N.Nodup) (hi:X.N[i]? = some x) (hj:X.N[j]? = some y) (J:i≠j)
 (hx:X.env.scope.names.lookup x=some .local) (Y:X.env.scope.names.lookup y=some .local) (ha:PA X [a,b] ta)
 (hw:Gx [.Tuple [.Name x px, .Name y py] kt pt] (.Tuple [a,b] G z) X.env=pure (some [x,y]))
 (hs:Hi [.Tuple [.Name x px, .Name y py] kt pt] (.Tuple [a,b] G z) pos.line X.env=pure false:=by rfl) :
 PS X (.Assign [.Tuple [.Name x px, .Name y py] kt pt] (.Tuple [a,b] G z) pos) (zh i j ta):=by
 intro pins s σ H D I h;rw [exec_Assign_arm];refine b3 (Hh ?_);rw [hs];refine b3 (gV ?_);rw [if_neg (by decide)]
 refine b3 (Tuple_ (thn (ha _ pins s σ H _ I h) fun us s1 ⟨vs,H1,I1,r1,L⟩ => ?_));obtain ⟨v,w,e1,L⟩:=L;subst e1;obtain ⟨B,F,rfl,rv,rw'⟩:∃ B F,us=[B,F]/\RelV v B/\RelV w F:=by
  cases r1 with
  | cons p q =>
    cases q with
    | cons p' q' =>
      cases q'
      exact ⟨_,_,rfl,p,p'⟩
 refine Fs ?_ (by show 2<=D0;decide)
 have I2:Inv X pins σ H1 { s1 with heap:=s1.heap.push { cls := .type "tuple",data := .seq [B,F].toArray } }:=I1.kept (t':=s1.toks) fun b o e=>g0 _ e
 rw [hw];refine b3 (gV ?_);show Ee (model X.prog X.w) X.A (do rule "assign.swapped-stores";let items <- unpackItems (.ref s1.heap.objs.size) 2 none;Lq [fun v=>ND X.env y v,fun v=>ND X.env x v] items.reverse;pure Flow.next) _ _ _
 refine b3 (FU (b3 (unpackItems_tuple (items := #[B,F]) (I.ok.hd hc) (Iy s1.heap _) fun h' O => ?_)));have I3:=I2.kept (h':=h') (t':=s1.toks) fun b o e=>O b o (EN (Ed e)) e;show Ee _ _ (Lq [fun v=>ND X.env y v,fun v=>ND X.env x v] [F,B] >>= fun _=>pure Flow.next) _ _ _;refine b3 (Jo (wpAny_bindName (fY I3 U hj (.inl Y) rw' (fun s2 I4 => ?_) (.inr Y))));refine Jo (wpAny_bindName (fY I4 U hi (.inl hx) rv (fun s3 Z=>LX (gV ?_)) (.inr hx)));rw [List.set_comm _ _ (Ne.symm J)] at Z;exact ⟨_,H1,Z,L⟩
end
section
variable {X:Cx} {pos:Pos}
noncomputable def qQ (c:TT) (tb:TS):TS:=fun D σ H => ∃ W:Nat->St->Hp->Prop,(∃ m,W m σ H) /\ ∀ m σ H,W m σ H ->
 c σ H fun b H1=>if b=true then ∃ N:St->Hp->Prop,(∀ σ' H',N σ' H' -> ∃ m',m' < m/\W m' σ' H')/\tb { D with nx:=N,ct:=N,bk:=D.nx } σ H1 else D.nx σ H1
theorem u3 {c:Expr} {body:List Stmt} {tc:TT} {tb:TS} (J:PassesOwn (model X.prog X.w) X.A X.env X.xe) (U:PT X c tc) (Y:PSs X body tb):PS X (.While c body [] pos) (qQ tc tb):=by
 intro pins s σ H D I h;obtain ⟨W,⟨m0,Z⟩,turn⟩:=h;refine wpAny_While (codeAny_whileLoop (fun n s' => ∃ σ' H',Inv X pins σ' H' s'/\W n σ' H') ?_ m0 ⟨σ,H,I,Z⟩);rintro n s1 ⟨σ1,H1,I1,w1⟩;refine GG J (thn (U pins s1 σ1 H1 _ I1 (turn n σ1 H1 w1)) fun b s2 ⟨H2,L,q⟩ => ?_)
 cases b with
 | true =>
   obtain ⟨N,O,q⟩:=q;rw [if_pos rfl];refine GG J (thn (Y pins s2 σ1 H2 _ L q) fun f s3 z => ?_)
   cases f with
   | next =>
     obtain ⟨σ3,j,B,F⟩:=z;obtain ⟨m',hm,G⟩:=O σ3 j F;exact ⟨m',hm, σ3,j,B,G⟩
   | cont =>
     obtain ⟨σ3,j,B,F⟩:=z;obtain ⟨m',hm,G⟩:=O σ3 j F;exact ⟨m',hm, σ3,j,B,G⟩
   | brk=>exact z
   | ret v=>exact z
 | false =>
   rw [if_neg D2];exact Kr ⟨σ1,H2,L,q⟩
end
structure It where
 go:Nat->Hp->Prop
 yld:Nat->Hp->V->Hp->Prop
 stop:Nat->Hp->Prop
def bT (X:Cx) (pins:List (Addr×Obj)) (H:Hp) (b:Addr):Prop :=
 H b=none/\b≠X.env.locals/\b∉X.fs/\(b∈X.ex∨X.s₀.heap.objs.size<=b)/\(∀ x c,X.env.cells.lookup x=some c->c≠b) /\ ∀ p∈X.pn++pins,p.1≠b
theorem Inv.fpOk {X:Cx} {pins:List (Addr×Obj)} {σ:St} {H H':Hp} {s:g6} {b:Addr} (I:Inv X pins σ H s) (j:s.heap.objs.size<=b) (B:H' b=none):bT X pins H' b:=by
 refine ⟨B,Hz (EC I.lt j),I.nofs j, .inr (Fb I.sz j),fun x c e z => ?_,fun p F z => ?_⟩
 ·obtain ⟨v,q⟩:=I.cell x c e;exact absurd (EC q.lt (by rw [z];exact j)) (Fn _)
 ·exact absurd (EC (Ed (I.pin p F).1) (by rw [z];exact j)) (Fn _)
structure el (P:Er) (w:EH) (K:Frag) (tg:Expr) (J:It) (fp:List Addr) (it:Addr) (tn:Nat->Heap->Prop):Prop where
 mem:it∈fp
 obj:∀ i h,tn i h -> ∀ b∈fp, ∃ o,h.get? b=some o /\ ∀ v,o.data ≠ .cell v
 keep:∀ i h h',tn i h->(∀ b∈fp, ∀ o,h.get? b=some o->h'.get? b=some o)->tn i h'
 item:∀ (X:Cx),X.prog=P->X.w=w->X.K=K->X.calm=true -> ∀ (i:Nat) (pins:List (Addr×Obj)) (s:g6) (σ:St) (H:Hp) (E:e7->g6->Prop),Inv X pins σ H s->(∀ b∈fp,bT X pins H b)->tn i s.heap->J.go i H ->
  Ee (model P w) X.A (Hl (.ref it)) (fun r s1 => ∃ u,r=some u /\
   Ee (model P w) X.A (J0 tg (.ref it) u) (fun _ s2 => ∃ x H',Inv X pins σ H' s2/\RelV x u/\J.yld i H x H'/\tn (i+1) s2.heap /\ ∀ b∈fp,H' b=none) E s1) E s
 done:∀ (X:Cx),X.prog=P->X.w=w->X.K=K->X.calm=true -> ∀ (i:Nat) (pins:List (Addr×Obj)) (s:g6) (σ:St) (H:Hp) (E:e7->g6->Prop),Inv X pins σ H s->(∀ b∈fp,bT X pins H b)->tn i s.heap->J.stop i H ->
  Ee (model P w) X.A (Hl (.ref it)) (fun r s1=>r=none/\Inv X pins σ H s1) E s
 self:∀ (A:EK) (i:Nat) (s:g6) (Q:e7->g6->Prop) (E:e7->g6->Prop),tn i s.heap->Q (.ref it) s->Ee (model P w) A (Ke (.ref it)) Q E s
noncomputable abbrev TI:=St->Hp->(It->Hp->Prop)->Prop
def PIE (X:Cx) (pins:List (Addr×Obj)) (σ:St) (tg:Expr) (R:It->Hp->Prop) (itv:e7) (s2:g6):Prop :=
 ∃ (it:Addr) (fp:List Addr) (tn:Nat->Heap->Prop) (J:It) (H':Hp),itv = .ref it/\Inv X pins σ H' s2/\el X.prog X.w X.K tg J fp it tn/\tn 0 s2.heap/\(∀ b∈fp,bT X pins H' b)/\R J H'
def PI (X:Cx) (tg iter:Expr) (wi:TI):Prop :=
 ∀ (pins:List (Addr×Obj)) (s:g6) (σ:St) (H:Hp) (R:It->Hp->Prop),Inv X pins σ H s->wi σ H R ->
  Ee (model X.prog X.w) X.A (eval iter X.env) (fun v s1=>Ee (model X.prog X.w) X.A (Ke v) (PIE X pins σ tg R) X.xe s1) X.xe s
theorem oW {M:Ib} {A:EK} {E:e7->g6->Prop} {s:g6} {tg:Expr} {it:Addr} {u:e7} {o:Obj} {n:String} {vs:Array e7} {Q:Unit->g6->Prop} (ho:s.heap.get? it=some o) (q:o.cls = .type n) (hd:o.data = .fields vs)
 (z : ["enumerate", "zip", "dict_itemiterator", "dict_reverseitemiterator", "odict_iterator", "itertools.zip_longest", "itertools.pairwise"].contains n=false) (j:Q () s):Ee M A (J0 tg (.ref it) u) Q E s:=by
 unfold J0
 cases tg <;> first
  | exact gV j
  | (cases u <;> first
      | exact gV j
      | (refine b3 (wpAny_load ho ?_)
         rw [q,hd];show Ee M A (if (["enumerate", "zip", "dict_itemiterator", "dict_reverseitemiterator", "odict_iterator", "itertools.zip_longest", "itertools.pairwise"].contains n&&vs[0]? == some (Jp _))=true then _ else _) Q E s
         rw [if_neg (by intro h;rw [z,Bool.false_and] at h;cases h)]
         exact gV j))
noncomputable def Itl (K:Frag) (a:Addr):It :=
 ⟨fun i H => ∃ xs x,SqL K H a xs/\xs[i]? = some x,fun i H x H'=>H'=H /\ ∀ xs,SqL K H a xs->xs[i]? = some x,fun i H => ∃ xs,SqL K H a xs/\xs.length<=i⟩
noncomputable def Itt (K:Frag) (a:Addr):It :=
 ⟨fun i H => ∃ xs x,SqT K H a xs/\xs[i]? = some x,fun i H x H'=>H'=H /\ ∀ xs,SqT K H a xs->xs[i]? = some x,fun i H => ∃ xs,SqT K H a xs/\xs.length<=i⟩
noncomputable def Itr (lo:Int) (n:Nat):It:=⟨fun i _=>i < n,fun i H x H'=>H'=H/\x = .int (lo+i),fun i _=>n<=i⟩
theorem qR {P:Er} {w:EH} {K:Frag} {tg:Expr} (a it:Addr):el P w K tg (Itl K a) [it] it (fun i h=>h.IsListIter it a i) where
 mem:=by simp
 obj:=fun i h st b j=>by
  have e:b=it:=by simpa using j
  subst e;obtain ⟨o,e,c,d⟩:=st;exact ⟨o,e,fun v z=>by rw [d] at z;cases z⟩
 keep:=fun i h h' st k=>st.at fun o e=>k it (by simp) o e
 item:=by
  intro X B hw F L i pins s σ H E I hf st hg;subst B hw F;obtain ⟨xs,x,q,hx⟩:=hg;obtain ⟨its,rv,p,hz⟩:=I.list q;obtain ⟨u,O,ru⟩:=rv.get hx;obtain ⟨f0,f1,f2,G,f4,J⟩:=hf it (by simp)
  refine wpAny_pyNext_list_item st p.isList (x:=u) (by simpa using O) fun h' st' sb => ?_
  have U:Inv X pins σ H { s with heap:=h' }:=I.turned (t':=s.toks) (fun b o j e=>(sb.2 b j).trans e) f0 f1 G f4 J
  obtain ⟨o,e,c,d⟩:=id st';exact ⟨u,rfl,oW (s := { s with heap:=h' }) e c d (by decide) ⟨x,H,U,ru,⟨rfl,fun ys Y=>by rw [I.list_inj Y q];exact hx⟩,st',fun b j=>(hf b j).1⟩⟩
 done:=by
  intro X B hw F L i pins s σ H E I hf st hg;subst B hw F;obtain ⟨xs,q,hx⟩:=hg;obtain ⟨its,rv,p,hz⟩:=I.list q;obtain ⟨f0,f1,f2,G,f4,J⟩:=hf it (by simp)
  have Z:=rv.length;exact wpAny_pyNext_list_end (I.ok.hd L) st p.isList (by simp;omega) fun h' eb=>⟨rfl,I.turned (t':=s.toks) (fun b o j e=>eb b o j e) f0 f1 G f4 J⟩
 self:=fun _ _ _ _ _ st h=>wpAny_pyIter_listiter st h
theorem oZ {P:Er} {w:EH} {K:Frag} {tg:Expr} (a it:Addr):el P w K tg (Itt K a) [it] it (fun i h=>h.IsTupleIter it a i) where
 mem:=by simp
 obj:=fun i h st b j=>by
  have e:b=it:=by simpa using j
  subst e;obtain ⟨o,e,c,d⟩:=st;exact ⟨o,e,fun v z=>by rw [d] at z;cases z⟩
 keep:=fun i h h' st k=>st.at fun o e=>k it (by simp) o e
 item:=by
  intro X B hw F L i pins s σ H E I hf st hg;subst B hw F;obtain ⟨xs,x,q,hx⟩:=hg;obtain ⟨its,rv,p,hz⟩:=I.tuple q;obtain ⟨u,O,ru⟩:=rv.get hx;obtain ⟨f0,f1,f2,G,f4,J⟩:=hf it (by simp)
  refine wpAny_pyNext_tuple_item st (show s.heap.IsTuple a its.toArray from p) (x:=u) (by simpa using O) fun h' st' sb => ?_
  have U:Inv X pins σ H { s with heap:=h' }:=I.turned (t':=s.toks) (fun b o j e=>(sb.2 b j).trans e) f0 f1 G f4 J
  obtain ⟨o,e,c,d⟩:=id st';exact ⟨u,rfl,oW (s := { s with heap:=h' }) e c d (by decide) ⟨x,H,U,ru,⟨rfl,fun ys Y=>by rw [I.tuple_inj Y q];exact hx⟩,st',fun b j=>(hf b j).1⟩⟩
 done:=by
  intro X B hw F L i pins s σ H E I hf st hg;subst B hw F;obtain ⟨xs,q,hx⟩:=hg;obtain ⟨its,rv,p,hz⟩:=I.tuple q;obtain ⟨f0,f1,f2,G,f4,J⟩:=hf it (by simp)
  have Z:=rv.length;exact wpAny_pyNext_tuple_end (I.ok.hd L) st (show s.heap.IsTuple a its.toArray from p) (by simp;omega) fun h' eb=>⟨rfl,I.turned (t':=s.toks) (fun b o j e=>eb b o j e) f0 f1 G f4 J⟩
 self:=fun _ _ _ _ _ st h=>wpAny_pyIter_tupleiter st h
theorem p7 {P:Er} {w:EH} {K:Frag} {tg:Expr} (it:Addr) (lo:Int) (n:Nat):el P w K tg (Itr lo n) [it] it (fun i h=>IsRangeIter h it (lo+(i:Nat)*1) ((n:Int) - (i:Nat)) 1) where
 mem:=by simp
 obj:=fun i h st b j=>by
  have e:b=it:=by simpa using j
  subst e;exact ⟨_,st,fun v z=>by
   have z':JN _=Data.cell v:=z
   cases z'⟩
 keep:=fun i h h' st k=>k it (by simp) _ st
 item:=by
  intro X q hw B F i pins s σ H E I hf st hg;subst q hw B;obtain ⟨f0,f1,f2,G,f4,J⟩:=hf it (by simp)
  have W:=Walks.range (prog:=X.prog) (w:=X.w) (I.ok.hd F) it lo 1 n;refine W.item i s _ _ hg st fun v h' tk L st' kk => ?_;obtain ⟨t,rfl⟩:=L;have O:Inv X pins σ H { s with heap:=h',toks:=tk }:=I.turned (fun b o j e=>kk b o (by simpa using j) e) f0 f1 G f4 J
  refine ⟨_,rfl,oW (s := { s with heap:=h',toks:=tk }) (n := "range_iterator") st' rfl rfl (by decide) ⟨.int (lo+i),H,O,⟨t, ?_⟩,⟨rfl,rfl⟩,st',fun b j=>(hf b j).1⟩⟩
  rw [Int.mul_one]
 done:=by
  intro X q hw B F i pins s σ H E I hf st hg;subst q hw B;obtain ⟨f0,f1,f2,G,f4,J⟩:=hf it (by simp)
  exact wpAny_pyNext_range_end (I.ok.hd F) st (by have:n<=i:=hg;omega) fun h' eb=>⟨rfl,I.turned (t':=s.toks) (fun b o j e=>eb b o j e) f0 f1 G f4 J⟩
 self:=fun _ _ _ _ _ st h=>wpAny_pyIter_rangeiter st h
end
section
section
variable {X:Cx} {tg:Expr}
theorem u4 {pins:List (Addr×Obj)} {σ:St} {H:Hp} {s:g6} {R:It->Hp->Prop} {E:e7->g6->Prop} {lo hi:Int} {t u v:Tok} {tk:Nat} (I:Inv X pins σ H s) (h1 : -(2 ^ 62)<=lo) (h2:lo < 2 ^ 62) (z : -(2 ^ 62)<=hi) (B:hi < 2 ^ 62)
 (q:R (Itr lo (hi - lo).toNat) H):Ee (model X.prog X.w) X.A (Ke (.ref s.heap.objs.size)) (PIE X pins σ tg R) E { s with heap:=s.heap.push { cls := .type "range",data := .fields #[.int lo t, .int hi u, .int 1 v] },toks:=tk }:=by
 refine wpAny_pyIter_range (IsRange.new ..) (small_one h1 h2 z B) ?_;have j:Inv X pins σ H { s with heap:=s.heap.push { cls := .type "range",data := .fields #[.int lo t, .int hi u, .int 1 v] },toks:=tk }:=I.kept fun b o e=>g0 _ e
 refine ⟨(s.heap.push { cls := .type "range",data := .fields #[.int lo t, .int hi u, .int 1 v] }).objs.size,[(s.heap.push { cls := .type "range",data := .fields #[.int lo t, .int hi u, .int 1 v] }).objs.size],_,_,H,rfl,
  j.kept (t':=tk) fun b o e=>g0 _ e,p7 _ lo (hi - lo).toNat, ?_,fun b F => ?_,q⟩
 ·have G:lo+((0:Nat):Int)*1=lo:=by simp
  have J:(((hi - lo).toNat:Nat):Int) - ((0:Nat):Int)=Builtin.Range.rangeSize lo hi 1:=by rw [rangeSize_one];split <;> omega
  show IsRangeIter _ _ (lo+((0:Nat):Int)*1) ((((hi - lo).toNat:Nat):Int) - ((0:Nat):Int)) 1;rw [G,J];exact D1 _ rfl
 ·have e:b=(s.heap.push { cls := .type "range",data := .fields #[.int lo t, .int hi u, .int 1 v] }).objs.size:=by simpa using F
  subst e;exact j.fpOk (Ec _) (j.hok.fresh (Ec _))
noncomputable def AG (ta:TA):TI:=fun σ H R=>ta σ H fun vs H1 => ∃ j:Int,vs=[.int j] /\ -(2 ^ 62)<=j/\j < 2 ^ 62/\R (Itr 0 j.toNat) H1
theorem qS {a:Expr} {ta:TA} {p pos:Pos} (B:Gl X "range") (hm:X.mg "range" = none) (F:PA X [a] ta) (hs:Et [a] X.env=[(false,eval a X.env)]:=by rfl):PI X tg (.Call (.Name "range" p) [a] [] pos) (AG ta):=by
 intro pins s σ H R I h;refine Call_ (cX I B hm boot_range (Gu (thn (F pos pins s σ H _ I h) fun us s1 ⟨vs,H1,G,J,z⟩ => ?_) hs rfl));obtain ⟨j,e,z,L,q⟩:=z;subst e
 cases J with
 | cons r rr =>
   cases rr
   obtain ⟨t,rfl⟩:=r;exact call_range_1 (u4 G (by omega) (by omega) z L (by simpa using q))
noncomputable def zj (wi:TI) (g:TG) (tb:TS):TS:=fun D σ H=>wi σ H fun J H1 => ∃ W:Nat->Nat->St->Hp->Prop,(∃ m,W 0 m σ H1) /\ ∀ i m σ H,W i m σ H ->
 (J.stop i H/\D.nx σ H)∨(J.go i H /\ ∃ N:St->Hp->Prop,(∀ σ' H',N σ' H' -> ∃ m',m' < m/\W (i+1) m' σ' H') /\ ∀ x H',J.yld i H x H'->g x σ H' fun σ2 H2=>tb { D with nx:=N,ct:=N,bk:=D.nx } σ2 H2)
noncomputable def gS (fp:List Addr) (h:Heap):List (Addr×Obj):=fp.filterMap fun b=>(h.get? b).map fun o=>(b,o)
theorem cG {fp:List Addr} {h:Heap} {b:Addr} {o:Obj} (j:b∈fp) (e:h.get? b=some o):(b,o)∈gS fp h:=LD.mpr ⟨b,j,by rw [e];rfl⟩
theorem qT {fp:List Addr} {h:Heap} {p:Addr×Obj} (j:p∈gS fp h):p.1∈fp/\h.get? p.1=some p.2:=by
 obtain ⟨b,z,e⟩:=LD.mp j
 cases q:h.get? b with
 | none=>rw [q] at e;cases e
 | some o =>
   rw [q] at e;have e':(b,o)=p:=FL.inj e;subst e';exact ⟨z,q⟩
theorem Inv.pinned {pins:List (Addr×Obj)} {σ:St} {H:Hp} {s:g6} {fp:List Addr} (I:Inv X pins σ H s) (hf:∀ b∈fp,bT X pins H b) (ho:∀ b∈fp, ∃ o,s.heap.get? b=some o /\ ∀ v,o.data ≠ .cell v):Inv X (pins++gS fp s.heap) σ H s :=
 I.pins_of fun p q=>(Ea.mp q).elim (fun z=>I.pin p (Ep _ z)) fun z=>by
  obtain ⟨j,e⟩:=qT z;obtain ⟨f0,f1,f2,_⟩:=hf p.1 j;obtain ⟨o,e',d⟩:=ho p.1 j;rw [e] at e';cases e';exact ⟨e,f0,f1,f2,d⟩
theorem Inv.unpinned {pins pl:List (Addr×Obj)} {σ:St} {H:Hp} {s:g6} (I:Inv X (pins++pl) σ H s):Inv X pins σ H s:=I.pins_of fun p j=>I.pin p (Ep _ (Fu _ j))
theorem zk {iter:Expr} {body:List Stmt} {wi:TI} {g:TG} {tb:TS} {pos:Pos} (G:PassesOwn (model X.prog X.w) X.A X.env X.xe) (hc:X.calm=true) (hi:PI X tg iter wi) (hg:PG X tg g) (j:PSs X body tb)
 (hs:∀ x,Gi iter X.env x=pure x:=by intro _;rfl):PS X (.For tg iter body [] pos) (zj wi g tb):=by
 intro pins s σ H D I h;refine wpAny_For (thn (hi pins s σ H _ I h) fun v s1 h1=>thn h1 fun itv s2 h2 => ?_) hs;obtain ⟨it,fp,tn,J,H2,e,I2,T,Z,f2,W,⟨m0,w0⟩,turn⟩:=h2;subst e;have stat:∀ {H':Hp},(∀ b∈fp,H' b=none) -> ∀ b∈fp,bT X pins H' b:=fun hn b j=>⟨hn b j,(f2 b j).2⟩;refine codeAny_forLoop_any (fun n s' => ∃ i σ' H',Inv X pins σ' H' s'/\tn i s'.heap/\(∀ b∈fp,H' b=none)/\W i n σ' H') ?_ m0 ⟨0, σ,H2,I2,Z,fun b j=>(f2 b j).1,w0⟩;rintro n s3 ⟨i, σ3,Y,I3,L,O,w3⟩
 rcases turn i n σ3 Y w3 with ⟨stop,qn⟩ | ⟨go,N,hN,step⟩
 ·refine GG G (thn (T.done X rfl rfl rfl hc i pins s3 σ3 Y X.xe I3 (stat O) L stop) fun r s4 ⟨hr,I4⟩ => ?_);subst hr;exact Kr ⟨σ3,Y,I4,qn⟩
 ·refine GG G (thn (T.item X rfl rfl rfl hc i pins s3 σ3 Y X.xe I3 (stat O) L go) fun r s4 ⟨u,hr,h4⟩ => ?_);subst hr;refine GG G (thn h4 fun _ s5 ⟨x,H5,I5,r5,y5,F,BY⟩ => ?_);have BZ:=I5.pinned (stat BY) (T.obj _ _ F);refine GG G (thn (hg _ s5 σ3 H5 x u _ BZ r5 (step x H5 y5)) fun _ s6 ⟨σ6,H6,I6,q6⟩ => ?_);refine GG G (thn (j _ s6 σ6 H6 _ I6 q6) fun f s7 B => ?_);have again:∀ {σ7:St} {q:Hp},Inv X (pins++gS fp s5.heap) σ7 q s7->N σ7 q -> ∃ m,m < n /\ ∃ i σ' H',Inv X pins σ' H' s7/\tn i s7.heap/\(∀ b∈fp,H' b=none)/\W i m σ' H':=fun {σ7 q} z U=>by
   obtain ⟨m',hm,w7⟩:=hN σ7 q U;refine ⟨m',hm,i+1, σ7,q,z.unpinned,T.keep _ _ _ F fun b j o e=>(z.pin (b,o) (Ep _ (Ep _ (cG j e)))).1,fun b j => ?_,w7⟩;obtain ⟨o,e,d⟩:=T.obj _ _ F b j;exact (z.pin (b,o) (Ep _ (Ep _ (cG j e)))).2.1
  cases f with
  | next=>obtain ⟨σ7,q,z,U⟩:=B;exact again z U
  | cont=>obtain ⟨σ7,q,z,U⟩:=B;exact again z U
  | brk=>obtain ⟨σ7,q,z,B⟩:=B;exact ⟨σ7,q,z.unpinned,B⟩
  | ret v=>obtain ⟨x7, σ7,q,z,r7,B⟩:=B;exact ⟨x7, σ7,q,z.unpinned,r7,B⟩
end
end
section
noncomputable abbrev R2:=V->V->Hp->VK->Prop
def OpR (X:Cx) (f:e7->e7->Sem e7) (r:R2):Prop :=
 ∀ (pins:List (Addr×Obj)) (s:g6) (σ:St) (H:Hp) (x y:V) (v u:e7) (Q:VK),Inv X pins σ H s->RelV x v->RelV y u->r x y H Q ->
  Ee (model X.prog X.w) X.A (f v u) (EP X pins σ Q) X.xe s
def UnR (X:Cx) (f:e7->Sem e7) (r:V->Hp->VK->Prop):Prop :=
 ∀ (pins:List (Addr×Obj)) (s:g6) (σ:St) (H:Hp) (x:V) (v:e7) (Q:VK),Inv X pins σ H s->RelV x v->r x H Q ->
  Ee (model X.prog X.w) X.A (f v) (EP X pins σ Q) X.xe s
def CallR (X:Cx) (f:e7) (r:List V->Hp->VK->Prop):Prop :=
 ∀ (pins:List (Addr×Obj)) (s:g6) (σ:St) (H:Hp) (xs:List V) (us:List e7) (Q:VK),Inv X pins σ H s->Vals xs us->r xs H Q ->
  Ee (model X.prog X.w) X.A (call f us) (EP X pins σ Q) X.xe s
def BA (X:Cx) (r:V->Hp->(Bool->Hp->Prop)->Prop):Prop :=
 ∀ (pins:List (Addr×Obj)) (s:g6) (σ:St) (H:Hp) (x:V) (v:e7) (Q:Bool->Hp->Prop),Inv X pins σ H s->RelV x v->r x H Q ->
  Ee (model X.prog X.w) X.A (truthy v) (TP X pins σ Q) X.xe s
noncomputable def tOp (r:R2) (ta tb:TE):TE:=fun σ H Q=>ta σ H fun x H1=>tb σ H1 fun y H2=>r x y H2 Q
noncomputable def tUn (r:V->Hp->VK->Prop) (ta:TE):TE:=fun σ H Q=>ta σ H fun x H1=>r x H1 Q
noncomputable def rI (C:Int->Int->Prop) (g:Int->Int->V):R2:=fun x y H Q => ∃ i j,x = .int i/\y = .int j/\C i j/\Q (g i j) H
noncomputable def rI0 (g:Int->Int->V):R2:=fun x y H Q => ∃ i j,x = .int i/\y = .int j/\Q (g i j) H
noncomputable def rU (g:Int->V):V->Hp->VK->Prop:=fun x H Q => ∃ i,x = .int i/\Q (g i) H
section
variable {X:Cx} {a b c:Expr} {ta tb tc:TE} {pos:Pos}
theorem u5 (j:PE X a ta) (q:PE X b tb) {pins:List (Addr×Obj)} {s:g6} {σ:St} {H:Hp} {R:V->V->Hp->Prop} (I:Inv X pins σ H s)
 (h:ta σ H fun x H1=>tb σ H1 fun y H2=>R x y H2) {Q:e7->g6->Prop} {f:e7->e7->Sem e7}
 (hf:∀ v u s2 x y H2,Inv X pins σ H2 s2->RelV x v->RelV y u->R x y H2->Ee (model X.prog X.w) X.A (f v u) Q X.xe s2) :
 Ee (model X.prog X.w) X.A (eval a X.env) (fun v s₁ => Ee (model X.prog X.w) X.A (eval b X.env) (fun u s₂ => Ee (model X.prog X.w) X.A (f v u) Q X.xe s₂) X.xe s₁) X.xe s:=by
 refine thn (j pins s σ H _ I h) fun v s1 ⟨x,H1,z,B,F⟩ => ?_;refine thn (q pins s1 σ H1 _ z F) fun u s2 ⟨y,H2,G,J,L⟩ => ?_;exact hf v u s2 x y H2 G B J L
theorem AH {op:LY} {r:R2} (ho:OpR X (FP op) r) (j:PE X a ta) (z:PE X b tb):PE X (.BinOp a op b pos) (tOp r ta tb):=by
 intro pins s σ H Q I h;exact wpAny_BinOp (u5 j z I h fun v u s2 x y H2 B rx ry q=>ho pins s2 σ H2 x y v u Q B rx ry q)
theorem AI {op:UnaryOp} {r:V->Hp->VK->Prop} (ho:UnR X (unaryOp op) r) (j:PE X a ta):PE X (.UnaryOp op a pos) (tUn r ta):=by
 intro pins s σ H Q I h;exact UnaryOp_ (thn (j pins s σ H _ I h) fun v s1 ⟨x,H1,q,z,B⟩=>ho pins s1 σ H1 x v Q q z B)
theorem opI {f:e7->e7->Sem e7} {C:Int->Int->Prop} {g:Int->Int->Int}
 (rule:∀ (i j:Int) (t u:Tok) (s:g6) (Q:e7->g6->Prop) (E:e7->g6->Prop),C i j->Q (.int (g i j) s.toks) { s with toks:=s.toks+1 }->Ee (model X.prog X.w) X.A (f (.int i t) (.int j u)) Q E s) :
 OpR X f (rI C fun i j => .int (g i j)):=by
 intro pins s σ H x y v u Q I rx ry h;obtain ⟨i,j,rfl,rfl,z,q⟩:=h;obtain ⟨t,rfl⟩:=rx;obtain ⟨t',rfl⟩:=ry;exact rule i j t t' s _ _ z ⟨.int (g i j),H,I.tok _,⟨_,rfl⟩,q⟩
theorem zm {f:e7->e7->Sem e7} {g:Int->Int->Int}
 (rule:∀ (i j:Int) (t u:Tok) (s:g6) (Q:e7->g6->Prop) (E:e7->g6->Prop),Q (.int (g i j) s.toks) { s with toks:=s.toks+1 }->Ee (model X.prog X.w) X.A (f (.int i t) (.int j u)) Q E s) :
 OpR X f (rI0 fun i j => .int (g i j)):=by
 intro pins s σ H x y v u Q I rx ry h;obtain ⟨i,j,rfl,rfl,q⟩:=h;obtain ⟨t,rfl⟩:=rx;obtain ⟨t',rfl⟩:=ry;exact rule i j t t' s _ _ ⟨.int (g i j),H,I.tok _,⟨_,rfl⟩,q⟩
theorem u6 {f:e7->e7->Sem e7} {g:Int->Int->Bool}
 (rule:∀ (i j:Int) (t u:Tok) (s:g6) (Q:e7->g6->Prop) (E:e7->g6->Prop),Q (.bool (g i j)) s->Ee (model X.prog X.w) X.A (f (.int i t) (.int j u)) Q E s) :
 OpR X f (rI0 fun i j => .bl (g i j)):=by
 intro pins s σ H x y v u Q I rx ry h;obtain ⟨i,j,rfl,rfl,q⟩:=h;obtain ⟨t,rfl⟩:=rx;obtain ⟨t',rfl⟩:=ry;exact rule i j t t' s _ _ ⟨.bl (g i j),H,I,rfl,q⟩
def BB (i j:Int):Prop := 0<=j/\j<=1000000/\i.natAbs < 2 ^ 64
theorem op_add:OpR X (FP .Add) (rI0 fun i j => .int (i+j)):=zm fun _ _ _ _ _ _ _ q=>add_int q
theorem zn:OpR X (FP .Sub) (rI0 fun i j => .int (i - j)):=zm fun _ _ _ _ _ _ _ q=>sub_int q
theorem zo:OpR X (FP .Mod) (rI (fun _ j => 0 < j) fun i j => .int (i % j)):=opI fun i j _ _ _ _ _ z q=>by
 have h1:(0:Int) < j:=z;exact mod_int' (by omega) (by rw [Int.fmod_eq_emod_of_nonneg i (by omega)];exact q)
theorem zp:OpR X (FP .Pow) (rI BB fun i j => .int (i ^ j.toNat)):=opI fun _ _ _ _ _ _ _ z q=>pow_int_small z.1 z.2.1 z.2.2 q
theorem unI {f:e7->Sem e7} {g:Int->Int}
 (rule:∀ (i:Int) (t:Tok) (s:g6) (Q:e7->g6->Prop) (E:e7->g6->Prop),Q (.int (g i) s.toks) { s with toks:=s.toks+1 }->Ee (model X.prog X.w) X.A (f (.int i t)) Q E s) :
 UnR X f (rU fun i => .int (g i)):=by
 intro pins s σ H x v Q I rx h;obtain ⟨i,rfl,q⟩:=h;obtain ⟨t,rfl⟩:=rx;exact rule i t s _ _ ⟨.int (g i),H,I.tok _,⟨_,rfl⟩,q⟩
theorem zq:UnR X (unaryOp .USub) (rU fun i => .int (-i)):=unI fun _ _ _ _ _ q=>neg_int q
end
section
variable {X:Cx} {a b c:Expr} {ta tb tc:TE} {pos:Pos}
theorem AJ:OpR X (Ft .Lt) (rI0 fun i j => .bl (decide (i < j))):=u6 fun _ _ _ _ _ _ _ q=>lt_int q
theorem AK:OpR X (Ft .Gt) (rI0 fun i j => .bl (decide (j < i))):=u6 fun _ _ _ _ _ _ _ q=>gt_int q
theorem AL:OpR X (Ft .GtE) (rI0 fun i j => .bl (decide (j<=i))):=u6 fun _ _ _ _ _ _ _ q=>ge_int q
theorem OpR.or {f:e7->e7->Sem e7} {r r':R2} (h:OpR X f r) (h':OpR X f r'):OpR X f (fun x y H Q=>r x y H Q∨r' x y H Q):=by
 intro pins s σ H x y v u Q I rx ry q
 rcases q with q | q
 ·exact h pins s σ H x y v u Q I rx ry q
 ·exact h' pins s σ H x y v u Q I rx ry q
theorem wV {op:CmpOp} {r:R2} (ho:OpR X (Ft op) r) (j:PE X a ta) (z:PE X b tb) (hm:HG op b=false):PE X (.Compare a [op] [b] pos) (tOp r ta tb):=by
 intro pins s σ H Q I h;exact wpAny_Compare1 (u5 j z I h fun v u s2 x y H2 B rx ry q=>ho pins s2 σ H2 x y v u Q B rx ry q) hm
noncomputable def w9 (t:TE):TT:=fun σ H Q=>t σ H fun x H' => ∃ k,x = .bl k/\Q k H'
theorem wW {op:CmpOp} {r:R2} (ho:OpR X (Ft op) r) (j:PE X a ta) (q:PE X b tb) (hm:HG op b=false):PT X (.Compare a [op] [b] pos) (w9 (tOp r ta tb)):=by
 intro pins s σ H Q I h;refine wpAny_isTrue_Compare1 (thn (j pins s σ H _ I h) fun v s1 ⟨x,H1,B,F,G⟩=>thn (q pins s1 σ H1 _ B G) fun u s2 ⟨y,H2,J,L,O⟩ =>
  thn (ho pins s2 σ H2 x y v u _ J F L O) fun c s3 ⟨z,U,Y,Z,k,e,q3⟩ => ?_) hm
 subst e
 cases Z
 exact Gh ⟨U,Y,q3⟩
def u7 (K:Frag) (x:V) (H:Hp) (k:Bool):Prop :=
 match x with
 | .non=>k=false
 | .bl b=>k=b
 | .int i=>k=(i != 0)
 | .str y=>y.length<=D0/\k=((y.length:Int) != 0)
 | .byt y=>y.size<=D0/\k=((y.size:Int) != 0)
 | .ref p=>(∃ xs,SqL K H p xs/\k = !xs.isEmpty)∨(∃ xs,SqT K H p xs/\k = !xs.isEmpty) ∨ ∃ kvs,H p=some (.dK kvs)/\k = !kvs.isEmpty
 | _=>False
theorem p8 {κ:Type} {kvs:List (κ × V)} {vs:List (κ × e7)} (r:KV kvs vs):(!vs.isEmpty) = !kvs.isEmpty:=by
 cases r <;> rfl
theorem gT {xs:List V} {its:List e7} (r:Vals xs its):(!its.toArray.isEmpty) = !xs.isEmpty:=by
 cases r <;> simp
theorem em:(D0:Nat) < 2 ^ 63:=by rw [tv];decide
theorem zr:BA X (fun x H Q => ∃ k,u7 X.K x H k/\Q k H):=by
 intro pins s σ H x v Q I rx h;obtain ⟨k,e,q⟩:=h;have B:=em;have hs:D0=16777216:=tv
 cases x with
 | non =>
   cases rx
   have e':k=false:=e;subst e';exact truthy_none ⟨H,I,q⟩
 | bl b =>
   cases rx
   have e':k=b:=e;subst e';exact Gh ⟨H,I,q⟩
 | int i =>
   obtain ⟨t,rfl⟩:=rx;have e':k=(i != 0):=e;subst e';exact PySem.P.truthy_int ⟨H,I,q⟩
 | str y =>
   obtain ⟨t,rfl⟩:=rx;obtain ⟨j,e'⟩:y.length<=D0/\k=((y.length:Int) != 0):=e;subst e';exact PySem.P.truthy_str (by omega) ⟨H,I.tok _,q⟩
 | byt y =>
   obtain ⟨t,rfl⟩:=rx;obtain ⟨j,e'⟩:y.size<=D0/\k=((y.size:Int) != 0):=e;subst e';exact PySem.W.truthy_bytes (by omega) ⟨H,I.tok _,q⟩
 | ref p =>
   cases rx
   have e':(∃ xs,SqL X.K H p xs/\k = !xs.isEmpty)∨(∃ xs,SqT X.K H p xs/\k = !xs.isEmpty) ∨ ∃ kvs,H p=some (.dK kvs)/\k = !kvs.isEmpty:=e
   rcases e' with ⟨xs,hx,e'⟩ | ⟨xs,hx,e'⟩ | ⟨kvs,hx,e'⟩
   ·subst e';obtain ⟨its,r,pl,hz⟩:=I.list hx;have hlen:=r.length;exact wpAny_truthy_list pl.isList (by simp only [E9];omega) ⟨H,I.tok _,by rw [gT r];exact q⟩
   ·subst e';obtain ⟨its,r,pl,hz⟩:=I.tuple hx;have hlen:=r.length;exact truthy_tuple pl (by simp only [E9];omega) ⟨H,I.tok _,by rw [gT r];exact q⟩
   ·subst e';obtain ⟨hz,z,vs,r,m⟩:kvs.length<=D0/\(p==G6)=false /\ ∃ vs,KV kvs vs/\s.heap.DictOf (aS X.prog X.w) p vs:=I.hok p _ hx;have hlen:kvs.length=vs.length:=Gw r;exact wpAny_truthy_dict z m (by omega) ⟨H,I.tok _,by rw [p8 r];exact q⟩
 | _=>exact (show False from e).elim
theorem u8 (j:PE X a ta) (he:∀ whole,isTrue a X.env whole=(do let v <- whole;Jd a.pos;holding [v] (truthy v))) :
 PT X a (fun σ H Q=>ta σ H fun x H' => ∃ k,u7 X.K x H' k/\Q k H'):=by
 intro pins s σ H Q I h;exact isTrue_plain (thn (j pins s σ H _ I h) fun v s1 ⟨x,H1,q,z,B⟩=>zr pins s1 σ H1 x v Q q z B) (he _)
theorem p9:OpR X (FP .Add) (fun x y H Q => ∃ i j,x = .str i/\y = .str j/\i.length+j.length<=D0/\Q (.str (i++j)) H):=by
 intro pins s σ H x y v u Q I rx ry h;obtain ⟨i,j,rfl,rfl,hz,q⟩:=h;obtain ⟨t,rfl⟩:=rx;obtain ⟨t',rfl⟩:=ry;exact add_str (fun t' tk=>⟨.str (i++j),H,I.tok _,⟨_,rfl⟩,q⟩) hz
theorem cr {x:V} {us:List e7} (r:Vals [x] us):∃ u,us=[u]/\RelV x u:=by
 cases r with
 | cons j q=>cases q;exact ⟨_,rfl,j⟩
theorem ph {x y:V} {us:List e7} (r:Vals [x,y] us):∃ u w',us=[u,w']/\RelV x u/\RelV y w':=by
 cases r with
 | cons j q =>
   cases q with
   | cons z B=>cases B;exact ⟨_,_,rfl,j,z⟩
theorem u9:CallR X (.builtin "abs") (fun xs H Q => ∃ i,xs=[.int i]/\Q (.int (if i < 0 then -i else i)) H):=by
 intro pins s σ H xs us Q I r h;obtain ⟨i,rfl,q⟩:=h;obtain ⟨u,rfl,t,rfl⟩:=cr r;exact call_abs_int fun u tk=>⟨.int (if i < 0 then -i else i),H,I.tok _,⟨_,rfl⟩,q⟩
theorem qU (B:X.calm=true):CallR X (.builtin "min") (fun xs H Q => ∃ i j,xs=[.int i, .int j]/\Q (.int (if j < i then j else i)) H):=by
 intro pins s σ H xs us Q I r h;obtain ⟨i,j,rfl,q⟩:=h;obtain ⟨u,w',rfl,⟨t,rfl⟩,⟨t',rfl⟩⟩:=ph r;refine min_two_ints (I.ok.hd B) fun h' tk k=>⟨_,H,I.kept k, ?_,q⟩
 by_cases z:j < i
 ·rw [if_pos z,if_pos z];exact ⟨_,rfl⟩
 ·rw [if_neg z,if_neg z];exact ⟨_,rfl⟩
theorem qV:CallR X (.type "int") (fun xs H Q=>(∃ i,xs=[.int i]/\Q (.int i) H) ∨ ∃ k,xs=[.bl k]/\Q (.int (if k then 1 else 0)) H):=by
 intro pins s σ H xs us Q I r h
 rcases h with ⟨i,rfl,q⟩ | ⟨k,rfl,q⟩
 ·obtain ⟨u,rfl,t,rfl⟩:=cr r;exact call_int_int ⟨.int i,H,I,⟨_,rfl⟩,q⟩
 ·obtain ⟨u,rfl,j⟩:=cr r
  cases j
  exact call_int_bool ⟨.int (if k then 1 else 0),H,I.tok _,⟨_,rfl⟩,q⟩
def BC (K:Frag) (x:V) (H:Hp) (n:Nat):Prop :=
 match x with
 | .str y=>y.length<=D0/\n=y.length
 | .byt y=>y.size<=D0/\n=y.size
 | .ref p=>(∃ xs,SqL K H p xs/\n=xs.length) ∨ ∃ xs,SqT K H p xs/\n=xs.length
 | _=>False
theorem ua:CallR X (.builtin "len") (fun xs H Q => ∃ x n,xs=[x]/\BC X.K x H n/\Q (.int n) H):=by
 intro pins s σ H xs us Q I r h;obtain ⟨x,n,rfl,e,q⟩:=h;obtain ⟨u,rfl,rx⟩:=cr r;have z:=em;have hs:D0=16777216:=tv
 cases x with
 | str y =>
   obtain ⟨t,rfl⟩:=rx;obtain ⟨j,e'⟩:y.length<=D0/\n=y.length:=e;subst e';exact len_str (by omega) ⟨.int _,H,I.tok _,⟨_,rfl⟩,q⟩
 | byt y =>
   obtain ⟨t,rfl⟩:=rx;obtain ⟨j,e'⟩:y.size<=D0/\n=y.size:=e;subst e';exact PySem.W.len_bytes (by omega) ⟨.int _,H,I.tok _,⟨_,rfl⟩,q⟩
 | ref p =>
   cases rx
   have e':(∃ xs,SqL X.K H p xs/\n=xs.length) ∨ ∃ xs,SqT X.K H p xs/\n=xs.length:=e
   rcases e' with ⟨xs,hx,e'⟩ | ⟨xs,hx,e'⟩
   ·subst e';obtain ⟨its,r',pl,hz⟩:=I.list hx;have hlen:=r'.length;exact Calls.call_len_list pl.isList (by simp only [E9];omega) ⟨.int xs.length,H,I.tok _,⟨_,by simp only [E9];rw [hlen]⟩,q⟩
   ·subst e';obtain ⟨its,r',pl,hz⟩:=I.tuple hx;have hlen:=r'.length;exact len_tuple pl (by simp only [E9];omega) ⟨.int xs.length,H,I.tok _,⟨_,by simp only [E9];rw [hlen]⟩,q⟩
 | _=>exact (show False from e).elim
end
end
section
structure ObjM (h:Heap) (x dx C:Addr) (mA:Str->Option e7):Prop where
 obj:h.get? x=some (Kq C dx)
 ns:h.Ns1 dx mA
 ne:dx≠x
theorem qW {h:Heap} {dx:Addr} {mA:Str->Option e7} (n:h.Ns1 dx mA):∃ od,h.get? dx=some od /\ ∀ name,KL name od=some (mA name):=by
 obtain ⟨o,es,ep,ho,hd,B,_,hm⟩:=n;refine ⟨o,ho,fun name => ?_⟩;have e:=hm name;unfold nsFind findBy at e;rw [<- Array.find?_toList] at e;unfold KL;rw [hd];dsimp only
 split
 ·rename_i y q;rw [q] at e;exact congrArg some e
 ·rename_i q;rw [q] at e;have a:es.toList.any (·.refKey)=false:=by
   rw [List.any_eq_false];intro y F;obtain ⟨z,t,j⟩:=B y (Array.mem_toList_iff.mp F);simp [DictEntry.refKey,j]
  have a' : ¬ es.toList.any (·.refKey)=true:=by rw [a];exact D2
  rw [if_neg a'];exact congrArg some e
theorem ObjM.look {h:Heap} {x dx C:Addr} {mA:Str->Option e7} (I:ObjM h x dx C mA):∃ od,PySem.W.InstAt h x (Kq C dx) C (some od) /\ ∀ name,KL name od=some (mA name) :=
 let ⟨od,ho,j⟩:=qW I.ns
 ⟨od,⟨I.obj,rfl,rfl,ho⟩,j⟩
theorem Ol {v:V} {o:Option e7} (r:RelO (some v) o):∃ u,o=some u/\RelV v u:=by
 cases o with
 | none=>exact (show False from r).elim
 | some u=>exact ⟨u,rfl,r⟩
section
variable {P:Er} {w:EH} {H H':Hp} {h h':Heap} {a C dx:Addr} {fs fs':List (Str×V)}
theorem wX (hok:HOk P w H h) (e:H a=some (.ins C dx fs)):∃ mA,ObjM h a dx C mA/\(∀ f,RelO (fs.lookup f) (mA f))/\PySem.Within mA (fs.map (·.1))/\fs.length<=1000/\H dx=some (.own a):=by
 obtain ⟨d,z,ne,ob,mA,n,r,q⟩:=(show ObjOk P w H h a (.ins C dx fs) from hok a _ e);exact ⟨mA,⟨ob,n,ne⟩,r,q,z,d⟩
end
structure Cls (K:Frag) (C:Addr):Prop where
 pg:MD K C Str.empty=true
 hd:PySem.W.hasDictIn K C=true
 po:PySem.W.plainOver K C=true
 sa:PySem.W.findIn K (.ref C) "__setattr__" = some (some (.builtin "object.__setattr__"))
theorem Cls.get {K:Frag} {C:Addr} (c:Cls K C) (f:Str):MD K C f=true:=c.pg
section
variable {X:Cx} {pins:List (Addr×Obj)} {σ:St} {H:Hp} {s:g6} {A:EK} {E:e7->g6->Prop} {Q:e7->g6->Prop} {c:e7} {b:Bool}
inductive bF (K:Frag) (H:Hp):V->e7->Prop where
 | non:bF K H .non (.type "NoneType")
 | bl (x:Bool):bF K H (.bl x) (.type "bool")
 | int (i:Int):bF K H (.int i) (.type "int")
 | str (x:Str):bF K H (.str x) (.type "str")
 | flt (x:UInt64):bF K H (.flt x) (.type "float")
 | lst {a:Addr} {xs:List V} (e:H a=some (.lst xs)):bF K H (.ref a) (.type "list")
 | frz {a:Addr} {o:Obj} {xs:List V} (e:H a=some (.frz o (.lst xs))):bF K H (.ref a) (.type "list")
 | tup {a:Addr} {xs:List V} (e:SqT K H a xs):bF K H (.ref a) (.type "tuple")
 | dK {a:Addr} {kvs:List (Key×V)} (e:H a=some (.dK kvs)):bF K H (.ref a) (.type "dict")
 | dT {a:Addr} {kvs:List (List Key×V)} (e:H a=some (.dT kvs)):bF K H (.ref a) (.type "dict")
 | ins {a C dx:Addr} {fs:List (Str×V)} (e:H a=some (.ins C dx fs)) (cl:Cls K C) (ha:PySem.W.findIn K (.ref C) "__class__" = some (some (.builtin "object.__class__")))
    (hn:PySem.W.specialIn K (.builtin "object.__class__") "__get__" = some (some (.builtin "getset_descriptor.__get__"))) (htk:PySem.W.takesIn K (.builtin "object.__class__")=some true)
    (hm:PySem.W.mroIn K C (.type "object")=some true):bF K H (.ref a) (.ref C)
theorem qX {x:V} {u t:e7} (I:Inv X pins σ H s) (rx:RelV x u) (ty:bF X.K H x t) (e:PySem.W.kitOne X.K t c=some b) (h:∀ tk,Q (.bool b) { s with toks:=tk }) :
 Ee (model X.prog X.w) A (call (.builtin "isinstance") [u,c]) Q E s:=by
 cases ty with
 | non=>cases (show u=Hs from rx);exact Fz LZ I.kIn Fv e (fun z=>nomatch z) h
 | bl y=>cases (show u=Jl y from rx);exact Fz Ma I.kIn Fv e (fun z=>nomatch z) h
 | int i=>obtain ⟨t,q⟩:=(show ∃ t,u=Iw i t from rx);cases q;exact Fz MJ I.kIn Fv e (fun z=>nomatch z) h
 | str y=>obtain ⟨t,q⟩:=(show ∃ t,u=Lf y t from rx);cases q;exact Fz MK I.kIn Fv e (fun z=>nomatch z) h
 | flt y=>obtain ⟨t,q⟩:=(show ∃ t,u=Nb y t from rx);cases q;exact Fz LF I.kIn Fv e (fun z=>nomatch z) h
 | @lst a xs ea =>
  cases (show u=ES a from rx)
  obtain ⟨_,_,n,_,h1⟩:=(show ObjOk X.prog X.w H s.heap a (.lst xs) from I.hok a _ ea);exact Fz Ic I.kIn ⟨_,h1,rfl⟩ e (fun z=>nomatch z) h
 | @frz a ob xs ea =>
  cases (show u=ES a from rx)
  obtain ⟨_,_,_,n,_,h1⟩:=(show ObjOk X.prog X.w H s.heap a (.frz ob (.lst xs)) from I.hok a _ ea);exact Fz Ic I.kIn ⟨_,h1,rfl⟩ e (fun z=>nomatch z) h
 | @tup a xs ea =>
  cases (show u=ES a from rx)
  obtain ⟨_,_,p,_⟩:=I.tuple ea;obtain ⟨o,h1,h2,_⟩:=p;exact Fz LG I.kIn ⟨o,h1,h2⟩ e (fun z=>nomatch z) h
 | @dK a kvs ea =>
  cases (show u=ES a from rx)
  obtain ⟨_,_,vs,_,p⟩:=(show ObjOk X.prog X.w H s.heap a (.dK kvs) from I.hok a _ ea);obtain ⟨o,es,ep,h1,h2,_⟩:=p;exact Fz Ie I.kIn ⟨o,h1,h2.1⟩ e (fun z=>nomatch z) h
 | @dT a kvs ea =>
  cases (show u=ES a from rx)
  obtain ⟨_,_,xs,_,o,es,ep,h1,h2,_⟩:=(show ObjOk X.prog X.w H s.heap a (.dT kvs) from I.hok a _ ea);exact Fz Ie I.kIn ⟨o,h1,h2.1⟩ e (fun z=>nomatch z) h
 | @ins a C dx fs ea cl ha hn htk hm =>
  cases (show u=ES a from rx)
  obtain ⟨mA,O,_⟩:=wX I.hok ea;obtain ⟨od,J,_⟩:=O.look;exact Fz (PySem.W.kitx_own (cl.get _) cl.hd ha hn htk hm) I.kIn J e (fun z=>nomatch z) h
end
end
section
structure Room (k:Nat) (A:EK):Prop where
 hd:A.handled=none
 dp:A.depth+3*k+5 < recursionLimit
 un:A.units+16*k+200 < G0
theorem Room.deeper {k:Nat} {A:EK} (r:Room (k+1) A) (env:Env):Room k (A.deeper env) :=
 ⟨r.hd,by have:=r.dp;show A.depth+1+3*k+5 < _;omega,by have:=r.un;show A.units+3+16*k+200 < _;omega⟩
theorem Room.depth {k:Nat} {A:EK} (r:Room k A):A.depth < recursionLimit:=by have:=r.dp;omega
theorem Room.units {k:Nat} {A:EK} (r:Room k A):A.units+64 < G0:=by have:=r.un;omega
noncomputable def zt:TA:=fun _ H Q=>Q [] H
noncomputable def wa (ta:TE) (tr:TA):TA:=fun σ H Q=>ta σ H fun x H1=>tr σ H1 fun xs H2=>Q (x::xs) H2
section
variable {X:Cx} {e:Expr} {es:List Expr} {te:TE} {t:TA} {pos:Pos}
theorem gU:PA X [] zt:=fun _ _ _ _ H Q I h=>Mb ⟨[],H,I, .nil,h⟩
theorem cg (j:PE X e te) (q:PA X es t) (hs:Et (e::es) X.env=(false,eval e X.env)::Et es X.env:=by rfl):PA X (e::es) (wa te t):=by
 intro pos pins s σ H Q I h;rw [hs];show Ee _ _ (spliced ((false,eval e X.env)::Hk pos (Et es X.env))) _ _ s;refine Jq (thn (j pins s σ H _ I h) fun u s1 ⟨x,H1,z,B,F⟩ => ?_);exact thn (q pos pins s1 σ H1 _ z F) fun us s2 ⟨xs,H2,G,J,L⟩=>⟨x::xs,H2,G, .cons B J,L⟩
noncomputable def BD (t:TA):TE:=fun σ H Q=>t σ H fun xs H1=>xs.length<=D0 /\ ∀ p,H1 p=none->Q (.ref p) (upd H1 p (.tup xs))
noncomputable def BE (t:TA):TE:=fun σ H Q=>t σ H fun xs H1=>xs.length<=D0 /\ ∀ p,H1 p=none->Q (.ref p) (upd H1 p (.lst xs))
theorem qY {B} (h:PA X es t):PE X (.Tuple es B pos) (BD t):=by
 intro pins s σ H Q I hq;refine wpAny_Tuple_spliced (thn (h pos pins s σ H _ I hq) fun us s1 ⟨xs,H1,j,r,z,q⟩=>⟨by rw [<- r.length];exact z, ?_⟩)
 have hf:H1 s1.heap.objs.size=none:=j.hok.fresh (Ec _);refine ⟨.ref s1.heap.objs.size,upd H1 s1.heap.objs.size (.tup xs),j.laid (t':=s1.toks) (fun b u e=>g0 _ e) (Ec _) ?_,rfl,q _ hf⟩;exact ⟨z,us,r,⟨_,D1 _ rfl,rfl,_,rfl⟩⟩
theorem zu (h:PA X es t):PE X (.List es pos) (BE t):=by
 intro pins s σ H Q I hq;refine wpAny_List_spliced (thn (h pos pins s σ H _ I hq) fun us s1 ⟨xs,H1,j,r,z,q⟩=>⟨by rw [<- r.length];exact z, ?_⟩)
 have hf:H1 s1.heap.objs.size=none:=j.hok.fresh (Ec _);refine ⟨.ref s1.heap.objs.size,upd H1 s1.heap.objs.size (.lst xs),j.laid (t':=s1.toks) (fun b u e=>g0 _ e) (Ec _) ?_,rfl,q _ hf⟩;exact ⟨z,us,0,r,D1 _ rfl⟩
end
noncomputable abbrev Sp:=List V->Hp->VK->XK->Prop
noncomputable abbrev CXT:=List Env->Hp->g6->XK->e7->g6->Prop
structure pi (P:Er) (w:EH) (K:Frag) (mg:Str->Option e7) (base:Heap) (A:EK) (outer:List Env) (s:g6) (H:Hp):Prop where
 frames:A.frames=some outer
 mod:Mod K mg base
 bs:∀ b o,base.get? b=some o->s.heap.get? b=some o/\H b=none
 bsz:base.objs.size<=s.heap.objs.size
 funs:s.heap.FunFrames base outer
 frf:∀ b∈frs outer,H b=none
 hok:HOk P w H s.heap
 bare:JM s.gens
def CE (outer:List Env) (P:Er) (w:EH) (H:Hp) (s:g6) (Q:VK) (u:e7) (s':g6):Prop :=
 ∃ v H',s'.os=s.os/\JM s'.gens/\Un (frs outer) [] H H' s.heap s'.heap/\HOk P w H' s'.heap/\RelV v u/\Q v H'
def CR (CX:CXT) (outer:List Env) (P:Er) (w:EH) (H:Hp) (s:g6) (Q:VK) (E:XK) (r:NF) (s':g6):Prop :=
 match r with
 | .ok (.ret u)=>CE outer P w H s Q u s'
 | .ok _=>False
 | .error e=>CX outer H s E e s'
structure cY (P:Er) (w:EH) (K:Frag) (mg:Str->Option e7) (base:Heap) (CX:CXT) (k:Nat) (f:Addr) (fd:Ht) (ps:List Str) (sp:Sp):Prop where
 len:∀ vs H Q E,sp vs H Q E->vs.length=ps.length
 run:∀ (A:EK) (outer:List Env) (s:g6) (H:Hp) (args:Args) (us:List e7) (vs:List V) (Q:VK) (E:XK),Room k A->pi P w K mg base A outer s H->Mc s fd args (ps.zip us)->Vals vs us->sp vs H Q E ->
  HS (model P w) A (.call (.ref f) args) (CR CX outer P w H s Q E) s
section
variable {X:Cx} {pins:List (Addr×Obj)} {σ:St} {H:Hp} {s s':g6}
theorem Inv.env0 (I:Inv X pins σ H s):pi X.prog X.w X.K X.mg X.base X.A X.stack s H :=
 ⟨I.ok.frames,I.ok.mod,I.bs,Fb I.ok.bsz I.sz,I.stack,I.stkFree,I.hok,I.bare⟩
theorem Inv.after {Q:VK} {u:e7} (I:Inv X pins σ H s) (h:CE X.stack X.prog X.w H s Q u s'):EP X pins σ Q u s':=by
 obtain ⟨v,H',os,bare,un,hok,r,q⟩:=h;obtain ⟨j,g,d,t,os'⟩:=s';obtain rfl:os'=s.os:=os;exact ⟨v,H',I.call (h':=j) (g':=g) (d':=d) (t':=t) (ch := []) un hok bare (fun b z=>absurd z (by simp)),r,q⟩
end
noncomputable def wb (sp:Sp) (dvs:List V) (E:XK) (t:TA):TE:=fun σ H Q=>t σ H fun vs H1=>sp (vs++dvs) H1 Q E
def Binds (K:Frag) (fd:Ht) (ps:List Str) (ds:List e7):Prop :=
 ∀ (s:g6) (us:List e7),K.In s.heap->(us++ds).length=ps.length->Mc s fd ⟨us,[]⟩ (ps.zip (us++ds))
theorem Binds.all {K:Frag} {fd:Ht} {ps:List Str} (h:∀ us:List e7,us.length=ps.length->bindArgs fd ⟨us,[]⟩=pure (ps.zip us)):Binds K fd ps []:=fun s us _ j=>by
 rw [F8] at j ⊢;exact .of_eq (h us j)
def gW (CX:CXT) (X:Cx) (E:XK):Prop := ∀ (pins:List (Addr×Obj)) (σ:St) (H:Hp) (s:g6) (e:e7) (s':g6),Inv X pins σ H s->CX X.stack H s E e s'->X.xe e s'
section
variable {X:Cx} {CX:CXT} {k:Nat} {f C:Addr} {fd:Ht} {ps:List Str} {sp:Sp} {dvs:List V} {ds:List e7} {E:XK} {x m:Str} {p pos apos:Pos} {e o:Expr} {es:List Expr} {ta:TE} {t:TA}
theorem qZ {pins:List (Addr×Obj)} {σ:St} {H:Hp} {s:g6} {Q:VK} {us:List e7} {vs:List V} (F:cY X.prog X.w X.K X.mg X.base CX k f fd ps sp) (z:Room k X.A) (B:Binds X.K fd ps ds) (hd:Vals dvs ds) (hx:gW CX X E)
 (I:Inv X pins σ H s) (r:Vals vs us) (h:sp (vs++dvs) H Q E):Ee (model X.prog X.w) X.A (call (.ref f) us) (EP X pins σ Q) X.xe s:=by
 have q:Vals (vs++dvs) (us++ds):=r.append hd;have G:(us++ds).length=ps.length:=by rw [<- q.length];exact F.len _ _ _ _ h
 refine NG (Je (F.run X.A X.stack s H ⟨us,[]⟩ (us++ds) (vs++dvs) Q E z I.env0 (B s us I.kIn G) q h) fun r s' j => ?_)
 cases r with
 | error e=>exact hx pins σ H s e s' I j
 | ok fl =>
   cases fl with
   | ret u=>exact I.after j
   | next=>exact False.elim j
   | brk=>exact False.elim j
   | cont=>exact False.elim j
theorem wY (F:cY X.prog X.w X.K X.mg X.base CX k f fd ps sp) (G:Room k X.A) (J:Gl X x) (hm:X.mg x=some (.ref f)) (L:Hu X.K (.ref f)=true) (O:Binds X.K fd ps ds) (hd:Vals dvs ds) (hx:gW CX X E)
 (U:PA X (e::es) t) (j:(x==("__debug__":Str))=false:=by decide) (he:Et (e::es) X.env=(false,eval e X.env)::Et es X.env:=by rfl) (z:(Hk pos (Et es X.env)).any (·.1)=false:=by rfl) :
 PE X (.Call (.Name x p) (e::es) [] pos) (wb sp dvs E t):=by
 intro pins s σ H Q I h;refine H9 (nW I J hm ?_ j);refine PySem.W.callWith_K (h₀ := X.base) I.ok.mod.kin L (thn (U pos pins s σ H _ I h) fun us s1 ⟨vs,H1,B,r,q⟩=>⟨B.kIn, ?_⟩) he z;exact qZ F G O hd hx B r q
theorem ub (F:cY X.prog X.w X.K X.mg X.base CX k f fd ps sp) (q:Room k X.A) (z:Gl X x) (hm:X.mg x=some (.ref f)) (B:Hu X.K (.ref f)=true) (G:Binds X.K fd ps ds) (hd:Vals dvs ds) (hx:gW CX X E)
 (j:(x==("__debug__":Str))=false:=by decide):PE X (.Call (.Name x p) [] [] pos) (wb sp dvs E zt):=by
 intro pins s σ H Q I h;refine H9 (nW I z hm ?_ j);exact PySem.W.callWith_K0 I.kIn B (qZ (us := []) F q G hd hx I .nil h)
end
structure eW (N P:List Str) (sc:Scope):Prop where
 kind:sc.kind = .function
 co:sc.isCoroutine=false
 gen:sc.isGenerator=false
 nd:N.Nodup
 pre:N.take P.length=P
 par:∀ x∈P,sc.names.lookup x=some .local∨sc.names.lookup x=some .cell
 nofree:∀ y∈sc.names,y.2 ≠ .free
theorem jm {FH:Str->Option GU} {x:Str}:∀ {binds:List (Str×e7)} {m:Str->Option e7},(∀ v,(x,v)∉binds)->NH FH binds m x=m x
 | [],_,_=>rfl
 | (n,v)::r,m,h=>by
  unfold NH;rw [jm fun w hw=>h w (Ez _ hw)]
  split
  ·have:x≠n:=by rintro rfl;exact h v Fl
   simp [this]
  ·rfl
theorem jn {FH:Str->Option GU} {x:Str}:∀ {binds:List (Str×e7)} {m:Str->Option e7},(∀ v,(x,v)∉binds)->NI FH binds m x=m x
 | [],_,_=>rfl
 | (n,v)::r,m,h=>by
  unfold NI;rw [jn fun w hw=>h w (Ez _ hw)]
  split
  ·rfl
  ·have:x≠n:=by rintro rfl;exact h v Fl
   simp [this]
theorem jo {FH:Str->Option GU} {x:Str} {v:e7}:∀ {P:List Str} {vs:List e7} {i:Nat} {m:Str->Option e7},P.Nodup->P[i]? = some x->vs[i]? = some v->FH x=some .local ->
 NH FH (P.zip vs) m x=some v
 | [],_,_,_,_,h,_,_=>by simp at h
 | _::_,[],_,_,_,_,h,_=>by simp at h
 | p::P,w::vs,0,m,nd,h1,h2,j=>by
   simp at h1 h2;subst h1;subst h2;show NH FH ((p,w)::P.zip vs) m p=_;unfold NH;rw [jm fun v q=>(Hd.mp nd).1 (Ks q).1,if_pos j];simp
 | p::P,w::vs,i+1,m,nd,h1,h2,j=>by
   show NH FH ((p,w)::P.zip vs) m x=_;unfold NH;exact jo (i:=i) (Hd.mp nd).2 (by simpa using h1) (by simpa using h2) j
theorem jq {FH:Str->Option GU} {x:Str} {v:e7}:∀ {P:List Str} {vs:List e7} {i:Nat} {m:Str->Option e7},P.Nodup->P[i]? = some x->vs[i]? = some v->FH x≠some .local ->
 NI FH (P.zip vs) m x=some v
 | [],_,_,_,_,h,_,_=>by simp at h
 | _::_,[],_,_,_,_,h,_=>by simp at h
 | p::P,w::vs,0,m,nd,h1,h2,j=>by
   simp at h1 h2;subst h1;subst h2;show NI FH ((p,w)::P.zip vs) m p=_;unfold NI;rw [jn fun v q=>(Hd.mp nd).1 (Ks q).1,if_neg j];simp
 | p::P,w::vs,i+1,m,nd,h1,h2,j=>by
   show NI FH ((p,w)::P.zip vs) m x=_;unfold NI;exact jq (i:=i) (Hd.mp nd).2 (by simpa using h1) (by simpa using h2) j
noncomputable def cu (N:List Str) (vs:List V):St:=vs.map some++Em (N.length - vs.length) none
noncomputable def fZ (CX:CXT) (P:Er) (w:EH) (K:Frag) (mg:Str->Option e7) (base:Heap) (N:List Str) (qual:Str) (scope:Scope) (f:Addr) (cd:e7) (A:EK) (outer:List Env) (s:g6) (H:Hp) (E:XK):Cx where
 prog:=P
 w:=w
 K:=K
 mg:=mg
 base:=base
 A:=A.deeper (KN qual scope s.heap.objs.size f cd)
 N:=N
 s₀ := s
 H₀ := H
 env:=KN qual scope s.heap.objs.size f cd
 outer:=outer
 stack:=KN qual scope s.heap.objs.size f cd::outer
 ex := []
 calm:=true
 fn:=fun _=>true
 pn := []
 xe:=fun e s'=>Ee (model P w) (A.deeper (KN qual scope s.heap.objs.size f cd)) (leaving (KN qual scope s.heap.objs.size f cd) e) (fun _ s''=>CX outer H s E e s'') (fun e' s''=>CX outer H s E e' s'') s'
theorem kz {sc:Scope} {n:Nat} {x:Str} (h:sc.names.lookup x=some .cell):∃ c,(Gj n sc.names []).lookup x=some c:=by
 have q:=Ig sc.names n [] (.inl h);exact GL.mp q
theorem r0 {CX:CXT} {P:Er} {w:EH} {K:Frag} {mg:Str->Option e7} {base:Heap} {N ps:List Str} {qual:Str} {scope:Scope} {f:Addr} {cd:e7} {A:EK} {outer:List Env} {s s1:g6} {H:Hp} {E:XK} {us:List e7} {vs:List V}
 (S:eW N ps scope) (hd:A.handled=none) (j:pi P w K mg base A outer s H) (U:vs.length=ps.length) (r:Vals vs us)
 (x:InCallC s s.heap.objs.size (NH (KN qual scope s.heap.objs.size f cd).kindOf (ps.zip us) fun _=>none) (Gj (s.heap.objs.size+1) scope.names []) (NI (KN qual scope s.heap.objs.size f cd).kindOf (ps.zip us) fun _=>none) s1) :
 Inv (fZ CX P w K mg base N qual scope f cd A outer s H E) [] (cu N vs) H s1:=by
 have L:ps.length<=N.length:=by have:=congrArg GZ S.pre;rw [EE] at this;omega
 obtain ⟨h1,tk,rfl,G⟩:=x.done;have noA:∀ b:Addr,b∉(fZ CX P w K mg base N qual scope f cd A outer s H E).ex:=fun b z=>absurd (show b∈([]:List Addr) from z) (by simp)
 refine ⟨⟨j.mod,S.kind,rfl,rfl,Ec _,fun y z c h1 h2 => ?_,fun y B => ?_,fun y c _ h => ?_,fun _=>hd,Around.frames_deeper j.frames, .inr ⟨rfl,rfl⟩,fun b z=>absurd z (noA b),j.bs,j.bsz,fun b _ _=>noA b,fun b z=>absurd z (noA b),j.funs,j.frf⟩,
  rfl,j.bare,Un.kept G,⟨_,x.toInCall.ns,fun i y v h1 h2 Y => ?_⟩,fun y c h=>⟨_,x.cell y c h⟩,j.hok.fresh (Ec _),fun y c h => ?_,fun p F=>absurd (show p∈([]:List (Addr×Obj)) from F) (by simp),j.hok.kept G, ?_⟩
 ·exact name_of_addr x.apart (FI h1) (FI h2)
 ·have B:scope.names.lookup y=some .cell∨scope.names.lookup y=some .free:=B
  rcases B with B | B
  ·exact kz B
  ·exact absurd rfl (S.nofree _ (FI B))
 ·exact Hy (x.above y c (FI h))
 ·have hi:i < vs.length:=by
   unfold cu at h2
   by_cases hi:i < vs.length
   ·exact hi
   ·rw [hH (by simpa using hi)] at h2
    rw [JY] at h2
    split at h2 <;> cases h2
  have O:vs[i]? = some v:=by
   unfold cu at h2;rw [Ef (by simpa using hi),Eo] at h2
   cases e:vs[i]? with
   | none=>rw [e] at h2;cases h2
   | some a=>rw [e] at h2;cases h2;rfl
  obtain ⟨u,J,rv⟩:=r.get O;have F:ps[i]? = some y:=by
   rw [<- S.pre,HH (by omega)];exact h1
  have ndP:ps.Nodup:=by rw [<- S.pre];exact S.nd.sublist (List.take_sublist _ _)
  refine ⟨u,rv, ?_⟩
  rcases S.par y (EI F) with k | k
  ·exact .inl ⟨k,jo ndP F J k⟩
  ·obtain ⟨c,e⟩:=kz (n:=s.heap.objs.size+1) k;refine .inr ⟨.inl k,c,e, ?_⟩;have q:=x.cell y c e;rw [jq ndP F J (by show scope.names.lookup y≠_;rw [k];decide)] at q
   exact q
 ·exact j.hok.fresh (Hy (x.above y c (FI h)))
 ·unfold cu;show _=N.length;rw [r4,Eg,List.length_replicate];omega
theorem AM {CX:CXT} {P:Er} {w:EH} {K:Frag} {mg:Str->Option e7} {base:Heap} {k:Nat} {f:Addr} {name qual:Str} {params:Arguments} {body:List Stmt} {scope:Scope} {dV kV doc pm cdv ct oc:e7} {an od:Option Addr}
 {osl:Array (Option e7)} {N ps:List Str} {sp:Sp} (lk:K.lookup f=some ⟨oc,od, .func (Ha name qual params body scope dV kV doc pm an cdv ct),osl⟩) (G:Jr K cdv qual=true) (S:eW N ps scope)
 (len:∀ vs H Q E,sp vs H Q E->vs.length=ps.length)
 (j:∀ (A:EK) (outer:List Env) (s:g6) (H:Hp) (vs:List V) (Q:VK) (E:XK),Room k (A.deeper (KN qual scope s.heap.objs.size f cdv))->sp vs H Q E ->
   ∃ t,PSs (fZ CX P w K mg base N qual scope f cdv A outer s H E) body t/\t { nx:=fun _ H'=>Q .non H',rt:=Q } (cu N vs) H) :
 cY P w K mg base CX (k+1) f (Ha name qual params body scope dV kV doc pm an cdv ct) ps sp:=by
 refine ⟨len,fun A outer s H args us vs Q E L B O r F => ?_⟩;have U:=len _ _ _ _ F;have KX:K.In s.heap:=B.mod.kin.keeps fun b o e=>(B.bs b o e).1;have lim:s.heap.NoLimit:=B.mod.nolimit.keeps fun b o e=>(B.bs b o e).1;have z:∀ y∈ps.zip us,scope.names.lookup y.1=some .local∨(scope.names.lookup y.1=some .cell/\((Gj (s.heap.objs.size+1) scope.names []).lookup y.1).isSome=true):=fun ⟨n,v⟩ hy=>by
  rcases S.par n (Ks hy).1 with q | q
  ·exact .inl q
  ·exact .inr ⟨q,Ig _ _ _ (.inl q)⟩
 refine codeAny_call_function L.depth (KX _ _ lk) rfl S.co S.gen rfl (PySem.W.codeRec_of KX G) (O _ _ _ _ ?_);refine wpAny_newFunctionEnv_cells S.kind z fun env he s1 x => ?_;subst he;refine ⟨lim.keeps x.toInCall.keep,codeAny_func ?_⟩;obtain ⟨t,Y,Z⟩:=j A outer s H vs Q E (L.deeper _) F;have I:Inv (fZ CX P w K mg base N qual scope f cdv A outer s H E) [] (cu N vs) H s1:=r0 S L.hd B U r x;refine G7 (Y [] s1 (cu N vs) H _ I Z) (fun fl s' hs => ?_) fun e s' hs=>hs;have fin:∀ {σ':St} {H':Hp} {v:V} {u:e7},Inv (fZ CX P w K mg base N qual scope f cdv A outer s H E) [] σ' H' s'->RelV v u->Q v H'->CE outer P w H s Q u s' :=
  fun {σ' H' v u} J rv q=>⟨v,H',J.os,J.bare,J.base,J.hok,rv,q⟩
 cases fl with
 | ret u =>
   obtain ⟨v, σ',H',J,rv,q⟩:=hs;exact fin J rv q
 | next =>
   obtain ⟨σ',H',J,q⟩:=hs;exact fin (v:=V.non) (u:=Hs) J rfl q
 | brk =>
   obtain ⟨_,_,_,q⟩:=hs;exact False.elim q
 | cont =>
   obtain ⟨_,_,_,q⟩:=hs;exact False.elim q
end
section
section
variable {X:Cx} {x:Str} {p pos:Pos} {e:Expr} {es:List Expr} {t:TA} {id T:String} {r:List V->Hp->VK->Prop}
noncomputable def tCB (r:List V->Hp->VK->Prop) (t:TA):TE:=fun σ H Q=>t σ H fun vs H1=>r vs H1 Q
theorem bp (z:CallR X (.builtin id) r) (B:Gl X x) (hm:X.mg x=none) (F:Gs x=some (.builtin id)) (G:PA X (e::es) t) (J:x ≠ "__name__" := by decide) (j:(x==("__debug__":Str))=false:=by decide)
 (he:Et (e::es) X.env=(false,eval e X.env)::Et es X.env:=by rfl) (q:(Hk pos (Et es X.env)).any (·.1)=false:=by rfl):PE X (.Call (.Name x p) (e::es) [] pos) (tCB r t):=by
 intro pins s σ H Q I h;refine H9 (cX I B hm F ?_ J j);exact PyProof.Rows.callWith_builtin1 (thn (G pos pins s σ H _ I h) fun us s1 ⟨vs,H1,L,O,U⟩=>z pins s1 σ H1 vs us Q L O U) he q
theorem et (z:CallR X (.type T) r) (B:Gl X x) (hm:X.mg x=none) (F:Gs x=some (.type T)) (G:PA X (e::es) t) (J:x ≠ "__name__" := by decide) (j:(x==("__debug__":Str))=false:=by decide)
 (he:Et (e::es) X.env=(false,eval e X.env)::Et es X.env:=by rfl) (q:(Hk pos (Et es X.env)).any (·.1)=false:=by rfl):PE X (.Call (.Name x p) (e::es) [] pos) (tCB r t):=by
 intro pins s σ H Q I h;refine H9 (cX I B hm F ?_ J j);exact Gu (thn (G pos pins s σ H _ I h) fun us s1 ⟨vs,H1,L,O,U⟩=>z pins s1 σ H1 vs us Q L O U) he q
end
end
end L2
namespace HT
open PySem PyProof.Rows
noncomputable def lexLt:List Int->List Int->Bool
 | [],[] => false
 | [],_::_=>true
 | _::_,[] => false
 | x::xs,y::ys=>if x=y then lexLt xs ys else decide (x < y)
theorem lexLt_cons (x y:Int) (xs ys:List Int):lexLt (x::xs) (y::ys)=if x=y then lexLt xs ys else decide (x < y):=rfl
theorem jW:lexLt [] []=false:=rfl
theorem iS (y:Int) (ys:List Int):lexLt [] (y::ys)=true:=rfl
theorem iT (x:Int) (xs:List Int):lexLt (x::xs) []=false:=rfl
theorem uc (A:EK) (s:g6) (a:Int) (t:Tok) (c:Int) (u:Tok):∃ e,SeqAt.EqAt A s (.int a t) (.int c u) e/\(e=true↔a=c) :=
 ⟨(a==c),SeqAt.EqAt.int_int a t c u,by simp⟩
theorem ud (A:EK) (s:g6) (a:Int) (t:Tok) (c:Int) (u:Tok) (prog:Er) (w:EH) (E:e7->g6->Prop) (Q:e7->g6->Prop) (h:Q (.bool (decide (a < c))) s) :
 Ee (model prog w) A (IT .Lt (.int a t) (.int c u)) Q E s :=
 (PyProof.Rows.lt_int h:Ee (model prog w) A (Ft .Lt (.int a t) (.int c u)) Q E s)
section
open PySem.SeqAt
open PySem.AutoSeq1 (wpAny_loadPart')
open PySem.MeetsSeq PySem.MeetsSeq2 PySem.MeetsSeq3
theorem jX (l b:Addr) (items j:Array e7) (n n2:Nat) (dd Z:Option Addr) (sl BY:Array (Option e7)) (ns ms:List Int) (hi:HU items.toList ns) (hj:HU j.toList ms) :
 Meets (GI.«tuple.__lt__» ⟨[.ref l, .ref b],[]⟩)
  (fun _ R s=>s.heap.get? l=some { cls := .type "tuple",dict:=dd,data := .seq items n,slots:=sl }/\s.heap.get? b=some { cls := .type "tuple",dict:=Z,data := .seq j n2,slots:=BY } /\
    R (.ok (.ret (.bool (lexLt ns ms)))) s) :=
 .of_wp fun prog w A R s h=>by
  obtain ⟨Y,g,d,tk,os⟩:=s;obtain ⟨hl,hb,h⟩:=h;have f2:=AutoSeq1.sub_tuple_tuple;have z1:items.size=ns.length:=by rw [<- hi.length];simp
  have z2:j.size=ms.length:=by rw [<- hj.length];simp
  wp_walk using Gm hl,Gm hb,Iz _ (fun rest b s'=>b.1=none/\s'=⟨Y,g,d,tk,os⟩ /\ ∃ (vs ws:List e7) (ns' ms':List Int),rest=vs.zip ws /\
   HU vs ns'/\HU ws ms'/\ns'.length+j.size=ms'.length+items.size/\R (.ok (.ret (.bool (lexLt ns' ms')))) ⟨Y,g,d,tk,os⟩) _
  case turn =>
   rintro ⟨y,x⟩ rest b s' ⟨G,rfl,vs,ws,ns',ms',hz,J,z,hlen,B⟩
   cases J with
   | nil=>rw [List.zip_nil_left] at hz;cases hz
   | cons a t O =>
     cases z with
     | nil=>rw [List.zip_nil_right] at hz;cases hz
     | cons c u U =>
       rw [Js] at hz
       injection hz with hyx L
       injection hyx with hy hx
       subst hy hx;rw [lexLt_cons] at B;simp only [FW] at hlen;obtain ⟨e,he,F⟩:=uc A.in1 ⟨Y,g,d,tk,os⟩ a t c u;refine b3 (he prog w _ _ ?_)
       cases e with
       | true =>
         rw [if_pos (F.mp rfl)] at B
         wp_walk
         exact ⟨rfl,rfl,_,_,_,_,L,O,U,by omega,B⟩
       | false =>
         rw [if_neg (fun q=>absurd (F.mpr q) D2)] at B;have BZ:=ud A.in1 ⟨Y,g,d,tk,os⟩ a t c u prog w
         wp_walk using BZ
         exact ⟨_,rfl,by simpa using B⟩
  case fin =>
   rintro ⟨b1,b2⟩ s' ⟨G,rfl,vs,ws,ns',ms',hz,J,z,hlen,B⟩;simp only at G;subst G;have hv:lexLt ns' ms'=decide (items.size < j.size):=by
    cases J with
    | nil =>
      cases z with
      | nil =>
        simp only [FR] at hlen;rw [jW];exact (decide_eq_false (by omega)).symm
      | cons c u hw =>
        simp only [FR,FW] at hlen;rw [iS];exact (decide_eq_true (by omega)).symm
    | cons a t hv =>
      cases z with
      | nil =>
        simp only [FR,FW] at hlen;rw [iT];exact (decide_eq_false (by omega)).symm
      | cons c u hw =>
        rw [Js] at hz
        cases hz
   rw [hv] at B
   wp_walk
   exact ⟨_,rfl,by simpa [GR] using B⟩
  case h =>
   exact ⟨rfl,rfl,items.toList,j.toList,ns,ms,rfl,hi,hj,by omega,h⟩
end
section
variable {prog:Er} {w:EH} {A:EK} {E:e7->g6->Prop} {s:g6}
theorem lt_tupInts {l b:Addr} {items j:Array e7} {ns ms:List Int} {Q:e7->g6->Prop} (O:Nc s.heap l items) (U:Nc s.heap b j) (hi:HU items.toList ns) (Y:HU j.toList ms)
 (Z:A.units < G0) (h:Q (.bool (lexLt ns ms)) s):Ee (model prog w) A (Ft .Lt (.ref l) (.ref b)) Q E s:=by
 obtain ⟨⟨cls,dd,data,sl⟩,ho,J,n,hd⟩:=id O;obtain ⟨⟨L,B,data2,G⟩,q,z,n2,hd2⟩:=id U;simp only at J hd z hd2;subst J hd z hd2;exact richCompare_meets_room (op := .Lt) ⟨_,ho,rfl⟩ ⟨_,q,rfl⟩ PySem.F.slot_tuple_lt PySem.F.entry_tuple_lt (PySem.F.args_tuple_lt_2 _ _) (jX l b items j n n2 dd B sl G ns ms hi Y)
  ⟨ho,q,show Jl (lexLt ns ms)≠KO/\Q (.bool (lexLt ns ms)) s from ⟨(fun x=>nomatch x),h⟩⟩ Z
theorem cat_tup {t b:Addr} {vs ws:List e7} {Q:e7->g6->Prop} (U:Nc s.heap t vs.toArray) (Y:Nc s.heap b ws.toArray) (G:vs≠[])
 (h1:ws=[]->Q (.ref t) s) (h2:ws≠[]->Q (.ref s.heap.objs.size) { s with heap:=s.heap.push { cls := .type "tuple",data := .seq (vs++ws).toArray } })
 (hsz:vs.length+ws.length<=D0):Ee (model prog w) A (FP .Add (.ref t) (.ref b)) Q E s:=by
 obtain ⟨⟨cls,dd,data,sl⟩,ho,J,n,hd⟩:=id U;obtain ⟨⟨L,q,data2,z⟩,j,B,O,hd2⟩:=id Y;simp only at J hd B hd2;subst J hd B hd2;have e:vs.toArray++ws.toArray=(vs++ws).toArray:=by simp
 by_cases hw:ws=[]
 ·exact Md ⟨_,ho,rfl⟩ ⟨_,j,rfl⟩ JZ Lr Ih I9 (HI _ _)
   (tuple_addW1 t b vs.toArray ws.toArray n O dd q sl z (by simpa using G) (by simp [hw])) ⟨ho,j,h1 hw⟩
 ·refine Md ⟨_,ho,rfl⟩ ⟨_,j,rfl⟩ JZ Lr Ih I9 (HI _ _)
   (tuple_addW2 t b vs.toArray ws.toArray n O dd q sl z (by simpa using G) (by simpa using hw) (by rw [E9,E9];exact hsz)) ⟨ho,j, ?_⟩
  rw [e];exact h2 hw
noncomputable def sIx (n d:Nat):Option Int->Nat
 | none=>d
 | some v=>if v < 0 then (v+(n:Int)).toNat else min v.toNat n
theorem sIx_none (n d:Nat):sIx n d none=d:=rfl
theorem sIx_nat (n d k:Nat):sIx n d (some (k:Int))=min k n:=by
 show (if (k:Int) < 0 then ((k:Int)+(n:Int)).toNat else min (k:Int).toNat n)=min k n
 rw [if_neg (by omega),Fh]
theorem zv (n d:Nat) (hd:d<=n) (o:Option Int):sIx n d o<=n:=by
 cases o with
 | none=>exact hd
 | some v =>
   show (if v < 0 then (v+(n:Int)).toNat else min v.toNat n)<=n
   by_cases hv:v < 0
   ·rw [if_pos hv];omega
   ·rw [if_neg hv];exact Nat.min_le_right _ _
theorem nY (v:Int) (n d:Nat):(if v < 0 then max (v+(n:Int)) 0 else min v (n:Int))=((sIx n d (some v):Nat):Int):=by
 show (if v < 0 then max (v+(n:Int)) 0 else min v (n:Int))=(((if v < 0 then (v+(n:Int)).toNat else min v.toNat n):Nat):Int)
 by_cases hv:v < 0
 ·simp only [if_pos hv];omega
 ·simp only [if_neg hv];omega
theorem pj (lo hi:Option Int) (n:Nat):HF lo hi 1 (n:Int)=(((sIx n 0 lo:Nat):Int),((sIx n n hi:Nat):Int)):=by
 have h1 : ¬ ((1:Int) < 0):=by omega
 unfold HF;simp only [h1,if_false];refine Prod.ext ?_ ?_
 ·cases lo with
  | none=>rfl
  | some v=>exact nY v n 0
 ·cases hi with
  | none=>rfl
  | some v=>exact nY v n n
theorem pv (i j:Nat):GF (i:Int) (j:Int) 1=j - i:=by
 unfold GF;have h1:(1:Int) > 0:=by omega
 simp only [h1,if_true,Int.ediv_one]
 split <;> omega
theorem gX {v:e7} {o:Option Int} {Q:Option Int->g6->Prop} (p:Kf v o) (h:Q o s):Ee (model prog w) A (Builtin.Slice.slicePartIndex v) Q E s:=by
 cases p with
 | none=>exact slicePart_none h
 | int i t=>exact slicePart_int h
theorem cZ {sl:Addr} {vl vu:e7} {lo hi:Option Int} {n:Nat} {Q:Int×Int×Nat->g6->Prop} (hs:s.heap.IsSliceOf sl vl vu .none) (pl:Kf vl lo) (pu:Kf vu hi)
 (h:Q (((sIx n 0 lo:Nat):Int),1,sIx n n hi - sIx n 0 lo) s):Ee (model prog w) A (Jt (.ref sl) (pure (n:Int))) Q E s:=by
 obtain ⟨os,j,z,q⟩:=id hs;unfold Jt Builtin.Slice.sliceFields;refine b3 (b3 (ER j q (x:=vl) rfl (b3 (ER j q (x:=vu) rfl (b3 (ER j q (x := .none) rfl (gV ?_)))))));refine b3 (slicePart_none ?_);show Ee _ _ (if ((1:Int)==0)=true then _ else _) _ _ s
 rw [if_neg (by decide)]
 refine b3 (gX pl (b3 (gX pu (b3 (gV ?_)))));show Ee _ _ (match HF lo hi 1 (n:Int) with | (lo,hi)=>pure (lo,(1:Int),GF lo hi 1)) _ _ s
 rw [pj lo hi n];show Ee _ _ (pure (((sIx n 0 lo:Nat):Int),(1:Int),GF ((sIx n 0 lo:Nat):Int) ((sIx n n hi:Nat):Int) 1)) _ _ s;rw [pv];exact gV h
theorem ue (xs:Array e7) (i k:Nat):((ED k).filterMap fun (m:Nat)=>xs[((i:Int)+(m:Int)*1).toNat]?).toArray=((xs.toList.drop i).take k).toArray:=by
 have e:(fun (m:Nat)=>xs[((i:Int)+(m:Int)*1).toNat]?)=fun m=>xs[i+m]? := by
  funext m
  have:((i:Int)+(m:Int)*1).toNat=i+m:=by omega
  rw [this]
 rw [e];have:=pick_run xs i k;rw [LH] at this;have j:((fun x=>xs[x]?) ∘ fun x=>i+x)=fun m=>xs[i+m]? := rfl;rw [j] at this;rw [this]
theorem getItem_tuple_cut {t sl:Addr} {items:Array e7} {vl vu:e7} {lo hi:Option Int} {Q:e7->g6->Prop} (z:Nc s.heap t items) (hs:s.heap.IsSliceOf sl vl vu .none) (pl:Kf vl lo) (pu:Kf vu hi)
 (hw : ¬ (sIx items.size 0 lo=0/\sIx items.size items.size hi=items.size))
 (h:Q (.ref s.heap.objs.size) { s with heap:=s.heap.push { cls := .type "tuple",data := .seq ((items.toList.drop (sIx items.size 0 lo)).take (sIx items.size items.size hi - sIx items.size 0 lo)).toArray } })
 (hsz:items.size<=D0):Ee (model prog w) A (JO (.ref t) (.ref sl)) Q E s:=by
 have j:sizeOk (.seq ((items.toList.drop (sIx items.size 0 lo)).take (sIx items.size items.size hi - sIx items.size 0 lo)).toArray):=by
  show ((items.toList.drop (sIx items.size 0 lo)).take (sIx items.size items.size hi - sIx items.size 0 lo)).toArray.size<=D0;rw [E9,EE,IA,Es];omega
 have O:sIx items.size items.size hi<=items.size:=zv _ _ (Ec _) hi;obtain ⟨os,B,F,L⟩:=id hs;have G:s.TypeIs (.ref sl) "slice" := ⟨os,B,F⟩;unfold JO
 try with_reducible refine FO ?_
 first | refine b3 (gV ?_) | skip
 refine b3 (Me z.typeIs (by decide) ?_)
 refine b3 (ET (name:=Fe "__getitem__") z.typeIs G4
  (EG G4 z.typeIs Lk ?_ (LI _ _)))
 show Ee _ _ (Hv (.ref t) >>= _) _ _ s;refine b3 (tupleItemsOf_ z ?_);refine b3 (Mf G ?_);rw [if_pos (by decide)]
 refine b3 (cZ hs pl pu ?_);have J : ¬ ((((sIx items.size 0 lo:Nat):Int)==0&&(1:Int)==1&&(sIx items.size items.size hi - sIx items.size 0 lo)==items.size)=true):=by
  intro q;rw [g8,g8] at q;have U:((sIx items.size 0 lo:Nat):Int)=0:=GW q.1.1;have Y:sIx items.size items.size hi - sIx items.size 0 lo=items.size:=GW q.2;exact hw ⟨by omega,by omega⟩
 show Ee _ _ (if (((sIx items.size 0 lo:Nat):Int)==0&&(1:Int)==1&&(sIx items.size items.size hi - sIx items.size 0 lo)==items.size)=true then _ else _) _ _ s
 rw [if_neg J,ue]
 first
  | exact b3 (m:=GN _) (Fs (gV ⟨_,rfl,gV h⟩) j)
  | exact b3 (m:=GN _) (Fs (b3 (gV (gV ⟨_,rfl,gV h⟩))) j)
  | exact b3 (b3 (m:=GN _) (Fs (gV (gV ⟨_,rfl,gV h⟩)) j))
  | exact b3 (b3 (m:=GN _) (Fs (gV ⟨_,rfl,gV h⟩) j))
end
end HT
namespace L2
open PySem PySem.Spec PyProof.Rows
section
noncomputable abbrev TO:=St->Hp->(Option Int->Hp->Prop)->Prop
def PO (X:Cx) (e:Option Expr) (t:TO):Prop :=
 ∀ (pins:List (Addr×Obj)) (s:g6) (σ:St) (H:Hp) (Q:Option Int->Hp->Prop),Inv X pins σ H s->t σ H Q ->
  Ee (model X.prog X.w) X.A (evalPart e X.env) (fun u s' => ∃ o H',Inv X pins σ H' s'/\Kf u o/\Q o H') X.xe s
noncomputable def wZ:TO:=fun _ H Q=>Q none H
noncomputable def AN (t:TE):TO:=fun σ H Q=>t σ H fun x H1 => ∃ i,x = .int i/\Q (some i) H1
theorem pA {ns:List Int}:∀ {us:List e7},Vals (ns.map V.int) us->HU us ns:=by
 induction ns with
 | nil=>intro us r;rw [Ii] at r;cases r;exact .nil
 | cons n ns ih =>
   intro us r;rw [Ew] at r
   cases r with
   | cons j q =>
     obtain ⟨t,e⟩:=j;subst e;exact .cons n t (ih q)
section
variable {X:Cx} {e:Expr} {te:TE} {lo hi:Option Expr} {tl th:TO} {pos p2:Pos}
theorem x6:PO X none wZ:=by
 intro pins s σ H Q I h;rw [Ls];exact gV ⟨none,H,I, .none,h⟩
theorem xa (h:PE X e te):PO X (some e) (AN te):=by
 intro pins s σ H Q I hw;rw [evalPart_some];refine thn (h pins s σ H _ I hw) fun u s1 ⟨x,H1,j,z,B⟩ => ?_;obtain ⟨i,rfl,q⟩:=B;obtain ⟨t,rfl⟩:=z;exact ⟨some i,H1,j, .int i t,q⟩
def SlR (X:Cx) (r:V->Option Int->Option Int->Hp->VK->Prop):Prop :=
 ∀ (pins:List (Addr×Obj)) (s:g6) (σ:St) (H:Hp) (x:V) (v vl vu:e7) (lo hi:Option Int) (sl:Addr) (Q:VK),Inv X pins σ H s->RelV x v->s.heap.IsSliceOf sl vl vu .none->Kf vl lo->Kf vu hi->r x lo hi H Q ->
  ∃ T id,typeLookup (.type T) "__getitem__" = pure (some (.builtin id))/\s.TypeIs v T/\Ee (model X.prog X.w) X.A (JO v (.ref sl)) (EP X pins σ Q) X.xe s
theorem SlR.or {r r':V->Option Int->Option Int->Hp->VK->Prop} (h:SlR X r) (h':SlR X r'):SlR X (fun x lo hi H Q=>r x lo hi H Q∨r' x lo hi H Q):=by
 intro pins s σ H x v vl vu lo hi sl Q I rx hs pl pu q
 rcases q with q | q
 ·exact h pins s σ H x v vl vu lo hi sl Q I rx hs pl pu q
 ·exact h' pins s σ H x v vl vu lo hi sl Q I rx hs pl pu q
noncomputable def tSl (r:V->Option Int->Option Int->Hp->VK->Prop) (te:TE) (tl th:TO):TE:=fun σ H Q=>te σ H fun x H1=>tl σ H1 fun l H2=>th σ H2 fun u H3=>r x l u H3 Q
theorem uf {r:V->Option Int->Option Int->Hp->VK->Prop} (z:SlR X r) (he:PE X e te) (B:PO X lo tl) (F:PO X hi th):PE X (.Subscript e (.Slice lo hi none p2) pos) (tSl r te tl th):=by
 intro pins s σ H Q I h;refine NJ (thn (he pins s σ H _ I h) fun v s1 ⟨x,H1,G,J,L⟩ => ?_);refine wpAny_Slice (thn (B pins s1 σ H1 _ G L) fun vl s2 ⟨l,H2,O,pl,U⟩=>thn (F pins s2 σ H2 _ O U) fun vu s3 ⟨u,j,Y,pu,Z⟩ => ?_);rw [Ls];refine gV ?_;have I4:Inv X pins σ j { s3 with heap:=s3.heap.push { cls := .type "slice",data := .fields #[vl,vu, .none] } }:=Y.kept (t':=s3.toks) fun b ob q=>g0 _ q
 obtain ⟨T,id,hT,ht,hg⟩:=z pins { s3 with heap:=s3.heap.push { cls := .type "slice",data := .fields #[vl,vu, .none] } } σ j x v vl vu l u s3.heap.objs.size Q I4 J (LJ ..) pl pu Z
 show Ee (model X.prog X.w) X.A (Lu e (.Slice lo hi none p2) v (.ref s3.heap.objs.size)) (EP X pins σ Q) X.xe { s3 with heap:=s3.heap.push { cls := .type "slice",data := .fields #[vl,vu, .none] } }
 exact NL (ops := [.ref s3.heap.objs.size,v]) ht hT hg (by with_unfolding_all rfl)
noncomputable def eA (xs:List V) (lo hi:Option Int):List V:=(xs.drop (HT.sIx xs.length 0 lo)).take (HT.sIx xs.length xs.length hi - HT.sIx xs.length 0 lo)
theorem fO (xs:List V) (lo hi:Option Int):(eA xs lo hi).length<=xs.length:=by
 unfold eA;rw [EE,IA];omega
noncomputable def BG (K:Frag):V->Option Int->Option Int->Hp->VK->Prop:=fun x lo hi H Q => ∃ a xs,x = .ref a/\SqT K H a xs /\
 ¬ (HT.sIx xs.length 0 lo=0/\HT.sIx xs.length xs.length hi=xs.length) /\ ∀ p,H p=none->Q (.ref p) (upd H p (.tup (eA xs lo hi)))
theorem sl_tup:SlR X (BG X.K):=by
 intro pins s σ H x v vl vu lo hi sl Q I rx hs pl pu h;obtain ⟨a,xs,rfl,hx,hw,q⟩:=h
 cases rx
 obtain ⟨its,r,j,hz⟩:=I.tuple hx;have hlen:its.toArray.size=xs.length:=by rw [E9];exact r.length.symm
 refine ⟨"tuple",_,PyProof.Rows.slot_tuple_getitem.lookup,j.typeIs, ?_⟩;refine HT.getItem_tuple_cut j hs pl pu (by rw [hlen];exact hw) ?_ (by rw [hlen];exact hz)
 rw [hlen];refine ⟨.ref s.heap.objs.size,_,I.laid (t':=s.toks) (o := .tup (eA xs lo hi)) (fun b ob q=>g0 _ q) (Ec _) ?_,rfl,q _ (I.hok.fresh (Ec _))⟩;exact ⟨Fb (fO xs lo hi) hz,_,(r.drop (HT.sIx xs.length 0 lo)).take (HT.sIx xs.length xs.length hi - HT.sIx xs.length 0 lo),Iy _ _⟩
noncomputable def wc (K:Frag):R2:=fun x y H Q => ∃ a b xs ys,x = .ref a/\y = .ref b/\SqT K H a xs/\SqT K H b ys/\xs≠[]/\xs.length+ys.length<=D0 /\
 (ys=[]->Q (.ref a) H)/\(ys≠[] -> ∀ p,H p=none->Q (.ref p) (upd H p (.tup (xs++ys))))
theorem Vals.nil_iff {xs:List V} {us:List e7} (r:Vals xs us):us=[]↔xs=[]:=by
 cases r with
 | nil=>simp
 | cons _ _=>simp
theorem op_catT:OpR X (FP .Add) (wc X.K):=by
 intro pins s σ H x y v u Q I rx ry h;obtain ⟨a,b,xs,ys,rfl,rfl,G,J,hx,hz,L,O⟩:=h
 cases rx
 cases ry
 obtain ⟨its,B,U,_⟩:=I.tuple G;obtain ⟨F,j,p2,_⟩:=I.tuple J;refine HT.cat_tup U p2 (fun z=>hx (B.nil_iff.mp z)) (fun z=>⟨.ref a,H,I,rfl,L (j.nil_iff.mp z)⟩) (fun z => ?_) (by rw [<- B.length, <- j.length];exact hz)
 refine ⟨.ref s.heap.objs.size,_,I.laid (t':=s.toks) (o := .tup (xs++ys)) (fun b ob q=>g0 _ q) (Ec _) ?_,rfl,O (fun w=>z (j.nil_iff.mpr w)) _ (I.hok.fresh (Ec _))⟩;exact ⟨by rw [r4];exact hz,_,B.append j,Iy _ _⟩
end
end
section
noncomputable def ixN (n:Nat) (i:Int):Option Nat:=if 0<=i then (if i < n then some i.toNat else none) else if -(n:Int)<=i then some (i+n).toNat else none
noncomputable def atI {α:Type} (xs:List α) (i:Int):Option α := (ixN xs.length i).bind fun j=>xs[j]?
theorem iU {n:Nat} {i:Int} {j:Nat} (h:ixN n i=some j):seqIndex? i n=some j/\j < n /\ -(n:Int)<=i/\i < n:=by
 unfold ixN at h
 by_cases h0 : 0<=i
 ·rw [if_pos h0] at h
  by_cases h1:i < n
  ·rw [if_pos h1] at h;have e:i.toNat=j:=FL.inj h;exact ⟨by rw [Nf h0 h1,e],by omega,by omega,h1⟩
  ·rw [if_neg h1] at h;cases h
 ·rw [if_neg h0] at h
  by_cases h1 : -(n:Int)<=i
  ·rw [if_pos h1] at h;have e:(i+n).toNat=j:=FL.inj h;exact ⟨by rw [Mg (by omega) h1,e],by omega,h1,by omega⟩
  ·rw [if_neg h1] at h;cases h
theorem nZ {α:Type} {xs:List α} {i:Int} {v : α} (h:atI xs i=some v):∃ j,seqIndex? i xs.length=some j/\xs[j]? = some v/\j < xs.length /\ -(xs.length:Int)<=i/\i < xs.length:=by
 unfold atI at h
 cases e:ixN xs.length i with
 | none=>rw [e] at h;cases h
 | some j =>
   rw [e] at h;obtain ⟨h1,h2,q,z⟩:=iU e;exact ⟨j,h1,h,h2,q,z⟩
def iV (b:Expr):Prop := ∀ o i,subscripted b false o i=operate [o,i] (JO o i)
def IxR (X:Cx) (r:R2):Prop :=
 ∀ (value slice:Expr) (pins:List (Addr×Obj)) (s:g6) (σ:St) (H:Hp) (x y:V) (v u:e7) (Q:VK),Inv X pins σ H s->RelV x v->RelV y u->r x y H Q ->
  subscripted slice false v u=operate [v,u] (JO v u)->Ee (model X.prog X.w) X.A (Lu value slice v u) (EP X pins σ Q) X.xe s
def MtR (X:Cx) (id:String) (r:V->List V->Hp->VK->Prop):Prop :=
 ∀ (pins:List (Addr×Obj)) (s:g6) (σ:St) (H:Hp) (x:V) (xs:List V) (v:e7) (us:List e7) (Q:VK),Inv X pins σ H s->RelV x v->Vals xs us->r x xs H Q ->
  Ee (model X.prog X.w) X.A (call (.builtin id) (v::us)) (EP X pins σ Q) X.xe s
section
variable {X:Cx} {a b:Expr} {ta tb:TE} {pos:Pos}
theorem IxR.or {r r':R2} (h:IxR X r) (h':IxR X r'):IxR X (fun x y H Q=>r x y H Q∨r' x y H Q):=by
 intro value slice pins s σ H x y v u Q I rx ry q hs
 rcases q with q | q
 ·exact h value slice pins s σ H x y v u Q I rx ry q hs
 ·exact h' value slice pins s σ H x y v u Q I rx ry q hs
theorem AO {r:R2} (j:IxR X r) (z:PE X a ta) (B:PE X b tb) (hs:iV b):PE X (.Subscript a b pos) (tOp r ta tb):=by
 intro pins s σ H Q I h;exact NJ (u5 z B I h fun v u s2 x y H2 F rx ry q=>j a b pins s2 σ H2 x y v u Q F rx ry q (hs _ _))
noncomputable def BH (K:Frag):R2:=fun x y H Q => ∃ p xs i v,x = .ref p/\y = .int i/\SqL K H p xs/\atI xs i=some v/\Q v H
noncomputable def BI (K:Frag):R2:=fun x y H Q => ∃ p xs i v,x = .ref p/\y = .int i/\SqT K H p xs/\atI xs i=some v/\Q v H
theorem ix_list:IxR X (BH X.K):=by
 intro value slice pins s σ H x y v u Q I rx ry h hs;obtain ⟨p,xs,i,z,rfl,rfl,F,he,q⟩:=h
 cases rx
 obtain ⟨t,rfl⟩:=ry;obtain ⟨its,r,pl,hz⟩:=I.list F;obtain ⟨j,h1,h2,O,G,J⟩:=nZ he;obtain ⟨w,ew,rw'⟩:=r.get h2;have L:=r.length;have U:=em;have fin:EP X pins σ Q w s:=⟨z,H,I,rw',q⟩
 by_cases h0 : 0<=i
 ·have B:i.toNat=j:=by
   rw [Nf h0 J] at h1;exact FL.inj h1
  exact item_listR pl.isList h0 (by omega) (by rw [B];simpa using ew) fin hs
 ·have B:(i+(its.toArray.size:Int)).toNat=j:=by
   rw [Mg (by omega) G] at h1
   rw [E9, <- L];exact FL.inj h1
  exact Kg (x:=w) pl.isList.typeIs slot_list_getitem.lookup
   (wpAny_getItem_list_neg (Q:=fun r s'=>r=w/\EP X pins σ Q r s') pl.isList (by omega) (by rw [E9] <;> omega) (by omega) (by rw [B];simpa using ew) ⟨rfl,fin⟩) hs
theorem ix_tup:IxR X (BI X.K):=by
 intro value slice pins s σ H x y v u Q I rx ry h hs;obtain ⟨p,xs,i,z,rfl,rfl,B,he,q⟩:=h
 cases rx
 obtain ⟨t,rfl⟩:=ry;obtain ⟨its,r,pl,hz⟩:=I.tuple B;obtain ⟨j,h1,h2,G,J,L⟩:=nZ he;obtain ⟨w,ew,rw'⟩:=r.get h2;have F:=r.length;have O:=em;have fin:EP X pins σ Q w s:=⟨z,H,I,rw',q⟩;exact Kg (x:=w) pl.typeIs slot_tuple_getitem.lookup
  (getItem_tuple (j:=j) (Q:=fun r s'=>r=w/\EP X pins σ Q r s') pl (by omega) (by omega) (by rw [E9, <- F];exact h1) (by simpa using ew) ⟨rfl,fin⟩) hs
theorem pB (its:List e7) (n j:Nat) (u:e7):HY (·.setIfInBounds j u) { cls := .type "list",data := .seq its.toArray n } = { cls := .type "list",data := .seq (its.set j u).toArray n }:=by
 simp [HY]
theorem Inv.lst {pins:List (Addr×Obj)} {σ:St} {H:Hp} {s:g6} {p:Addr} {xs:List V} (I:Inv X pins σ H s) (h:H p=some (.lst xs)) :
 ∃ (its:List e7) (n:Nat),Vals xs its/\s.heap.get? p=some { cls := .type "list",data := .seq its.toArray n }/\xs.length<=D0:=by
 obtain ⟨z,its,n,r,e⟩:=I.hok p _ h;exact ⟨its,n,r,e,z⟩
theorem Inv.lstUpd {pins:List (Addr×Obj)} {σ:St} {H:Hp} {s:g6} {p:Addr} {xs ys:List V} {its its':List e7} {n n':Nat} {f:Obj->Obj} (I:Inv X pins σ H s) (h:H p=some (.lst xs))
 (ho:s.heap.get? p=some { cls := .type "list",data := .seq its.toArray n }) (hf:f { cls := .type "list",data := .seq its.toArray n } = { cls := .type "list",data := .seq its'.toArray n' }) (r:Vals ys its') (hz:ys.length<=D0) (t:Nat) :
 Inv X pins σ (upd H p (.lst ys)) { s with heap:=s.heap.update p f,toks:=t }:=by
 have e:(s.heap.update p f).get? p=some { cls := .type "list",data := .seq its'.toArray n' }:=by
  rw [GB f ho (by rw [hf] <;> rfl),hf]
 refine I.write (x:=p) (e:=p) (by rw [h];trivial) (.inl rfl) (fun b u j q=>(FE _ _ (Ne.symm j)).trans q) ⟨_,e⟩ ?_
 exact ⟨hz,its',n',r,e⟩
noncomputable def wd:V->V->V->Hp->(Hp->Prop)->Prop:=fun o i v H Q => ∃ p xs k j,o = .ref p/\i = .int k/\H p=some (.lst xs)/\ixN xs.length k=some j/\Q (upd H p (.lst (xs.set j v)))
theorem ug:PSet X wd:=by
 intro pins s σ H o i v ov iv u Q I ro ri rv h;obtain ⟨p,xs,k,j,rfl,rfl,F,L,q⟩:=h
 cases ro
 obtain ⟨t,rfl⟩:=ri;obtain ⟨its,n,r,ho,hz⟩:=I.lst F;obtain ⟨h1,h2,G,J⟩:=iU L;have z:=r.length;have O:=em;have I':Inv X pins σ (upd H p (.lst (xs.set j v))) { s with heap:=s.heap.update p (HY (·.setIfInBounds j u)) } :=
  I.lstUpd F ho (pB its n j u) (r.set rv j) (by rw [List.length_set];exact hz) s.toks
 by_cases h0 : 0<=k
 ·have B:k.toNat=j:=by
   rw [Nf h0 J] at h1;exact FL.inj h1
  exact PySem.W.ki_setAt ho h0 (by omega) (by rw [E9, <- z];exact J) (by rw [B];exact ⟨_,I',q⟩)
 ·have B:(k+(its.toArray.size:Int)).toNat=j:=by
   rw [Mg (by omega) G] at h1
   rw [E9, <- z];exact FL.inj h1
  exact PySem.W.ki_setBack ho (by omega) (by rw [E9, <- z];exact G) (by omega) (by rw [B];exact ⟨_,I',q⟩)
theorem kA (lo hi:Option Int) (n:Nat):(G3 lo hi none n).1=((HT.sIx n 0 lo:Nat):Int)/\(G3 lo hi none n).2.1=((HT.sIx n n hi:Nat):Int)/\(G3 lo hi none n).2.2=1:=by
 refine ⟨?_, ?_,rfl⟩
 ·cases lo with
  | none=>simp [G3,HT.sIx]
  | some i =>
    simp only [G3,HT.sIx,MM,show (1:Int) > 0 by decide,if_true]
    by_cases h:i < 0
    ·simp only [h,if_true] <;> omega
    ·simp only [h,if_false] <;> omega
 ·cases hi with
  | none=>simp [G3,HT.sIx]
  | some i =>
    simp only [G3,HT.sIx,MM,show (1:Int) > 0 by decide,if_true]
    by_cases h:i < 0
    ·simp only [h,if_true] <;> omega
    ·simp only [h,if_false] <;> omega
theorem jY (its:List e7) (lo hi:Option Int):MN its.toArray lo hi none=((its.drop (HT.sIx its.length 0 lo)).take (HT.sIx its.length its.length hi - HT.sIx its.length 0 lo)).toArray:=by
 obtain ⟨h1,h2,j⟩:=kA lo hi its.toArray.size;unfold MN;rw [h1,h2,j];simp only [sliceRange_one,pick_run,E9] <;> rfl
noncomputable def BJ (K:Frag):V->Option Int->Option Int->Hp->VK->Prop:=fun x lo hi H Q => ∃ a xs,x = .ref a/\SqL K H a xs /\ ∀ p,H p=none->Q (.ref p) (upd H p (.lst (eA xs lo hi)))
theorem sl_list:SlR X (BJ X.K):=by
 intro pins s σ H x v vl vu lo hi sl Q I rx hs pl pu h;obtain ⟨a,xs,rfl,hx,q⟩:=h
 cases rx
 obtain ⟨its,r,j,hz⟩:=I.list hx;have hlen:=r.length;refine ⟨"list",_,slot_list_getitem.lookup,j.isList.typeIs, ?_⟩;refine JR j.isList hs pl pu .none (by simp) ?_ (by rw [E9] <;> omega)
 rw [jY, <- hlen];refine ⟨.ref s.heap.objs.size,_,I.laid (t':=s.toks) (o := .lst (eA xs lo hi)) (fun b ob q=>g0 _ q) (Ec _) ?_,rfl,q _ (I.hok.fresh (Ec _))⟩;exact ⟨Fb (fO xs lo hi) hz,_,0,(r.drop (HT.sIx xs.length 0 lo)).take (HT.sIx xs.length xs.length hi - HT.sIx xs.length 0 lo),D1 _ rfl⟩
theorem kB:CallR X (.type "list") (fun xs H Q => ∃ p ys,xs=[.ref p]/\(SqL X.K H p ys∨SqT X.K H p ys) /\ ∀ l,H l=none->Q (.ref l) (upd H l (.lst ys))):=by
 intro pins s σ H xs us Q I r h;obtain ⟨p,ys,rfl,j,q⟩:=h;obtain ⟨u,rfl,rx⟩:=cr r
 cases rx
 have fin:∀ (its:List e7),Vals ys its->ys.length<=D0 -> ∀ (h':Heap) (c':Nat),(∀ b o',s.heap.get? b=some o'->h'.get? b=some o') ->
  h'.get? s.heap.objs.size=some { cls := .type "list",dict:=none,data := .seq its.toArray c',slots := #[] }->EP X pins σ Q (.ref s.heap.objs.size) { s with heap:=h' }:=fun its r' hz h' c' kp e =>
  ⟨.ref s.heap.objs.size,_,I.laid (t':=s.toks) kp (Ec _) (show ObjOk X.prog X.w _ h' _ (.lst ys) from ⟨hz,its,c',r',e⟩),rfl,q _ (I.hok.fresh (Ec _))⟩
 rcases j with j | j
 ·obtain ⟨its,r',pl,hz⟩:=I.list j;have hlen:=r'.length;obtain ⟨o,ho,z,n,hd⟩:=pl.isList;exact call_list_seq p (.inl rfl) ho z hd (fun h' c' kp e=>fin its r' hz h' c' kp e) (by simp only [E9] <;> omega)
 ·obtain ⟨its,r',pl,hz⟩:=I.tuple j;have hlen:=r'.length;obtain ⟨o,ho,z,n,hd⟩:=pl;exact call_list_seq p (.inr rfl) ho z hd (fun h' c' kp e=>fin its r' hz h' c' kp e) (by simp only [E9] <;> omega)
theorem jZ:CallR X (.type "tuple") (fun xs H Q => ∃ p ys,xs=[.ref p]/\((SqL X.K H p ys /\ ∀ l,H l=none->Q (.ref l) (upd H l (.tup ys)))∨(SqT X.K H p ys/\Q (.ref p) H))):=by
 intro pins s σ H xs us Q I r h;obtain ⟨p,ys,rfl,h⟩:=h;obtain ⟨u,rfl,rx⟩:=cr r
 cases rx
 rcases h with ⟨j,q⟩ | ⟨j,q⟩
 ·obtain ⟨its,r',pl,hz⟩:=I.list j;have hlen:=r'.length;refine call_tuple_list pl.isList (fun h' kp => ?_) (by simp only [E9] <;> omega)
  have z:Inv X pins σ H { s with heap:=h' }:=I.kept (t':=s.toks) kp
  have B:Inv X pins σ (upd H h'.objs.size (.tup ys)) { s with heap:=h'.push { cls := .type "tuple",data := .seq its.toArray } } :=
   z.laid (t':=s.toks) (fun b o e=>g0 _ e) (Ec _) (show ObjOk X.prog X.w _ _ _ (.tup ys) from ⟨hz,its,r',Iy _ _⟩)
  exact ⟨.ref h'.objs.size,_,B,rfl,q _ (z.hok.fresh (Ec _))⟩
 ·obtain ⟨its,r',pl,hz⟩:=I.tuple j;exact call_tuple_same pl ⟨.ref p,H,I,rfl,q⟩
def tyV (K:Frag) (T:String) (x:V) (H:Hp):Prop:=match x with
 | .str _=>T = "str"
 | .int _=>T = "int"
 | .ref p=>(T = "list" /\ ∃ xs,SqL K H p xs)∨(T = "tuple" /\ ∃ o,K.lookup p=some o/\o.cls = .type "tuple" /\ o.dict=none) ∨
  (T = "dict" /\ ((∃ kvs,H p=some (.dK kvs)) ∨ ∃ kvs,H p=some (.dT kvs)))∨(T = "set" /\ ∃ S n,H p=some (.set S n))
 | _=>False
theorem zw {pins:List (Addr×Obj)} {σ:St} {H:Hp} {s:g6} {T:String} {x:V} {v:e7} (I:Inv X pins σ H s) (r:RelV x v) (ty:tyV X.K T x H) :
 s.TypeIs v T /\ ∀ a,v = .ref a -> ∃ ob,s.heap.get? a=some ob/\ob.dict=none:=by
 cases x with
 | str z =>
   obtain ⟨t,rfl⟩:=r
   cases (show T = "str" from ty)
   exact ⟨typeIs_str s z t,fun _ e=>nomatch e⟩
 | int i =>
   obtain ⟨t,rfl⟩:=r
   cases (show T = "int" from ty)
   exact ⟨Kh s i t,fun _ e=>nomatch e⟩
 | ref p =>
   cases r
   rcases ty with ⟨rfl,xs,B⟩ | ⟨rfl,o,j,F,hd⟩ | ⟨rfl,j⟩ | ⟨rfl,S,n,j⟩
   ·obtain ⟨its,_,pl,_⟩:=I.list B;refine ⟨pl.isList.typeIs,fun a e => ?_⟩
    cases e
    obtain ⟨o,n,e,c,hd,_⟩:=pl;exact ⟨o,e,hd⟩
   ·refine ⟨⟨o,I.kIn p o j,F⟩,fun a e => ?_⟩
    cases e
    exact ⟨o,I.kIn _ o j,hd⟩
   ·have z:∃ o,s.heap.get? p=some o/\o.ExactDict:=by
     rcases j with ⟨kvs,j⟩ | ⟨kvs,j⟩
     ·obtain ⟨_,_,_,_,o,_,_,e,ex,_⟩:=I.hok p _ j;exact ⟨o,e,ex⟩
     ·obtain ⟨_,_,_,_,o,_,_,e,ex,_⟩:=I.hok p _ j;exact ⟨o,e,ex⟩
    obtain ⟨o,e,ex⟩:=z;refine ⟨⟨o,e,ex.1⟩,fun a q => ?_⟩
    cases q
    exact ⟨o,e,ex.2.1⟩
   ·obtain ⟨o,_,_,_,e,ex,_⟩:=I.hok p _ j;refine ⟨⟨o,e,ex.1⟩,fun a q => ?_⟩
    cases q
    exact ⟨o,e,ex.2.1⟩
 | _=>exact False.elim ty
noncomputable def tBM (K:Frag) (T:String) (r:V->List V->Hp->VK->Prop) (to:TE) (t:TA):TE:=fun σ H Q=>to σ H fun x H1=>tyV K T x H1/\t σ H1 fun xs H2=>r x xs H2 Q
variable {o e:Expr} {es:List Expr} {to:TE} {t:TA} {name:Str} {apos cpos:Pos} {T id:String} {r:V->List V->Hp->VK->Prop}
theorem AQ (pa:PlainAttrs T) (slot:Slot T name id) (F:typeOf (.builtin id)=pure (.type "method_descriptor")) (hm:MtR X id r) (ho:PE X o to) (O:PA X (e::es) t)
 (q:JS o name X.env (eval o X.env)=eval o X.env:=by rfl)
 (B:((Hk cpos (Et (e::es) X.env)).all (fun x => !x.1)&&(backToKw cpos (Ng [] X.env)).all (fun x=>x.1.isSome)
   && decide ((e::es).length+([]:List Ki).length+(if ([]:List Ki).isEmpty then 0 else 1) < 30))=true:=by rfl)
 (z:(apos.endLine==cpos.line)=true:=by rfl) (hs:Et (e::es) X.env=(false,eval e X.env)::Et es X.env:=by rfl) (j:(Hk cpos (Et es X.env)).any (·.1)=false:=by rfl) :
 PE X (.Call (.Attribute o name apos) (e::es) [] cpos) (tBM X.K T r to t):=by
 intro pins s σ H Q I h;refine wpAny_Call_method_late q B z rfl (thn (ho pins s σ H _ I h) fun v s1 ⟨x,H1,G,J,ty,U⟩ => ?_);obtain ⟨h1,h2⟩:=zw G J ty;refine ⟨T,id,pa,slot,F,h1,h2, ?_⟩;have L:=O cpos pins s1 σ H1 _ G U;rw [hs] at L ⊢;refine Ij (by show (false || (Hk cpos (Et es X.env)).any (·.1))=false;rw [j] <;> rfl) (KP ?_)
 exact thn L fun us s2 ⟨vs,H2,Y,Z,q2⟩=>hm pins s2 σ H2 x vs v us Q Y J Z q2
end
end
section
def MtM (X:Cx) (id:String) (r:V->List V->Hp->VK->Prop):Prop :=
 ∀ (pins:List (Addr×Obj)) (s:g6) (σ:St) (H:Hp) (x:V) (xs:List V) (v:e7) (us:List e7) (Q:VK),Inv X pins σ H s->RelV x v->Vals xs us->r x xs H Q ->
  Ee (model X.prog X.w) X.A (call (.builtin id) (v::us)) (EP X pins σ Q) X.xe s
theorem Vals.one:∀ {x:V} {us:List e7},Vals [x] us -> ∃ u,us=[u]/\RelV x u
 | _,_, .cons r .nil=>⟨_,rfl,r⟩
theorem Vals.rep {xs:List V} {us:List e7} (h:Vals xs us):∀ k:Nat,Vals (Em k xs).flatten (Em k us).flatten
 | 0 => .nil
 | k+1=>by
   rw [Fp,Fp,Fc,Fc];exact Vals.append h (Vals.rep h k)
theorem eB (its:List e7):∀ (k:Nat) (acc:List e7),
 IB (fun j q=>j++q) acc.toArray (Em k its.toArray)=(acc++(Em k its).flatten).toArray
 | 0,acc=>by simp
 | k+1,acc=>by
   have e:acc.toArray++its.toArray=(acc++its).toArray:=by simp
   have z:(acc++its)++(Em k its).flatten=acc++(Em (k+1) its).flatten:=by
    rw [Fp,Fc,Ei]
   rw [<- z, <- eB its k (acc++its), <- e,Fp,Ku]
section
variable {X:Cx} {pins:List (Addr×Obj)} {σ:St} {H:Hp} {s:g6} {l b:Addr} {xs ys zs:List V}
theorem Inv.lset {its its':List e7} {n:Nat} {f:Array e7->Array e7} {t':Nat} (I:Inv X pins σ H s) (j:H l=some (.lst xs))
 (e:s.heap.get? l=some { cls := .type "list",data := .seq its.toArray n }) (hf:f its.toArray=its'.toArray) (z:Vals ys its') (hz:ys.length<=D0) :
 Inv X pins σ (upd H l (.lst ys)) { s with heap:=s.heap.update l (HY f),toks:=t' }:=by
 have q:=PySem.IsL.update e f;rw [hf] at q;refine I.write (x:=l) (e:=l) (by rw [j];exact trivial) (.inl rfl) (fun b' u B F=>(FE s.heap (HY f) (Ne.symm B)).trans F) ⟨_,q⟩ ?_
 exact ⟨hz,its',_,z,q⟩
theorem Inv.lnew {its:List e7} {t':Nat} (I:Inv X pins σ H s) (j:Vals ys its) (hz:ys.length<=D0) :
 Inv X pins σ (upd H s.heap.objs.size (.lst ys)) { s with heap:=s.heap.push { cls := .type "list",data := .seq its.toArray },toks:=t' } :=
 I.laid (fun _ _ q=>g0 _ q) (Ec _) ⟨hz,its,0,j,D1 _ rfl⟩
theorem Inv.fresh (I:Inv X pins σ H s):H s.heap.objs.size=none:=I.hok.fresh (Ec _)
theorem Inv.lstM (I:Inv X pins σ H s) (j:H l=some (.lst xs)):xs.length<=D0 /\ ∃ (its:List e7) (n:Nat),Vals xs its/\xs.length=its.length/\s.heap.get? l=some { cls := .type "list",data := .seq its.toArray n }:=by
 obtain ⟨z,its,n,r,e⟩:=I.hok l _ j;exact ⟨z,its,n,r,r.length,e⟩
theorem uh {n:Nat} (h:n<=D0):HJ n=false:=by
 unfold HJ;exact decide_eq_false (by omega)
end
section
variable {X:Cx}
noncomputable def o8:V->List V->Hp->VK->Prop:=fun x vs H Q => ∃ l xs y,x = .ref l/\vs=[y]/\H l=some (.lst xs)/\xs.length < D0/\Q .non (upd H l (.lst (xs++[y])))
theorem jr:MtM X "list.append" o8:=by
 intro pins s σ H x vs v us Q I rx rv h;obtain ⟨l,xs,y,rfl,rfl,j,hz,q⟩:=h
 cases rx
 obtain ⟨u,rfl,ru⟩:=rv.one;obtain ⟨z,its,n,r,B,e⟩:=I.lstM j;refine Kj F.slot_list_append ⟨_,e,rfl⟩ F.entry_list_append (F.args_list_append_2 _ _) (PySem.list_append l its.toArray n u (by rw [E9];omega)) ⟨e, ?_⟩
 refine ⟨.non,_,I.lset (its':=its++[u]) j e (by simp) (r.append (.cons ru .nil)) ?_,rfl,q⟩
 rw [r4,Iv];omega
noncomputable def BK:R2:=fun x y H Q => ∃ l b xs zs,x = .ref l/\y = .ref b/\H l=some (.lst xs)/\H b=some (.lst zs)/\xs.length+zs.length<=D0 /\ ∀ p,H p=none->Q (.ref p) (upd H p (.lst (xs++zs)))
theorem op_cat:OpR X (FP .Add) BK:=by
 intro pins s σ H x y v u Q I rx ry h;obtain ⟨l,b,xs,zs,rfl,rfl,B,F,hz,q⟩:=h
 cases rx
 cases ry
 obtain ⟨z,its,n,r,O,e⟩:=I.lstM B;obtain ⟨U,j,Y,G,J,L⟩:=I.lstM F;refine PySem.P.add_list e L ?_ (by rw [E9,E9];omega)
 have ea:its.toArray++j.toArray=(its++j).toArray:=by simp
 rw [ea];exact ⟨.ref _,_,I.lnew (t':=s.toks) (r.append G) (by rw [r4];omega),rfl,q _ I.fresh⟩
noncomputable def BL:R2:=fun x y H Q => ∃ l k xs,x = .ref l/\y = .int k/\H l=some (.lst xs) /\ -(2 ^ 63)<=k/\k < 2 ^ 63/\xs.length*k.toNat<=D0 /\
 ∀ p,H p=none->Q (.ref p) (upd H p (.lst (Em k.toNat xs).flatten))
theorem o9 {α:Type} (xs:List α) (k:Nat):(Em k xs).flatten.length=k*xs.length:=by
 induction k with
 | zero=>simp
 | succ k ih=>rw [Fp,Fc,r4,ih,Mh,Nat.add_comm]
theorem op_rep:OpR X (FP .Mult) BL:=by
 intro pins s σ H x y v u Q I rx ry h;obtain ⟨l,k,xs,rfl,rfl,Y,h1,h2,hz,q⟩:=h
 cases rx
 obtain ⟨t,rfl⟩:=ry;obtain ⟨z,its,n,r,Z,e⟩:=I.lstM Y;have hlen:its.toArray.size*k.toNat<=D0:=by rw [E9, <- Z];exact hz
 have B : ¬ its.toArray.size*k.toNat > (2 ^ 63 - 1) / 8:=by
  have:(D0:Nat)<=(2 ^ 63 - 1) / 8:=by decide
  omega
 have G : ¬ (!Builtin.List.listFitsIndex k)=true:=by
  rw [fitsIndex_both h1 h2];exact D2
 have j : ¬ HJ (its.toArray.size*k.toNat)=true:=by
  rw [uh hlen];exact D2
 have J:IB (fun L O=>L++O) #[] (Em (if its.toArray.isEmpty=true then 0 else k.toNat) its.toArray)=(Em k.toNat its).flatten.toArray:=by
  have f0:∀ m:Nat,IB (fun L O=>L++O) #[] (Em m its.toArray)=(Em m its).flatten.toArray:=fun m=>by
   have:=eB its m [];rw [Kv] at this;exact this
  rw [f0]
  cases its with
  | nil=>simp
  | cons a r'=>rw [if_neg (by simp)]
 refine JG (T := "list") (U := "int") (by decide) ⟨_,e,rfl⟩ (fun s'=>Kh s' k t) noFill_list_mul Nt J1 repeat_list F.slot_int_index.lookup
  (Kj J1 (Kh s k t) MP (Mj _ _) (int___rmul___int_list k t l its.toArray n)
    ⟨e,rfl,⟨_,e,rfl⟩,Kj F.slot_list_mul ⟨_,e,rfl⟩ F.entry_list_mul (F.args_list_mul_2 _ _) (AutoListH.list___mul___list_int_3 l its.toArray n k t G B j) ⟨e, ?_⟩⟩)
 rw [J];exact ⟨.ref _,_,I.lnew (t':=s.toks) (r.rep k.toNat) (by rw [o9,Nat.mul_comm];exact hz),rfl,q _ I.fresh⟩
end
end
end L2
namespace Att
open PySem PySem.W PySem.Calls PyProof.Rows
theorem gY {P:Params} {h:Heap}:∀ (ns:List Int) (vs:List e7),WellAll P h vs (ns.map WData.int)->HU vs ns:=by
 intro ns
 induction ns with
 | nil =>
   intro vs w;rw [Ii] at w
   cases w
   exact .nil
 | cons n ns ih =>
   intro vs w;rw [Ew] at w
   cases w with
   | cons a b =>
     cases a
     exact .cons _ _ (ih _ b)
theorem r6 {l:OpenLaw} {n:Nat} (O:l.most=some n) {P:Params} {h:Heap} {args:List WData} {vals:List e7}
 (j:l.row.toRowW.claim.pre args=true) (G:WellAll P h vals args) :
 ∃ a vs ns,vals=[ES a]/\args=[WData.list (ns.map WData.int)]/\h.get? a=some { cls := .type "list",data := .seq vs.toArray }/\HU vs ns/\ns.length<=n:=by
 have J:WShape.hasAll [] args [.list .int]=true:=(pre_splitW j).1;have L:l.pre.holds [] { args:=args }=true:=(pre_splitW j).2;obtain ⟨d,r,rfl,h1,h2⟩:=hasAllW_cons J;obtain rfl:=hasAllW_nil h2;obtain ⟨xs,rfl,U⟩:=hasW_list h1;obtain ⟨ns,rfl⟩:=items_int U;have hlen:ns.length<=n:=by
  unfold OpenLaw.pre at L;have B:(WTm.not (.lt (.lit (.int (n:Int))) (.len (.arg 0)))).holds [] { args := [.list (ns.map .int)] }=true:=by
   have B:=(holds_andW L).1;rw [O] at B;exact B
  have F:=condW_of B (w_not (w_lt w_lit (w_len_list (w_arg rfl))));rw [Eg] at F;refine Nat.le_of_not_lt fun q => ?_;have q':(n:Int) < ((ns.length:Nat):Int):=by omega
  first
   | (rw [decide_eq_true q'] at F;exact absurd F (by decide))
   | (simp at F;omega)
 cases G with
 | cons Y Z =>
   cases Z
   cases Y with
   | list ho z=>exact ⟨_,_,ns,rfl,rfl,ho,gY ns _ z,hlen⟩
theorem r8 (l:OpenLaw) (args:List WData):l.row.toRowW.claim.post args (.bool true) args=true :=
 postW_of (r:=l.row.toRowW) (X:=(true==true))
  (show WShape.has [] (.bool true) .bool=true by first | rfl | decide | simp [WShape.has,WShape.arms,WShape.armsAll])
  (show (WTm.eq .res (.lit (.bool true))).value [] { args:=args,res:=some (.bool true),after:=args }=some (.bool (true==true)) from w_eq_bool (w_res rfl) w_lit) rfl
theorem attach_call {l:OpenLaw} {n:Nat} {q:Er} {loose:List Str} {XP:(Str->Option e7)->Heap->Prop} {YP:EH->Heap->Prop} {d:DefRec}
 (Z:l.most=some n) (B:d.params.defaults=[])
 (call:∀ (w:EH) (s₀ s₁:g6) (mg mb:Str->Option e7) (fa:Addr) (o:Obj) (pm cd doc:e7) (a:Addr) (vs:List e7) (ns:List Int),
   Ground q loose [] XP w s₀ mg mb s₁.heap->YP w s₁.heap ->
   s₁.heap.get? fa=some o->o.data = .func (docDef d.name d.params d.body d.scope pm cd doc)->s₁.heap.CodeRec cd d.name->mg d.name=some (.ref fa) ->
   s₁.heap.get? a=some { cls := .type "list",data := .seq vs.toArray }->HU vs ns->ns.length<=n->s₁.gens = #[] ->
   HS (model l.prog w) Lh (.call (.ref fa) ⟨[.ref a],[]⟩) (fun r s'=>r = .ok (.ret (.bool true))/\OldK s₁.heap s'.heap/\s'.os=s₁.os/\JM s'.gens) s₁) :
 WalkO q loose XP YP l.row.toRowW d [] (fun f vs=>NM f vs):=by
 intro w s₀ s₁ mg mb G Y fa o pm cd doc dV kV ho hd F O J hg args vals as j U BY L BZ;obtain rfl:dV = .none:=Dflts.none O B;obtain rfl:kV = .none:=Dflts.noKw O;obtain ⟨a,vs,ns,rfl,rfl,z,hints,hlen⟩:=r6 Z j L;refine enter_call (Je (call w s₀ s₁ mg mb fa o pm cd doc a vs ns G Y ho (fd_plain hd) F J z hints hlen hg) fun r s' hq => ?_);obtain ⟨rfl,h2,h3,h4⟩:=hq;exact ⟨.inl ⟨.bool true, .bool true,[],rfl,fun _=>rfl, .bool true,r8 l _,fun _=>⟨JP,fun _ hm=>(nomatch hm)⟩⟩,h2,h3,h4⟩
section
variable {prog:Er} {w:EH} {A:EK} {E:e7->g6->Prop} {s:g6} {K:Frag}
noncomputable def BX (h:Heap) (L d:Addr):List (Addr×Obj):=(ED h.objs.size).filterMap fun a=>if a=L∨a=d then none else (h.get? a).map fun o=>(a,o)
end
end Att
namespace L2
open PySem PySem.Spec PyProof.Rows
section
theorem jt:∀ {vs:List e7} {ns:List Int},HU vs ns->Vals (ns.map V.int) vs
 | _,_, .nil => .nil
 | _,_, .cons n t h => .cons ⟨t,rfl⟩ (jt h)
def pC (H:Hp):Prop := ∀ b,H b=none ∨ ∃ o xs,H b=some (.frz o (.lst xs))
theorem uj {P:Er} {w:EH} {K:Frag} {mg mb:Str->Option e7} {CX:CXT} {k:Nat} {fa a:Addr} {fd:Ht} {x:Str} {sp:Sp} {s₁:g6} {vs:List e7} {ns:List Int}
 (KX:K.In s₁.heap) (G:s₁.heap.Ns Fo mg) (j:s₁.heap.Ns NA mb) (Y:∀ x:Str,x ≠ "__name__" -> mb x=Gs x) (J:s₁.heap.NoLimit) (hg:s₁.gens = #[])
 (U:s₁.heap.get? a=some { cls := .type "list",data := .seq vs.toArray }) (hi:HU vs ns) (hl:ns.length<=D0) (hr:Room k Lh)
 (F:∀ base:Heap,K.In base->base.Ns Fo mg->cY P w K mg base CX k fa fd [x] sp) (B:∀ (s:g6) (u:e7),Mc s fd ⟨[u],[]⟩ [(x,u)])
 (Z:∀ H:Hp,pC H->SqL K H a (ns.map V.int)->sp [.ref a] H (fun v _=>v = .bl true) fun _ _ _=>False)
 (BY:∀ H e s',CX [] H s₁ (fun _ _ _=>False) e s'->False) :
 HS (model P w) Lh (.call (.ref fa) ⟨[.ref a],[]⟩) (fun r s'=>r = .ok (.ret (.bool true))/\OldK s₁.heap s'.heap/\s'.os=s₁.os/\JM s'.gens) s₁ := by
 have rv:=jt hi;have lenV:=hi.length;have core:∀ H:Hp,pC H->SqL K H a (ns.map V.int)->HOk P w H s₁.heap->(∀ b,H b≠none->b=a)->(H a≠none->K.lookup a=none) ->
  HS (model P w) Lh (.call (.ref fa) ⟨[.ref a],[]⟩) (fun r s'=>r = .ok (.ret (.bool true))/\OldK s₁.heap s'.heap/\s'.os=s₁.os/\JM s'.gens) s₁ := by
  intro H hO hS hok hA hK;have base_of:∀ {b:Addr} {o:Obj},s₁.heap.get? b=some o->H b=none->(dR s₁.heap H).get? b=some o:=fun e n=>tV e n;have noA:∀ {b:Addr} {o:Obj} {es:Array IC} {ep:Nat},s₁.heap.get? b=some o->o.data = .dict es ep->H b=none:=fun {b o es ep} e d=>by
   cases q:H b with
   | none=>rfl
   | some u =>
     have e':b=a:=hA b (by rw [q];simp)
     subst e';rw [U] at e;cases e;have d':KQ vs.toArray _=Data.dict es ep:=d
     cases d'
  have nsK:∀ {b:Addr} {m:Str->Option e7},s₁.heap.Ns b m->(dR s₁.heap H).Ns b m:=fun {b m} ⟨o,es,ep,e,d,r⟩=>⟨o,es,ep,base_of e (noA e d),d,r⟩;have L:K.In (dR s₁.heap H):=fun b o e=>base_of (KX b o e) (by
   cases q:H b with
   | none=>rfl
   | some u =>
     have e':b=a:=hA b (by rw [q];simp)
     subst e';rw [hK (by rw [q];simp)] at e;cases e)
  have hM:Mod K mg (dR s₁.heap H):=⟨L,nsK G,⟨mb,nsK j,Y⟩,let ⟨mc,h1,h2⟩:=J; ⟨mc,nsK h1,h2⟩⟩;have e0:pi P w K mg (dR s₁.heap H) Lh [] s₁ H:=⟨rfl,hM,fun b o e=>wL e,Nat.le_of_eq (qM _ _),trivial,fun b j=>absurd (show b∈([]:List Addr) from j) (by simp),hok, .of_eq hg⟩
  refine Je ((F _ L (nsK G)).run Lh [] s₁ H ⟨[.ref a],[]⟩ [.ref a] [.ref a] _ _ hr e0 (B s₁ (.ref a)) (.cons rfl .nil) (Z H hO hS)) fun r s' h => ?_
  cases r with
  | error e=>exact (BY H e s' h).elim
  | ok fl =>
    cases fl with
    | next=>exact False.elim h
    | brk=>exact False.elim h
    | cont=>exact False.elim h
    | ret u =>
      obtain ⟨v,H',os,bare,un,O,r',q⟩:=h;have q':v = .bl true:=q;subst q';obtain rfl:u=Jl true:=r';refine ⟨rfl,OldK.of_keep fun b o e => ?_,os,bare⟩
      cases q:H b with
      | none=>exact un.keep b o e q (by intro z;exact absurd (show b∈([]:List Addr) from z) (by simp)) (by simp)
      | some u =>
        rcases hO b with z | ⟨ob,xs,z⟩
        ·rw [q] at z;cases z
        ·have z2:=un.frzs b ob _ z;obtain ⟨e1,_⟩:=hok b _ z;obtain ⟨e2,_⟩:=O b _ z2;rw [e] at e1;cases e1;exact e2
 cases hk:K.lookup a with
 | some o =>
   have e:=KX a o hk;rw [U] at e
   cases e
   refine core (fun _=>none) (fun _ => .inl rfl) (.inr ⟨_,vs.toArray,_,hk,rfl,rfl,rfl,by rw [E9,lenV];exact hl,by simpa using rv⟩) (fun b u z=>by have z':(none:Option HO)=some u:=z;cases z') (fun b z=>absurd rfl z) fun z=>absurd rfl z
 | none =>
   refine core (fun b=>if b=a then some (.frz { cls := .type "list",data := .seq vs.toArray } (.lst (ns.map V.int))) else none) (fun b => ?_) (.inl (.inr ⟨{ cls := .type "list",data := .seq vs.toArray },if_pos rfl⟩)) (fun b u z => ?_) (fun b z => ?_) fun _=>hk
   ·by_cases j:b=a
    ·exact .inr ⟨_,_,if_pos j⟩
    ·exact .inl (if_neg j)
   ·by_cases j:b=a
    ·have z':=(if_pos j).symm.trans z
     cases z'
     subst j;exact ⟨U,by rw [Eg];exact hl,vs,_,rv,U⟩
    ·have z':=(if_neg j).symm.trans z
     cases z'
   ·by_cases j:b=a
    ·exact j
    ·exact absurd (if_neg j) z
end
section
theorem walk_of {l:Kw} {n k:Nat} {q:Er} {loose:List Str} {XP:(Str->Option e7)->Heap->Prop} {YP:EH->Heap->Prop} {d:DefRec} {K:Params->Frag} {CX:EH->CXT} {sp:EH->Sp} {x:Str}
 (U:l.most=some n) (z:n<=D0) (B:d.params.defaults=[]) (Z:Room k Lh)
 (hY:∀ (w:EH) (h:Heap),YP w h->(K w.params).In h)
 (F:∀ (w:EH) (mg:Str->Option e7) (fa:Addr) (h:Heap),(K w.params).In h->h.Ns Fo mg->mg d.name=some (.ref fa) ->
   ∃ fd:Ht,(∀ (s:g6) (u:e7),Mc s fd ⟨[u],[]⟩ [(x,u)]) /\
    ∀ base:Heap,(K w.params).In base->base.Ns Fo mg->cY l.prog w (K w.params) mg base (CX w) k fa fd [x] (sp w))
 (J:∀ (w:EH) (H:Hp) (a:Addr) (ns:List Int),ns.length<=n->pC H->SqL (K w.params) H a (ns.map V.int)->sp w [.ref a] H (fun v _=>v = .bl true) fun _ _ _=>False)
 (L:∀ (w:EH) (H:Hp) (s:g6) (e:e7) (s':g6),CX w [] H s (fun _ _ _=>False) e s'->False) :
 PySem.W.WalkO q loose XP YP l.row.toRowW d [] (fun f vs=>NM f vs):=by
 refine Att.attach_call U B fun w s₀ s₁ mg mb fa o pm cd doc a vs ns G Y ho hd BY O j hints hlen hg => ?_;have KX:=hY w _ Y;obtain ⟨fd,hb,hF⟩:=F w mg fa _ KX G.T.g O;exact uj KX G.T.g G.T.b G.T.builtins G.T.nolimit hg j hints (Fb hlen z) Z hF hb (fun H hO hS=>J w H a ns hlen hO hS) fun H e s'=>L w H s₁ e s'
end
section
noncomputable def cQ (s:Stmt):Arguments:=match s with
 | .FunctionDef _ a _ _ _ _ _ _ _ _=>a
 | _ => { posonlyargs := [],args := [],vararg:=none,kwonlyargs := [],kw_defaults := [],kwarg:=none,defaults := [] }
noncomputable def bw (s:Stmt):List Stmt:=match s with
 | .FunctionDef _ _ b _ _ _ _ _ _ _=>b
 | _ => []
noncomputable def au (s:Stmt):Scope:=match s with
 | .FunctionDef _ _ _ _ _ _ sc _ _ _=>sc
 | _ => { kind := .function,names := [],isGenerator:=false,isCoroutine:=false }
noncomputable abbrev CX0:CXT:=fun _ _ _ _ _ _=>False
noncomputable abbrev E0:XK:=fun _ _ _=>False
theorem we {X:Cx}:gW CX0 X E0:=fun _ _ _ _ _ _ _ h=>h.elim
structure Fun (K:Frag) (x qual:Str) (st:Stmt) (f:Addr) (fd:Ht):Prop where
 ex:∃ (oc:e7) (od:Option Addr) (kV doc pm:e7) (an:Option Addr) (cdv ct:e7) (osl:Array (Option e7)),
  fd=Ha x qual (cQ st) (bw st) (au st) .none kV doc pm an cdv ct/\K.lookup f=some ⟨oc,od, .func fd,osl⟩/\Jr K cdv qual=true
 kp:Hu K (.ref f)=true
section
variable {P:Er} {w:EH} {K:Frag} {mg:Str->Option e7} {base:Heap}
theorem Fun.ok {x qual:Str} {st:Stmt} {f:Addr} {fd:Ht} {N ps:List Str} {k:Nat} {sp:Sp} (F:Fun K x qual st f fd) (S:eW N ps (au st)) (len:∀ vs H Q E,sp vs H Q E->vs.length=ps.length)
 (j:∀ (cdv:e7) (A:EK) (outer:List Env) (s:g6) (H:Hp) (vs:List V) (Q:VK) (E:XK),Room k (A.deeper (KN qual (au st) s.heap.objs.size f cdv))->sp vs H Q E ->
   ∃ t,PSs (fZ CX0 P w K mg base N qual (au st) f cdv A outer s H E).nox (bw st) t/\t { nx:=fun _ H'=>Q .non H',rt:=Q } (cu N vs) H):cY P w K mg base CX0 (k+1) f fd ps sp:=by
 obtain ⟨oc,od,kV,doc,pm,an,cdv,ct,osl,rfl,lk,z⟩:=F.ex;refine AM lk z S len fun A outer s H vs Q E G B => ?_;obtain ⟨t,h,q⟩:=j cdv A outer s H vs Q E G B;exact ⟨t,h.nox,q⟩
theorem Fun.binds {x qual:Str} {st:Stmt} {f:Addr} {fd:Ht} {ps:List Str} (F:Fun K x qual st f fd)
 (h:∀ (kV doc pm:e7) (an:Option Addr) (cdv ct:e7) (us:List e7),us.length=ps.length->bindArgs (Ha x qual (cQ st) (bw st) (au st) .none kV doc pm an cdv ct) ⟨us,[]⟩=pure (ps.zip us)):Binds K fd ps []:=by
 obtain ⟨oc,od,kV,doc,pm,an,cdv,ct,osl,rfl,lk,j⟩:=F.ex;exact .all (h kV doc pm an cdv ct)
theorem ai {x qual:Str} {st:Stmt} {f:Addr} {oc:e7} {od an:Option Addr} {osl:Array (Option e7)} {kV doc pm cdv ct:e7} (l:K.lookup f=some ⟨oc,od, .func (Ha x qual (cQ st) (bw st) (au st) .none kV doc pm an cdv ct),osl⟩)
 (c:Jr K cdv qual=true) (k:Hu K (.ref f)=true):Fun K x qual st f (Ha x qual (cQ st) (bw st) (au st) .none kV doc pm an cdv ct):=⟨⟨oc,od,kV,doc,pm,an,cdv,ct,osl,rfl,l,c⟩,k⟩
end
end
end L2
namespace HT
open PySem PySem.Spec PyProof.Rows
section
variable {prog:Er} {w:EH} {A:EK} {E:e7->g6->Prop} {s:g6}
theorem getItem_tuple_whole {t sl:Addr} {items:Array e7} {vl vu:e7} {lo hi:Option Int} {Q:e7->g6->Prop} (j:Nc s.heap t items) (hs:s.heap.IsSliceOf sl vl vu .none) (pl:Kf vl lo) (pu:Kf vu hi)
 (hw:sIx items.size 0 lo=0/\sIx items.size items.size hi=items.size) (h:Q (.ref t) s):Ee (model prog w) A (JO (.ref t) (.ref sl)) Q E s:=by
 obtain ⟨os,q,z,G⟩:=id hs;have B:s.TypeIs (.ref sl) "slice" := ⟨os,q,z⟩;unfold JO
 try with_reducible refine FO ?_
 first | refine b3 (gV ?_) | skip
 refine b3 (Me j.typeIs (by decide) ?_)
 refine b3 (ET (name:=Fe "__getitem__") j.typeIs G4
  (EG G4 j.typeIs Lk ?_ (LI _ _)))
 show Ee _ _ (Hv (.ref t) >>= _) _ _ s;refine b3 (tupleItemsOf_ j ?_);refine b3 (Mf B ?_);rw [if_pos (by decide)]
 refine b3 (cZ hs pl pu ?_);have F:(((sIx items.size 0 lo:Nat):Int)==0&&(1:Int)==1&&(sIx items.size items.size hi - sIx items.size 0 lo)==items.size)=true:=by
  rw [hw.1,hw.2];simp
 show Ee _ _ (if (((sIx items.size 0 lo:Nat):Int)==0&&(1:Int)==1&&(sIx items.size items.size hi - sIx items.size 0 lo)==items.size)=true then _ else _) _ _ s
 rw [if_pos F];refine b3 (m:=Ju (.ref t)) ?_;unfold Ju;refine b3 (Mf j.typeIs (gV ?_));show Ee _ _ (if true=true then _ else _) _ _ s
 rw [if_pos rfl];exact b3 (FU (gV ⟨_,rfl,gV h⟩))
end
end HT
namespace L2
open PySem PySem.Spec PyProof.Rows
section
section
variable {X:Cx}
noncomputable def BM (K:Frag):V->Option Int->Option Int->Hp->VK->Prop:=fun x lo hi H Q => ∃ a xs,x = .ref a/\SqT K H a xs/\(HT.sIx xs.length 0 lo=0/\HT.sIx xs.length xs.length hi=xs.length)/\Q x H
theorem uk:SlR X (BM X.K):=by
 intro pins s σ H x v vl vu lo hi sl Q I rx hs pl pu h;obtain ⟨a,xs,rfl,hx,hw,q⟩:=h
 cases rx
 obtain ⟨its,r,j,hz⟩:=I.tuple hx;have hlen:=r.length;refine ⟨"tuple",_,slot_tuple_getitem.lookup,j.typeIs, ?_⟩;refine HT.getItem_tuple_whole j hs pl pu (by rw [E9, <- hlen];exact hw) ⟨.ref a,H,I,rfl,q⟩
end
end
section
section
variable {κ:Type} [DecidableEq κ]
noncomputable def bq (kvs:List (κ × V)) (k : κ):Option V:=(kvs.find? fun kv=>decide (kv.1=k)).map (·.2)
noncomputable def bH (kvs:List (κ × V)) (k : κ) (v:V):List (κ × V) :=
 if (kvs.any fun kv=>decide (kv.1=k))=true then kvs.map (fun kv=>if kv.1=k then (kv.1,v) else kv) else kvs++[(k,v)]
theorem dS {p : κ × V} {r:List (κ × V)} {k : κ} (e:p.1=k):bq (p::r) k=some p.2:=by simp [bq,FT,e]
theorem dU {p : κ × V} {r:List (κ × V)} {k : κ} (e : ¬ p.1=k):bq (p::r) k=bq r k:=by simp [bq,FT,e]
theorem kC (k : κ):∀ kvs:List (κ × V),(kvs.any fun kv=>decide (kv.1=k))=(bq kvs k).isSome
 | [] => rfl
 | p::r=>by
   rw [IM]
   by_cases e:p.1=k
   ·simp only [dS e,decide_eq_true e,Bool.true_or,LK]
   ·rw [dU e,decide_eq_false e,JT];exact kC k r
theorem fP (kvs:List (κ × V)) (k : κ) (v:V):(bH kvs k v).length<=kvs.length+1:=by
 unfold bH
 split
 ·rw [Eg];omega
 ·rw [r4,FW,FR];omega
theorem RelO.isSome_eq {o:Option V} {u:Option e7} (r:RelO o u):o.isSome=u.isSome:=by
 cases o with
 | none=>cases u with
   | none=>rfl
   | some _=>exact (show False from r).elim
 | some _=>cases u with
   | none=>exact (show False from r).elim
   | some _=>rfl
theorem KV.val {kvs:List (κ × V)} {vs:List (κ × e7)} (r:KV kvs vs) (k : κ):RelO (bq kvs k) (Li vs k):=by
 unfold KV at r
 induction r with
 | nil=>exact Fv
 | @cons p q ps qs h t ih =>
  obtain ⟨h1,h2⟩:=h
  by_cases e:p.1=k
  ·have e':q.1=k:=h1.symm.trans e;have b:Li (q::qs) k=some q.2:=by simp [Li,FT,e']
   rw [dS e,b];exact h2
  ·have e' : ¬ q.1=k:=fun z=>e (h1.trans z);have b:Li (q::qs) k=Li qs k:=by simp [Li,FT,e']
   rw [dU e,b];exact ih
theorem KV.any {kvs:List (κ × V)} {vs:List (κ × e7)} (r:KV kvs vs) (k : κ):(kvs.any fun kv=>decide (kv.1=k))=vs.any fun kv=>decide (kv.1=k):=by
 unfold KV at r
 induction r with
 | nil=>rfl
 | cons h t ih=>rw [IM,IM,ih,h.1]
theorem KV.repl {kvs:List (κ × V)} {vs:List (κ × e7)} (r:KV kvs vs) (k : κ) {y:V} {u:e7} (ry:RelV y u) :
 KV (kvs.map fun kv=>if kv.1=k then (kv.1,y) else kv) (vs.map fun kv=>if kv.1=k then (kv.1,u) else kv):=by
 unfold KV at r ⊢
 induction r with
 | nil=>exact .nil
 | @cons p q ps qs h t ih =>
  rw [Ew,Ew];refine .cons ?_ ih;obtain ⟨h1,h2⟩:=h
  by_cases e:p.1=k
  ·rw [if_pos e,if_pos (h1.symm.trans e)];exact ⟨h1,ry⟩
  ·rw [if_neg e,if_neg (fun z=>e (h1.trans z))];exact ⟨h1,h2⟩
theorem KV.put {kvs:List (κ × V)} {vs:List (κ × e7)} (r:KV kvs vs) (k : κ) {y:V} {u:e7} (ry:RelV y u):KV (bH kvs k y) (stored vs k u):=by
 unfold bH stored;rw [r.any k]
 by_cases e:(vs.any fun kv=>decide (kv.1=k))=true
 ·rw [if_pos e,if_pos e];exact r.repl k ry
 ·rw [if_neg e,if_neg e];exact Paired.snoc r ⟨rfl,ry⟩
theorem KV.length {kvs:List (κ × V)} {vs:List (κ × e7)} (r:KV kvs vs):kvs.length=vs.length:=Gw r
end
theorem pD {P:Er} {w:EH} {k:Key} {u:e7} (r:RelV (kV k) u):(aS P w).is k u=true:=by
 cases k with
 | inl i=>obtain ⟨t,e⟩:=(show ∃ t,u=Iw i t from r);subst e;exact nC P w i t
 | inr x=>obtain ⟨t,e⟩:=(show ∃ t,u=Lf x t from r);subst e;exact nD P w x t
theorem ju {P:Er} {w:EH}:∀ {ks:List Key} {us:List e7},Vals (ks.map kV) us->ItemsAre (aS P w) ks us
 | [],_,r=>by rw [Ii] at r;cases r;exact .nil
 | k::ks,_,r=>by
   rw [Ew] at r
   cases r with
   | cons h t=>exact .cons (pD h) (ju t)
noncomputable abbrev KT (H:Hp):List (List Key×V)->List (List Key×Addr×e7)->Prop:=FG fun p q=>p.1=q.1/\H q.2.1=some (.tup (p.1.map kV))/\RelV p.2 q.2.2
theorem KT.val {H:Hp} {kvs:List (List Key×V)} {xs:List (List Key×Addr×e7)} (r:KT H kvs xs) (k:List Key):RelO (bq kvs k) ((HK xs k).map (·.2)):=by
 induction r with
 | nil=>exact Fv
 | @cons p q ps qs h t ih =>
  obtain ⟨h1,_,h2⟩:=h
  by_cases e:p.1=k
  ·have e':q.1=k:=h1.symm.trans e;have b:HK (q::qs) k=some q.2:=by simp [HK,FT,e']
   rw [dS e,b];exact h2
  ·have e' : ¬ q.1=k:=fun z=>e (h1.trans z);have b:HK (q::qs) k=HK qs k:=by simp [HK,FT,e']
   rw [dU e,b];exact ih
theorem KT.repl {H:Hp} {kvs:List (List Key×V)} {xs:List (List Key×Addr×e7)} (r:KT H kvs xs) (k:List Key) {y:V} {u:e7} (ry:RelV y u) :
 KT H (kvs.map fun kv=>if kv.1=k then (kv.1,y) else kv) (xs.map (putAt k u)):=by
 induction r with
 | nil=>exact .nil
 | @cons p q ps qs h t ih =>
  rw [Ew,Ew];refine .cons ?_ ih;obtain ⟨h1,h2,j⟩:=h;unfold putAt
  by_cases e:p.1=k
  ·rw [if_pos e,if_pos (h1.symm.trans e)];exact ⟨h1,h2,ry⟩
  ·rw [if_neg e,if_neg (fun z=>e (h1.trans z))];exact ⟨h1,h2,j⟩
theorem KT.put {H:Hp} {kvs:List (List Key×V)} {xs:List (List Key×Addr×e7)} (r:KT H kvs xs) (k:List Key) {b:Addr} {y:V} {u:e7} (j:H b=some (.tup (k.map kV))) (ry:RelV y u) :
 KT H (bH kvs k y) (HA xs k b u):=by
 have e:(kvs.any fun kv=>decide (kv.1=k))=(HK xs k).isSome:=by
  rw [kC,(r.val k).isSome_eq,Option.isSome_map]
 unfold bH HA;rw [e]
 by_cases q:(HK xs k).isSome=true
 ·rw [if_pos q,if_pos q];exact r.repl k ry
 ·rw [if_neg q,if_neg q];exact Paired.snoc r ⟨rfl,j,ry⟩
theorem KT.keeps {H H':Hp} {kvs:List (List Key×V)} {xs:List (List Key×Addr×e7)} (r:KT H kvs xs) (j:∀ b ys,H b=some (.tup ys)->H' b=some (.tup ys)):KT H' kvs xs :=
 Ob r fun _ _ z=>⟨z.1,j _ _ z.2.1,z.2.2⟩
section
variable {P:Er} {w:EH} {H:Hp} {h:Heap} {a:Addr}
theorem wf {u:HO} (ok:HOk P w H h) (e:Rd H a u):ObjOk P w H h a u:=e.ok ok
theorem pE {kvs:List (Key×V)} (ok:HOk P w H h) (e:Rd H a (.dK kvs)):kvs.length<=D0/\(a==G6)=false /\ ∃ vs,KV kvs vs/\h.DictOf (aS P w) a vs :=
 show ObjOk P w H h a (.dK kvs) from wf ok e
theorem AR {kvs:List (Key×V)} (ok:HOk P w H h) (e:H a=some (.dK kvs)):kvs.length<=D0/\(a==G6)=false /\ ∃ vs,KV kvs vs/\h.DictOf (aS P w) a vs:=pE ok (.inl e)
theorem kD {ks:List Key} (ok:HOk P w H h) (e:H a=some (.tup (ks.map kV))):(Lg (aS P w)).is h ks a:=by
 obtain ⟨_,its,r,o,h1,h2,n,j⟩:=(show ObjOk P w H h a (.tup (ks.map kV)) from ok a _ e);exact ⟨o,its.toArray,n,h1,h2,j,by simpa using ju r⟩
theorem pF {kvs:List (List Key×V)} (ok:HOk P w H h) (e:Rd H a (.dT kvs)):kvs.length<=D0/\(a==G6)=false /\
 ∃ xs,KT H kvs xs/\h.DictOfH (Lg (aS P w)) a xs:=by
 obtain ⟨z,y,xs,r,o,es,ep,h1,h2,j,B,F⟩:=(show ObjOk P w H h a (.dT kvs) from wf ok e);refine ⟨z,y,xs,r,o,es,ep,h1,h2,j,B,fun x hx => ?_,F⟩;have all:∀ {l:List (List Key×V)} {m:List (List Key×Addr×e7)},KT H l m -> ∀ x∈m,(Lg (aS P w)).is h x.1 x.2.1:=by
  intro l m q
  induction q with
  | nil=>intro x hx;exact nomatch hx
  | @cons p q ps qs hq t ih =>
   intro x hx
   rcases Eb.mp hx with e | hx
   ·subst e;exact kD ok (by rw [<- hq.1];exact hq.2.1)
   ·exact ih x hx
 exact all r x hx
theorem AS {kvs:List (List Key×V)} (ok:HOk P w H h) (e:H a=some (.dT kvs)):kvs.length<=D0/\(a==G6)=false /\
 ∃ xs,KT H kvs xs/\h.DictOfH (Lg (aS P w)) a xs:=pF ok (.inl e)
end
def DGet (H:Hp) (a:Addr) (y:V) (r:Option V):Prop :=
 (∃ kvs k,Rd H a (.dK kvs)/\y=kV k/\r=bq kvs k) ∨ ∃ kvs k b,Rd H a (.dT kvs)/\y = .ref b/\H b=some (.tup (k.map kV))/\r=bq kvs k
def DPut (H:Hp) (a:Addr) (y v:V) (H':Hp):Prop :=
 (∃ kvs k,H a=some (.dK kvs)/\y=kV k/\kvs.length < D0/\H'=upd H a (.dK (bH kvs k v))) ∨
 ∃ kvs k b,H a=some (.dT kvs)/\y = .ref b/\H b=some (.tup (k.map kV))/\kvs.length < D0/\H'=upd H a (.dT (bH kvs k v))
theorem DGet.k {H:Hp} {a:Addr} {kvs:List (Key×V)} {k:Key} (e:H a=some (.dK kvs)):DGet H a (kV k) (bq kvs k) := .inl ⟨kvs,k, .inl e,rfl,rfl⟩
theorem DPut.k {H:Hp} {a:Addr} {kvs:List (Key×V)} {k:Key} {v:V} (e:H a=some (.dK kvs)) (j:kvs.length < D0):DPut H a (kV k) v (upd H a (.dK (bH kvs k v))) := .inl ⟨kvs,k,e,rfl,j,rfl⟩
theorem DPut.t {H:Hp} {a b:Addr} {kvs:List (List Key×V)} {k:List Key} {v:V} (e:H a=some (.dT kvs)) (eb:H b=some (.tup (k.map kV))) (j:kvs.length < D0) :
 DPut H a (.ref b) v (upd H a (.dT (bH kvs k v))) := .inr ⟨kvs,k,b,e,rfl,eb,j,rfl⟩
section
variable {X:Cx} {pins:List (Addr×Obj)} {σ:St} {H:Hp} {s:g6} {a:Addr} {y v:V} {u r:e7} {o:Option V} {A:EK} {E:e7->g6->Prop}
theorem Inv.big (I:Inv X pins σ H s):G6 < s.heap.objs.size:=by
 have h:Fo < s.heap.objs.size:=(I.mod.glob.keeps I.bk).lt;exact Nat.lt_trans (by decide) h
theorem r9 {Q:e7->g6->Prop} (q:A.units+1 < G0) (I:Inv X pins σ H s) (g:DGet H a y (some v)) (ry:RelV y u) (h:∀ w' s',Inv X pins σ H s'->RelV v w'->Q w' s') :
 Ee (model X.prog X.w) A (JO (.ref a) u) Q E s:=by
 rcases g with ⟨kvs,k,e,ey,l⟩ | ⟨kvs,k,b,e,ey,eb,l⟩
 ·subst ey;obtain ⟨z,hd,vs,rel,dd⟩:=pE I.hok e;obtain ⟨w',hw,rw'⟩:=Ol (v:=v) (o:=Li vs k) (by rw [l];exact rel.val k)
  exact wpAny_getItem_of (pD ry) dd.mapOf hw (h w' _ (I.tok _) rw')
 ·subst ey
  cases (show u=ES b from ry)
  obtain ⟨z,hd,xs,rel,dd⟩:=pF I.hok e;obtain ⟨w',hw,rw'⟩:=Ol (v:=v) (o:=(HK xs k).map (·.2)) (by rw [l];exact rel.val k)
  obtain ⟨p,B,j⟩:=Hb.mp hw;refine LL (LM q) (kD I.hok eb) dd B ?_;rw [j];exact h w' _ (I.tok _) rw'
theorem dB {h':Heap} {t':Nat} {ob:HO} (I:Inv X pins σ H s) (mu:Mut (H a)) (hs:FC a s.heap h') (he:∃ q,h'.get? a=some q) (new:ObjOk X.prog X.w (upd H a ob) h' a ob) :
 Inv X pins σ (upd H a ob) { s with heap:=h',toks:=t' } :=
 I.write (x:=a) (e:=a) mu (.inl rfl) (fun b q j z=>(hs.2 b j).trans z) he new
theorem zx {P:Er} {w:EH} {H':Hp} {h':Heap} {kvs:List (Key×V)} {vs:List (Key×e7)} (z:kvs.length<=D0) (hd:(a==G6)=false) (rel:KV kvs vs) (dd:h'.DictOf (aS P w) a vs) :
 ObjOk P w H' h' a (.dK kvs):=⟨z,hd,vs,rel,dd⟩
theorem rf {H':Hp} {Q:Unit->g6->Prop} (F:A.units+1 < G0) (I:Inv X pins σ H s) (g:DPut H a y v H') (ry:RelV y u) (rv:RelV v r) (h:∀ s',Inv X pins σ H' s'->Q () s') :
 Ee (model X.prog X.w) A (LW (.ref a) u r) Q E s:=by
 rcases g with ⟨kvs,k,e,ey,l,eH⟩ | ⟨kvs,k,b,e,ey,eb,l,eH⟩
 ·subst ey eH;obtain ⟨z,hd,vs,rel,dd⟩:=AR I.hok e;have hz:vs.length<=D0:=by rw [<- rel.length];exact z
  have B:(bH kvs k v).length<=D0:=by have:=fP kvs k v;omega
  refine wpAny_setItem_pairs (hsz:=hz) (pD ry) dd fun h' dd' hs=>h _ ?_;have he:∃ q,h'.get? a=some q:=let ⟨q,_,_,j,_⟩:=dd'; ⟨q,j⟩;exact dB I (by rw [e];exact Fv) hs he (zx B hd (rel.put k rv) dd')
 ·subst ey eH
  cases (show u=ES b from ry)
  obtain ⟨z,hd,xs,rel,dd⟩:=AS I.hok e;have hz:xs.length<=D0:=by rw [<- Gw rel];exact z
  have B:(bH kvs k v).length<=D0:=by have:=fP kvs k v;omega
  refine LN (hsz:=hz) (LM F) (kD I.hok eb) dd fun h' dd' hs=>h _ ?_;obtain ⟨q,es,ep,j,h2,G,J,_,L⟩:=dd';refine dB I (by rw [e];exact Fv) hs ⟨q,j⟩ ⟨B,hd,_,(rel.put k eb rv).keeps fun c ys ec => ?_,q,es,ep,j,h2,G,J,L⟩
  rw [ak (Ay ec e (fun z=>nomatch z))];exact ec
end
structure M2 (X:Cx) (o:Expr) (m:Str) (apos:Pos) (e f:Expr) (cpos:Pos):Prop where
 base:JS o m X.env (eval o X.env)=eval o X.env
 few:((Hk cpos (Et [e,f] X.env)).all (fun x => !x.1)&&(backToKw cpos (Ng [] X.env)).all (fun x=>x.1.isSome)
  && decide (([e,f]:List Expr).length+([]:List Ki).length+(if ([]:List Ki).isEmpty then 0 else 1) < 30))=true
 line:(apos.endLine==cpos.line)=true
 trees:Hk cpos (Et [e,f] X.env)=[(false,eval e X.env),(false,eval f X.env)]
def IsD (H:Hp) (a:Addr):Prop:=(∃ kvs,Rd H a (.dK kvs)) ∨ ∃ kvs,Rd H a (.dT kvs)
theorem zy {X:Cx} {pins:List (Addr×Obj)} {σ:St} {H:Hp} {s:g6} {a:Addr} (I:Inv X pins σ H s) (d:IsD H a) :
 s.TypeIs (.ref a) "dict" /\ (∀ b,ES a = .ref b -> ∃ ob,s.heap.get? b=some ob/\ob.dict=none)/\(a==G6)=false:=by
 rcases d with ⟨kvs,e⟩ | ⟨kvs,e⟩
 ·obtain ⟨_,hd,vs,_,dd⟩:=pE I.hok e;refine ⟨dd.typeIs,fun b q => ?_,hd⟩
  cases q
  obtain ⟨ob,_,_,h1,h2,_⟩:=dd;exact ⟨ob,h1,h2.2.1⟩
 ·obtain ⟨_,hd,xs,_,dd⟩:=pF I.hok e;refine ⟨dd.typeIs,fun b q => ?_,hd⟩
  cases q
  obtain ⟨ob,_,_,h1,h2,_⟩:=dd;exact ⟨ob,h1,h2.2.1⟩
end
section
noncomputable def aU (elt:Expr) (gens:List F6) (scope:Scope) (pos:Pos) (d:Nat) (acc:e7) (env:Env) (k:Sem Fin):Sem Fin :=
 match gens[d+1]? with
 | some g'=>eval g'.iter env >>= fun x=>Jd g'.iter.pos >>= fun _=>Gi g'.iter env x >>= fun x=>holding [x] (Ke x) >>= fun it' =>
    runOwn (.compStart (.ListComp elt gens scope pos) (d+1) it' acc env) env >>= fun _=>k
 | none=>(eval elt env >>= fun x=>call (.builtin "list.append") [acc,x] >>= fun _=>pure ()) >>= fun _=>k
noncomputable def b5 (ifs:List Expr) (env:Env):Sem Bool :=
 forIn ifs true fun c r=>if r=true then do let ok <- isTrue c env (eval c env);pure (He ok) else pure (He r)
theorem kE (elt target iter:Expr) (ifs:List Expr) (gens:List F6) (scope:Scope) (pos:Pos) (d:Nat) (it acc:e7) (env:Env)
 (hd:gens[d]? = some ⟨target,iter,ifs,0⟩) (j:∀ g',gens[d+1]? = some g'->g'.is_async=0) :
 compTurn (.ListComp elt gens scope pos) d it acc env=(Jd iter.pos >>= fun _=>Hl it >>= fun r=>match r with
  | none=>pure (.done .next)
  | some v=>J0 target it v >>= fun _=>assign target env v >>= fun _=>b5 ifs env >>= fun ok =>
    (if ok=true then aU elt gens scope pos d acc env (again (.compLoop (.ListComp elt gens scope pos) d it acc env)) else again (.compLoop (.ListComp elt gens scope pos) d it acc env))):=by
 unfold compTurn;simp only [hd];unfold aU b5
 cases hn:gens[d+1]? with
 | none=>rfl
 | some g' =>
   obtain ⟨t',i',f',a'⟩:=g';have e:a'=0:=j _ hn;subst e;rfl
noncomputable abbrev TC:=St->Hp->(St->Hp->Prop)->Prop
def bU (J:It) (g:TG) (tb:TC) (N:St->Hp->Prop) (σ:St) (H:Hp):Prop :=
 ∃ W:Nat->Nat->St->Hp->Prop,(∃ m,W 0 m σ H) /\ ∀ i m σ H,W i m σ H ->
  (J.stop i H/\N σ H)∨(J.go i H /\ ∃ N':St->Hp->Prop,(∀ σ' H',N' σ' H' -> ∃ m',m' < m/\W (i+1) m' σ' H') /\ ∀ x H',J.yld i H x H'->g x σ H' fun σ2 H2=>tb σ2 H2 N')
def PB (X:Cx) (F:Sem Fin->Sem Fin) (t:TC):Prop :=
 ∀ (pins:List (Addr×Obj)) (s:g6) (σ:St) (H:Hp) (N:St->Hp->Prop) (k:Sem Fin) (Q:Fin->g6->Prop) (E:e7->g6->Prop),Inv X pins σ H s->t σ H N ->
  (∀ s' σ' H',Inv X pins σ' H' s'->N σ' H'->Ee (model X.prog X.w) X.A k Q E s')->Ee (model X.prog X.w) X.A (F k) Q E s
section
variable {X:Cx}
theorem nox {α:Type} {m:Sem α} {Q : α -> g6->Prop} {E:e7->g6->Prop} {s:g6} (hx:∀ e s,X.xe e s->False) (h:Ee (model X.prog X.w) X.A m Q X.xe s):Ee (model X.prog X.w) X.A m Q E s :=
 G7 h (fun _ _ q=>q) fun e s' q=>(hx e s' q).elim
noncomputable def gZ (ts:List TT) (tb:TC):TC:=match ts with
 | [] => tb
 | t::r=>fun σ H N=>t σ H fun b H1=>if b=true then gZ r tb σ H1 N else N σ H1
theorem hJ {env:Env} {M:Ib} {A:EK} {Q:Bool->g6->Prop} {E:e7->g6->Prop} {s:g6} (h:Q false s):∀ ifs:List Expr,
 Ee M A (forIn ifs false fun c r=>if r=true then do let ok <- isTrue c env (eval c env);pure (He ok) else pure (He r)) Q E s
 | [] => gV h
 | c::r=>by
   rw [Hf];simp only [EV,if_false];exact b3 (gV (hJ h r))
theorem kF (hx:∀ e s,X.xe e s->False) {tb:TC} {N:St->Hp->Prop}:∀ {ifs:List Expr} {ts:List TT},FG (fun c t=>PT X c t) ifs ts ->
 ∀ (pins:List (Addr×Obj)) (s:g6) (σ:St) (H:Hp) (E:e7->g6->Prop),Inv X pins σ H s->gZ ts tb σ H N ->
 Ee (model X.prog X.w) X.A (b5 ifs X.env) (fun ok s' => ∃ H',Inv X pins σ H' s'/\if ok=true then tb σ H' N else N σ H') E s
 | _,_, .nil=>fun pins s σ H E I h=>gV ⟨H,I,by rw [if_pos rfl];exact h⟩
 | c::ifs,_, .cons (b:=t) z hr=>by
   intro pins s σ H E I h;have ih:=kF hx hr (tb:=tb) (N:=N) pins;unfold b5 at ih ⊢;rw [Hf];simp only [if_true];refine b3 (b3 (nox hx (thn (z pins s σ H _ I h) fun b s1 ⟨H1,q,j⟩=>gV ?_)))
   cases b with
   | false =>
     rw [if_neg D2] at j;exact hJ ⟨H1,q,by rw [if_neg D2];exact j⟩ ifs
   | true =>
     rw [if_pos rfl] at j;exact ih s1 σ H1 E q j
theorem um (hx:∀ e s,X.xe e s->False) {F:Sem Fin->Sem Fin} {tb:TC} (z:PB X F tb) {ifs:List Expr} {ts:List TT} (B:FG (fun c t=>PT X c t) ifs ts) :
 PB X (fun k=>b5 ifs X.env >>= fun ok=>if ok=true then F k else k) (gZ ts tb):=by
 intro pins s σ H N k Q E I h hk;refine b3 (thn (kF hx B pins s σ H E I h) fun ok s1 ⟨H1,q,j⟩ => ?_)
 cases ok with
 | false =>
   rw [if_neg D2] at j ⊢;exact hk s1 σ H1 q j
 | true =>
   rw [if_pos rfl] at j ⊢;exact z pins s1 σ H1 N k Q E q j hk
noncomputable def wg (p:Addr) (te:TE):TC:=fun σ H N=>te σ H fun x H1 => ∃ xs,H1 p=some (.lst xs)/\xs.length < D0/\N σ (upd H1 p (.lst (xs++[x])))
theorem iW (hx:∀ e s,X.xe e s->False) {elt:Expr} {gens:List F6} {scope:Scope} {pos:Pos} {d:Nat} {p:Addr} {te:TE} (he:PE X elt te) (hd:gens[d+1]? = none) :
 PB X (aU elt gens scope pos d (.ref p) X.env) (wg p te):=by
 intro pins s σ H N k Q E I h j;unfold aU;rw [hd];refine b3 (b3 (nox hx (thn (he pins s σ H _ I h) fun u s1 ⟨x,H1,q,z,xs,B,l1,F⟩ => ?_)));refine b3 (nox hx (thn (jr (X:=X) pins s1 σ H1 (.ref p) [x] (.ref p) [u] (fun _ H2=>N σ H2) q rfl (.cons z .nil) ⟨p,xs,x,rfl,rfl,B,l1,F⟩) fun v s2 ⟨_,H2,G,_,J⟩ => ?_));exact gV (j s2 σ H2 G J)
theorem jv (hx:∀ e s,X.xe e s->False) (Y:X.calm=true) {elt target iter:Expr} {ifs:List Expr} {gens:List F6} {scope:Scope} {pos:Pos} {d:Nat} {acc:e7}
 (hd:gens[d]? = some ⟨target,iter,ifs,0⟩) (ha:∀ g',gens[d+1]? = some g'->g'.is_async=0) {g:TG} (hg:PG X target g) {tb:TC}
 (j:PB X (fun k=>b5 ifs X.env >>= fun ok=>if ok=true then aU elt gens scope pos d acc X.env k else k) tb)
 {pins:List (Addr×Obj)} {s:g6} {σ:St} {H:Hp} {N:St->Hp->Prop} {it:Addr} {fp:List Addr} {tn:Nat->Heap->Prop} {J:It} (I:Inv X pins σ H s) (T:el X.prog X.w X.K target J fp it tn)
 (t0:tn 0 s.heap) (f2:∀ b∈fp,bT X pins H b) (h:bU J g tb N σ H) :
 HS (model X.prog X.w) X.A (.compLoop (.ListComp elt gens scope pos) d (.ref it) acc X.env) (fun r s'=>match r with | .ok _ => ∃ σ' H',Inv X pins σ' H' s'/\N σ' H' | .error _=>False) s:=by
 obtain ⟨W,⟨m0,w0⟩,turn⟩:=h;have stat:∀ {H':Hp},(∀ b∈fp,H' b=none) -> ∀ b∈fp,bT X pins H' b:=fun hn b j=>⟨hn b j,(f2 b j).2⟩;refine codeAny_loop rfl (fun n s' => ∃ i σ' H',Inv X pins σ' H' s'/\tn i s'.heap/\(∀ b∈fp,H' b=none)/\W i n σ' H') ?_ m0 ⟨0, σ,H,I,t0,fun b j=>(f2 b j).1,w0⟩;rintro n s3 ⟨i, σ3,F,Z,z,B,w3⟩;show Ee _ _ ((compTurn (.ListComp elt gens scope pos) d (.ref it) acc X.env).onRaise (fun x=>do noteFrame x X.env;theTreesLotGoes x)) _ _ s3
 refine wpAny_noted ?_;rw [kE elt target iter ifs gens scope pos d (.ref it) acc X.env hd ha];refine b3 (Hh (b3 ?_));show Ee (model X.prog X.w) X.A _ _ _ s3
 rcases turn i n σ3 F w3 with ⟨stop,qn⟩ | ⟨go,N',hN,step⟩
 ·refine thn (T.done X rfl rfl rfl Y i pins s3 σ3 F _ Z (stat B) z stop) fun r s4 ⟨G,I4⟩ => ?_;subst G;exact gV ⟨σ3,F,I4,qn⟩
 ·refine thn (T.item X rfl rfl rfl Y i pins s3 σ3 F _ Z (stat B) z go) fun r s4 ⟨u,G,h4⟩ => ?_;subst G;refine b3 (thn h4 fun _ s5 ⟨x,H5,I5,r5,y5,q,L⟩ => ?_);have O:=I5.pinned (stat L) (T.obj _ _ q);refine b3 (nox hx (thn (hg _ s5 σ3 H5 x u _ O r5 (step x H5 y5)) fun _ s6 ⟨σ6,H6,I6,q6⟩ => ?_));refine j _ s6 σ6 H6 N' (again (.compLoop (.ListComp elt gens scope pos) d (.ref it) acc X.env)) _ _ I6 q6 fun s7 σ7 H7 U n7 => ?_;obtain ⟨m',hm,w7⟩:=hN σ7 H7 n7;refine gV ⟨rfl,m',hm,i+1, σ7,H7,U.unpinned,T.keep _ _ _ q fun b j o e=>(U.pin (b,o) (Ep _ (Ep _ (cG j e)))).1,fun b j => ?_,w7⟩;obtain ⟨o,e,dd⟩:=T.obj _ _ q b j;exact (U.pin (b,o) (Ep _ (Ep _ (cG j e)))).2.1
theorem hW {elt target iter:Expr} {ifs:List Expr} {gens:List F6} {scope:Scope} {pos:Pos} {d:Nat} {it acc:e7} {env:Env} {prog:Er} {w:EH} {A:EK} {R:NF->g6->Prop} {s:g6}
 (hd:gens[d]? = some ⟨target,iter,ifs,0⟩)
 (h0:HS (model prog w) A (.compLoop (.ListComp elt gens scope pos) d it acc env) R s)
 (h:Ee (model prog w) A (Ke it) (fun it' s'=>HS (model prog w) A (.compLoop (.ListComp elt gens scope pos) d it' acc env) R s')
   (notedBy (model prog w) A env fun x s'=>R (.error x) s') s) :
 HS (model prog w) A (.compStart (.ListComp elt gens scope pos) d it acc env) R s:=by
 refine codeAny_of_tree ?_;show Ee _ _ ((compStart (.ListComp elt gens scope pos) d it acc env).onRaise (fun x=>do noteFrame x env;Jd theWindowsPlace)) _ _ s
 refine wpAny_notedAt ?_;unfold compStart;have j:(clausesOf (.ListComp elt gens scope pos))[d]? = some ⟨target,iter,ifs,0⟩:=hd;rw [j];show Ee _ _ (ask >>= _) _ _ s;refine b3 (wpAny_askSetting (wpAny_ite ?_))
 split
 ·first
   | exact b3 (gV (gV (ID rfl h0)))
   | exact gV (ID rfl h0)
 ·first
   | exact b3 (FU (b3 (Hh (b3 (G7 h (fun it' s' h'=>gV (ID rfl h')) fun _ _ x=>x)))))
   | (refine b3 (FU ?_);show Ee _ _ (Jd iter.pos >>= _) _ _ s;exact b3 (Hh (b3 (G7 h (fun it' s' h'=>gV (ID rfl h')) fun _ _ x=>x))))
theorem jw (hx:∀ e s,X.xe e s->False) (z:X.calm=true) {elt target iter:Expr} {ifs:List Expr} {gens:List F6} {scope:Scope} {pos:Pos} {d:Nat} {acc:e7}
 (hd:gens[d+1]? = some ⟨target,iter,ifs,0⟩) (B:∀ g',gens[d+1+1]? = some g'->g'.is_async=0) {wi:TI} (hi:PI X target iter wi) {g:TG} (F:PG X target g) {tb:TC}
 (G:PB X (fun k=>b5 ifs X.env >>= fun ok=>if ok=true then aU elt gens scope pos (d+1) acc X.env k else k) tb)
 (hs:∀ x,Gi iter X.env x=pure x) :
 PB X (aU elt gens scope pos d acc X.env) (fun σ H N=>wi σ H fun J H1=>bU J g tb N σ H1):=by
 intro pins s σ H N k Q E I h hk;unfold aU;rw [hd];refine b3 (nox hx (thn (hi pins s σ H _ I h) fun v s1 h1 => ?_));refine b3 (Hh (b3 (IU (hs v) ?_)));refine b3 (FO (nox hx (thn h1 fun itv s2 h2 => ?_)));obtain ⟨it,fp,tn,J,H2,e,L,T,j,f2,hw⟩:=h2;subst e;have loop:=jv (acc:=acc) hx z hd B F G L T j f2 hw;refine b3 (wpAny_runOwn (Je (hW (R:=fun r s'=>match r with | .ok _ => ∃ σ' H',Inv X pins σ' H' s'/\N σ' H' | .error _=>False) hd loop (T.self _ 0 _ _ _ j loop)) fun r s3 q => ?_))
 cases r with
 | error e=>exact q.elim
 | ok f =>
   obtain ⟨σ3,O,U,Y⟩:=q;exact hk s3 σ3 O U Y
noncomputable def aN (cells:List (Str×Addr)):List (Str×GU)->List (Str×Addr)->List (Str×Addr)
 | [],acc=>acc
 | (n,k)::r,acc=>if k == .free then (match cells.lookup n with | some c=>aN cells r ((n,c)::acc) | none=>aN cells r acc) else aN cells r acc
theorem fQ {env:Env}:∀ (names:List (Str×GU)) (acc:List (Str×Addr)),(∀ x∈names,x.2 = .free->(env.cells.lookup x.1).isSome=true) ->
 (forIn names acc fun (x:Str×GU) (r:List (Str×Addr))=>(match x with | (name,kind)=>if (kind==EF)=true then do let c <- cellOf env name;pure (He ((name,c)::r)) else pure (He r):Sem (ForInStep (List (Str×Addr)))))=(pure (aN env.cells names acc):Sem (List (Str×Addr)))
 | [],acc,_=>rfl
 | (n,k)::r,acc,h=>by
  rw [Hf];have ih:=fun acc'=>fQ r acc' fun x hx=>h x (Ez _ hx);unfold aN
  by_cases hk:(k==EF)=true
  ·obtain ⟨c,q⟩:=GL.mp (h (n,k) Fl (beq_iff_eq.mp hk));have j:env.cells.lookup n=some c:=q;have z:cellOf env n=pure c:=by unfold cellOf;rw [j]
   simp only [hk,if_true,z,j,pure_bind];exact ih _
  ·simp only [hk,if_false,pure_bind];exact ih _
theorem hZ {scope:Scope} {env:Env} (h:∀ x∈scope.names,x.2 = .free->(env.cells.lookup x.1).isSome=true):closureFor scope env=pure (aN env.cells scope.names []):=by
 unfold closureFor;have e:=fQ (env:=env) scope.names [] h;simp only [bind_pure];exact e
theorem cH {cells:List (Str×Addr)} {y:Str} {c:Addr}:∀ {names:List (Str×GU)} {acc:List (Str×Addr)},(y,c)∈aN cells names acc->(y,c)∈acc∨(cells.lookup y=some c/\(y,EF)∈names)
 | [],acc,h => .inl h
 | (n,k)::r,acc,h=>by
  unfold aN at h
  by_cases hk:(k==EF)=true
  ·rw [if_pos hk] at h;have B:k = .free:=beq_iff_eq.mp hk;subst B
   cases F:cells.lookup n with
   | none =>
     rw [F] at h
     rcases cH h with z | ⟨j,q⟩
     ·exact .inl z
     ·exact .inr ⟨j,Ez _ q⟩
   | some c' =>
     rw [F] at h
     rcases cH h with z | ⟨j,q⟩
     ·rcases Eb.mp z with e | z
      ·cases e
       exact .inr ⟨F,Fl⟩
      ·exact .inl z
     ·exact .inr ⟨j,Ez _ q⟩
  ·rw [if_neg hk] at h
   rcases cH h with z | ⟨j,q⟩
   ·exact .inl z
   ·exact .inr ⟨j,Ez _ q⟩
theorem cI {cells:List (Str×Addr)} {y:Str} {c:Addr} (j:cells.lookup y=some c):∀ {names:List (Str×GU)} {acc:List (Str×Addr)},((y,c)∈acc∨(y,EF)∈names)->(y,c)∈aN cells names acc
 | [],acc,h=>by
  rcases h with h | h
  ·exact h
  ·simp at h
 | (n,k)::r,acc,h=>by
  unfold aN
  by_cases hk:(k==EF)=true
  ·rw [if_pos hk];have q:k = .free:=beq_iff_eq.mp hk;subst q
   cases hl:cells.lookup n with
   | none =>
     refine cI j ?_
     rcases h with h | h
     ·exact .inl h
     ·rcases Eb.mp h with e | h
      ·cases e;rw [hl] at j;cases j
      ·exact .inr h
   | some c' =>
     refine cI j ?_
     rcases h with h | h
     ·exact .inl (Ez _ h)
     ·rcases Eb.mp h with e | h
      ·cases e;rw [hl] at j;cases j;exact .inl Fl
      ·exact .inr h
  ·rw [if_neg hk];refine cI j ?_
   rcases h with h | h
   ·exact .inl h
   ·rcases Eb.mp h with e | h
    ·cases e;exact absurd rfl hk
    ·exact .inr h
theorem cD:∀ (names:List (Str×GU)) (n:Nat) (acc acc':List (Str×Addr)),Gj n names (acc++acc')=Gj n names acc++acc'
 | [],_,_,_=>rfl
 | (x,k)::r,n,acc,acc'=>by
  unfold Gj
  by_cases j:(k==Ga)=true
  ·rw [if_pos j,if_pos j];exact cD r (n+1) ((x,n)::acc) acc'
  ·rw [if_neg j,if_neg j];exact cD r n acc acc'
theorem cE:∀ {names:List (Str×GU)} {n:Nat} {acc:List (Str×Addr)} {y:Str} {c:Addr},(y,c)∈Gj n names acc->(y,c)∈acc∨(n<=c/\(y,Ga)∈names)
 | [],_,_,_,_,h => .inl h
 | (x,k)::r,n,acc,y,c,h=>by
  unfold Gj at h
  by_cases hk:(k==Ga)=true
  ·rw [if_pos hk] at h;have j:k = .cell:=beq_iff_eq.mp hk;subst j
   rcases cE h with z | ⟨q,B⟩
   ·rcases Eb.mp z with e | z
    ·cases e;exact .inr ⟨Ec _,Fl⟩
    ·exact .inl z
   ·exact .inr ⟨Nat.le_of_succ_le q,Ez _ B⟩
  ·rw [if_neg hk] at h
   rcases cE h with z | ⟨q,B⟩
   ·exact .inl z
   ·exact .inr ⟨q,Ez _ B⟩
structure aV (sc osc:Scope) (oN N':List Str) (fr:List (Option Nat)):Prop where
 kind:sc.kind = .function
 nd:(sc.names.map (·.1)).Nodup
 ndN:N'.Nodup
 free:∀ x∈sc.names,x.2 = .free->osc.names.lookup x.1=some .cell∨osc.names.lookup x.1=some .free
 len:fr.length=N'.length
 fr:∀ (i j:Nat) (x:Str),N'[i]? = some x->fr[i]? = some (some j)->oN[j]? = some x/\(x,EF)∈sc.names
noncomputable def inh (fr:List (Option Nat)) (σ:St):St:=fr.map fun o=>o.bind fun j=>(σ[j]?).join
noncomputable def aW (X:Cx) (sc:Scope) (L:Addr):Env :=
 { scope:=relabel sc X.env,locals:=L,globals:=X.env.globals,cells:=Gj (L+1) sc.names (aN X.env.cells sc.names []),qual:=X.env.qual,func:=none,code:=X.env.code,frame:=X.env.frame,builtins:=X.env.builtins }
noncomputable def aC (X:Cx) (sc:Scope) (N':List Str) (s:g6) (H:Hp) (fp:List Addr):Cx :=
 { X with N:=N',s₀ := s,H₀ := H,env:=aW X sc s.heap.objs.size,outer:=X.stack,stack:=X.stack,ex:=fp,fn:=fun x=>sc.names.lookup x==some .cell,pn := [],xe:=fun _ _=>False }
theorem aM:∀ {l:List (Str×GU)} {x:Str} {k:GU},(l.map (·.1)).Nodup->(x,k)∈l->l.lookup x=some k
 | (y,k')::r,x,k,nd,h=>by
  have nd':(y::r.map (·.1)).Nodup:=nd;obtain ⟨q,z⟩:=Hd.mp nd';rw [Gy]
  rcases Eb.mp h with e | hm
  ·cases e;simp
  ·have j:(x==y)=false:=by
    refine beq_eq_false_iff_ne.mpr fun e => ?_;subst e;exact q (EA.mpr ⟨(x,k),hm,rfl⟩)
   rw [j];exact aM z hm
theorem bV {env:Env}:∀ {names:List (Str×GU)} {x:Str},
 (names.map fun (n,k)=>if (k==EF&&env.scope.kind == .function&&env.kindOf n==some .cell) then (n,Ga) else (n,k)).lookup x =
   (names.lookup x).map fun k=>if (k==EF&&env.scope.kind == .function&&env.kindOf x==some .cell) then Ga else k
 | [],_=>rfl
 | (n,k)::r,x=>by
  have ih:=bV (env:=env) (names:=r) (x:=x);show List.lookup x ((if (k==EF&&env.scope.kind == .function&&env.kindOf n==some .cell)=true then (n,Ga) else (n,k))::_)=_
  rw [Gy (a:=x) (b:=k)]
  by_cases hx:x=n
  ·subst hx;simp only [beq_self_eq_true];show _=some (if (k==EF&&env.scope.kind == .function&&env.kindOf x==some .cell)=true then Ga else k)
   by_cases j:(k==EF&&env.scope.kind == .function&&env.kindOf x==some .cell)=true
   ·rw [if_pos j,if_pos j,Gy];simp only [beq_self_eq_true]
   ·rw [if_neg j,if_neg j,Gy];simp only [beq_self_eq_true]
  ·have q:(x==n)=false:=beq_eq_false_iff_ne.mpr hx;rw [q]
   by_cases j:(k==EF&&env.scope.kind == .function&&env.kindOf n==some .cell)=true
   ·rw [if_pos j,Gy,q];exact ih
   ·rw [if_neg j,Gy,q];exact ih
section
variable {pins:List (Addr×Obj)} {σ:St} {H:Hp} {s:g6} {sc:Scope} {N':List Str} {fr:List (Option Nat)} {fp:List Addr}
theorem eC (I:Inv X pins σ H s) (B:aV sc X.env.scope X.N N' fr):∀ x∈sc.names,x.2 = .free->(X.env.cells.lookup x.1).isSome=true:=fun x hx e=>by
 obtain ⟨c,j⟩:=I.ok.has x.1 (B.free x hx e);rw [j];rfl
theorem rg (I:Inv X pins σ H s) (f2:∀ b∈fp,bT X pins H b) (BY:∀ b∈fp,b < s.heap.objs.size) (B:aV sc X.env.scope X.N N' fr) :
 Inv (aC X sc N' s H fp) [] (inh fr σ) H { s with heap:=MQ (s.heap.push { cls := .type "dict",data := .dict #[] }) sc.names }:=by
 have G:∀ b o,s.heap.get? b=some o->(MQ (s.heap.push { cls := .type "dict",data := .dict #[] }) sc.names).get? b=some o:=fun b o e=>Kx _ _ b o (g0 _ e);have ok:=cellsFrom_ok sc.names (s.heap.push { cls := .type "dict",data := .dict #[] }) (s.heap.objs.size+1) [] ⟨fun _ _ hm=>(nomatch hm),JP⟩ (by rw [Fx];exact Ec _)
 rw [Fx] at ok;have capp:Gj (s.heap.objs.size+1) sc.names (aN X.env.cells sc.names [])=Gj (s.heap.objs.size+1) sc.names []++aN X.env.cells sc.names []:=cD sc.names _ [] _;have cof:∀ x c,(aW X sc s.heap.objs.size).cells.lookup x=some c->((x,c)∈Gj (s.heap.objs.size+1) sc.names []/\s.heap.objs.size < c)∨(X.env.cells.lookup x=some c/\(x,EF)∈sc.names):=fun x c e=>by
  have m:=FI e;have m':(x,c)∈Gj (s.heap.objs.size+1) sc.names (aN X.env.cells sc.names []):=m;rw [capp] at m'
  rcases Ea.mp m' with z | z
  ·exact .inl ⟨z,(ok.empty x c z).2⟩
  ·rcases cH z with q | q
   ·simp at q
   ·exact .inr q
 have cOld:∀ x c,X.env.cells.lookup x=some c->c < s.heap.objs.size:=fun x c e=>by
  obtain ⟨v,q⟩:=I.cell x c e;exact q.lt
 have kindF:∀ x,(x,EF)∈sc.names->(aW X sc s.heap.objs.size).kindOf x=some .cell∨(aW X sc s.heap.objs.size).kindOf x=some .free:=fun x hx=>by
  have e1:sc.names.lookup x=some .free:=aM B.nd hx;have O:(aW X sc s.heap.objs.size).kindOf x=_:=bV (env:=X.env) (names:=sc.names) (x:=x);rw [e1] at O;rw [O]
  by_cases J:(EF==EF&&X.env.scope.kind == .function&&X.env.kindOf x==some .cell)=true
  ·exact .inl (by simp only [HV,if_pos J])
  ·exact .inr (by simp only [HV,if_neg J])
 have cellF:∀ x c,(x,EF)∈sc.names->X.env.cells.lookup x=some c->(aW X sc s.heap.objs.size).cells.lookup x=some c:=fun x c hx J=>by
  have m:=cI (acc := []) J (.inr hx);have m2:(x,c)∈(aW X sc s.heap.objs.size).cells:=by
   show (x,c)∈Gj (s.heap.objs.size+1) sc.names (aN X.env.cells sc.names []);rw [capp];exact Ep _ m
  cases F:(aW X sc s.heap.objs.size).cells.lookup x with
  | none =>
    exfalso
    have:∀ {l:List (Str×Addr)},(x,c)∈l->l.lookup x=none->False:=by
     intro l
     induction l with
     | nil=>intro h;simp at h
     | cons a r ih =>
       intro h e;obtain ⟨y,d⟩:=a;rw [Gy] at e
       rcases Eb.mp h with z | z
       ·cases z;simp at e
       ·by_cases hxy:(x==y)=true
        ·rw [hxy] at e;cases e
        ·simp only [IE] at hxy;rw [hxy] at e;exact ih z e
    exact this m2 F
  | some c' =>
    rcases cof x c' F with ⟨z,_⟩ | ⟨z,_⟩
    ·rcases cE z with q | ⟨_,q⟩
     ·simp at q
     ·have a1:=aM B.nd hx;have a2:=aM B.nd q;rw [a1] at a2;cases a2
    ·rw [J] at z;rw [z]
 have kindC:∀ x,(aW X sc s.heap.objs.size).kindOf x=some .cell->(x,Ga)∈sc.names∨(x,EF)∈sc.names:=fun x e=>by
  have O:(aW X sc s.heap.objs.size).kindOf x=_:=bV (env:=X.env) (names:=sc.names) (x:=x);rw [O] at e
  cases F:sc.names.lookup x with
  | none=>rw [F] at e;cases e
  | some k =>
    rw [F] at e;have m:=FI F
    cases k with
    | cell=>exact .inl m
    | free=>exact .inr m
    | «local» => simp at e
    | globalImplicit=>simp at e
    | globalExplicit=>simp at e
 have kindFr:∀ x,(aW X sc s.heap.objs.size).kindOf x=some .free->(x,EF)∈sc.names:=fun x e=>by
  have O:(aW X sc s.heap.objs.size).kindOf x=_:=bV (env:=X.env) (names:=sc.names) (x:=x);rw [O] at e
  cases F:sc.names.lookup x with
  | none=>rw [F] at e;cases e
  | some k =>
    rw [F] at e;have m:=FI F
    cases k with
    | free=>exact m
    | cell=>simp at e
    | «local» => simp at e
    | globalImplicit=>simp at e
    | globalExplicit=>simp at e
 refine ⟨⟨I.ok.mod,B.kind,I.ok.glob,I.ok.blt,Ec _,fun y z c h1 h2 => ?_,fun y hy => ?_,fun y c hf h => ?_,I.ok.hd,I.ok.frames, .inl rfl,fun b U=>⟨?_,fun x c e => ?_⟩,fun b o e=>I.bs b o e, ?_,fun b o e U => ?_,fun b U => ?_,I.stack,I.stkFree⟩,
  rfl,I.bare,Un.kept G,⟨_,(Heap.Ns.new s.heap (.type "dict")).keeps (Kx _ _),fun i x v h1 h2 h3 => ?_⟩,fun y c h => ?_,I.hok.fresh (Ec _),fun y c h => ?_,fun p hp=>absurd (show p∈([]:List (Addr×Obj)) from hp) (by simp),I.hok.kept G, ?_⟩
 ·rcases cof y c h1 with ⟨a1,a2⟩ | ⟨a1,a2⟩
  ·rcases cof z c h2 with ⟨Z,b2⟩ | ⟨Z,b2⟩
   ·exact name_of_addr ok.apart a1 Z
   ·exact absurd (cOld z c Z) (NN.mpr (Hy a2))
  ·rcases cof z c h2 with ⟨Z,b2⟩ | ⟨Z,b2⟩
   ·exact absurd (cOld y c a1) (NN.mpr (Hy b2))
   ·exact I.ok.inj y z c a1 Z
 ·have C1:(y,Ga)∈sc.names∨(y,EF)∈sc.names:=by
   rcases hy with hy | hy
   ·exact kindC y hy
   ·exact .inr (kindFr y hy)
  rcases C1 with q | q
  ·exact GL.mp (Ig sc.names _ _ (.inl (aM B.nd q)))
  ·obtain ⟨c,J⟩:=GL.mp (eC I B _ q rfl);exact ⟨c,cellF y c q J⟩
 ·have C2:(sc.names.lookup y==some .cell)=true:=hf;have BZ:sc.names.lookup y=some .cell:=by simpa using C2
  rcases cof y c h with ⟨_,a2⟩ | ⟨_,a2⟩
  ·exact Hy a2
  ·rw [aM B.nd a2] at BZ;cases BZ
 ·exact EN (BY b U)
 ·rcases cof x c e with ⟨_,a2⟩ | ⟨a1,_⟩
  ·exact Hz (Nat.lt_trans (BY b U) a2)
  ·exact (f2 b U).2.2.2.2.1 x c a1
 ·exact Fb I.ok.bsz I.sz
 ·obtain ⟨f0,f1,f3,f4,f5,f6⟩:=f2 b U
  rcases f4 with z | z
  ·exact I.ok.noex b o e z
  ·exact absurd (EC (EC (Ed e) I.ok.bsz) z) (Fn _)
 ·obtain ⟨f0,f1,f3,f4,f5,f6⟩:=f2 b U;exact fun z=>(Eb.mp (I.stkSub b z)).elim f1 f3
 ·have hi:∃ j,fr[i]? = some (some j) /\ σ[j]? = some (some v):=by
   unfold inh at h2;rw [Eo] at h2
   cases e:fr[i]? with
   | none=>rw [e] at h2;cases h2
   | some o =>
     rw [e] at h2
     cases o with
     | none=>cases h2
     | some j =>
       refine ⟨j,rfl, ?_⟩;have L:some ((σ[j]?).join)=some (some v):=h2
       cases e' : σ[j]? with
       | none=>rw [e'] at L;cases L
       | some w=>rw [e'] at L;cases L;rfl
  obtain ⟨j,e1,O⟩:=hi;obtain ⟨n1,n2⟩:=B.fr i j x h1 e1;obtain ⟨m,hn,F⟩:=I.loc;have hv:Vis X.env.scope x := .inr (B.free (x, .free) n2 rfl);obtain ⟨u,ru,lk⟩:=F j x v n1 O hv;refine ⟨u,ru, .inr ⟨kindF x n2, ?_⟩⟩
  rcases lk with ⟨k1,_⟩ | ⟨_,c,J,Y⟩
  ·have C0:X.env.scope.names.lookup x=some .local:=k1
   rcases B.free (x, .free) n2 rfl with z | z
   ·rw [C0] at z;cases z
   ·rw [C0] at z;cases z
  ·exact ⟨c,cellF x c n2 J,Y.keeps G⟩
 ·rcases cof y c h with ⟨a1,a2⟩ | ⟨a1,a2⟩
  ·exact ⟨_,(ok.empty y c a1).1⟩
  ·obtain ⟨v,q⟩:=I.cell y c a1;exact ⟨v,q.keeps G⟩
 ·rcases cof y c h with ⟨a1,a2⟩ | ⟨a1,a2⟩
  ·exact I.hok.fresh (Hy a2)
  ·exact I.freeC y c a1
 ·show (inh fr σ).length=N'.length;unfold inh;rw [Eg];exact B.len
theorem jx {σ':St} {H':Hp} {s':g6} {h':Heap} (I:Inv X pins σ H s) (f2:∀ b∈fp,bT X pins H b) (J:Inv (aC X sc N' s H fp) [] σ' H' s') (hs:FC s.heap.objs.size s'.heap h') :
 Inv X pins σ H' { s' with heap:=h' }:=by
 have u:Un (frs X.stack) fp H H' s.heap s'.heap:=J.base;have ne:∀ b o,s.heap.get? b=some o->b≠s.heap.objs.size:=fun b o e=>EN (Ed e);refine I.call' (s' := { s' with heap:=h' }) (ch:=fp) J.os ⟨fun b o e n j hx => ?_,fun b o e n j hx => ?_,u.free,fun b o e hx => ?_,u.tups,u.frzs,u.tbls⟩ (fun b v e => ?_) J.bare fun b j => ?_
 ·exact (hs.2 b (ne b o e)).trans (u.keep b o e n j hx)
 ·obtain ⟨sl,q⟩:=u.slot b o e n j hx;exact ⟨sl,(hs.2 b (ne b o e)).trans q⟩
 ·obtain ⟨o',q⟩:=u.there b o e hx;exact ⟨o',(hs.2 b (ne b o e)).trans q⟩
 ·refine (J.hok b v e).stay (fun c w F q=>(hs.2 c ?_).trans q) (fun _ q=>q) fun _ _ q=>q;have fr:H' s.heap.objs.size=none:=J.free
  rcases F with z | z
  ·rw [z];intro B;rw [B,fr] at e;cases e
  ·intro B;rw [B,fr] at z;cases z
 ·obtain ⟨f0,f1,O,f4,G,L⟩:=f2 b j;exact ⟨f4,f1,G,L⟩
theorem ka {Q:Env->g6->Prop} {E:e7->g6->Prop} {M:Ib} {A:EK}
 (h:Q { scope:=sc,locals:=s.heap.objs.size,globals:=X.env.globals,cells:=Gj (s.heap.objs.size+1) sc.names (aN X.env.cells sc.names []),qual:=X.env.qual,func:=none,code:=X.env.code,frame:=X.env.frame,builtins:=X.env.builtins }
   { s with heap:=MQ (s.heap.push { cls := .type "dict",data := .dict #[] }) sc.names }) :
 Ee M A (KR sc X.env.globals (aN X.env.cells sc.names []) [] X.env.qual none .none (some X.env)) Q E s:=by
 simp only [KR,LK,if_true];refine b3 (wpAny_alloc ?_);refine b3 (wpAny_layCells _ (fun name kind cells=>by cases hkc:kind==Ga <;> simp [hkc]) _ _ _ _ ?_)
 rw [show ({ s with heap:=s.heap.push { cls := .type "dict",data := .dict #[] } }:g6).heap.objs.size=s.heap.objs.size+1 from Fx ..]
 exact b3 (gV (gV h))
theorem kG (hc:X.calm=true) {elt target iter:Expr} {ifs:List Expr} {rest:List F6} {pos:Pos} {E:e7->g6->Prop}
 (hx:∀ e s,X.xe e s->False) (B:aV sc X.env.scope X.N N' fr) (ha:∀ g',rest[0]? = some g'->g'.is_async=0) {wi:TI} (hi:PI X target iter wi) {g:TG} {tb:Addr->TC}
 (hg:∀ s H fp,PG (aC X sc N' s H fp) target g)
 (j:∀ s H fp p,PB (aC X sc N' s H fp) (fun k=>b5 ifs (aC X sc N' s H fp).env >>= fun ok=>if ok=true then aU elt (⟨target,iter,ifs,0⟩::rest) sc pos 0 (.ref p) (aC X sc N' s H fp).env k else k) (tb p))
 {Nn:Addr->St->Hp->Prop} {RR:e7->Addr->NF->g6->Prop} (I:Inv X pins σ H s)
 (h:wi σ H fun J H1 => ∀ p,H1 p=none->bU J g (tb p) (Nn p) (inh fr σ) (upd H1 p (.lst [])))
 (hR:∀ p fp s3 L s' σ' H' f,Inv X pins σ L s3->(∀ b∈fp,bT X pins L b)->Inv (aC X sc N' s3 L fp) [] σ' H' s'->Nn p σ' H'->RR (.ref p) s3.heap.objs.size (.ok f) s') :
 Ee (model X.prog X.w) X.A (eval iter X.env) (fun x s₁ => Ee (model X.prog X.w) X.A (Ke x) (fun it s₂ => Ee (model X.prog X.w) X.A (newList []) (fun acc s₃ =>
  Ee (model X.prog X.w) X.A (KR sc X.env.globals (aN X.env.cells sc.names []) [] X.env.qual none .none (some X.env)) (fun cenv s₄ =>
   HS (model X.prog X.w) X.A (.compStart (.ListComp elt (⟨target,iter,ifs,0⟩::rest) sc pos) 0 it acc { cenv with scope:=relabel sc X.env }) (RR acc cenv.locals) s₄) E s₃) E s₂) E s₁) E s:=by
 refine nox hx (thn (hi pins s σ H _ I h) fun v s1 h1=>nox hx (thn h1 fun itv s2 h2 => ?_));obtain ⟨it,fp,tn,J,H2,e,Z,T,q,f2,hw⟩:=h2;subst e;have hf:H2 s2.heap.objs.size=none:=Z.hok.fresh (Ec _);refine Lv ?_;have I3:Inv X pins σ (upd H2 s2.heap.objs.size (.lst [])) { s2 with heap:=s2.heap.push { cls := .type "list",dict:=none,data := .seq ([]:List e7).toArray } } :=
  Z.laid (t':=s2.toks) (fun b u e=>g0 _ e) (Ec _) ⟨Gc _,[],0, .nil,D1 _ rfl⟩
 have fneq:∀ b∈fp,b≠s2.heap.objs.size:=fun b j z=>by
  obtain ⟨o,e,_⟩:=T.obj _ _ q b j;exact absurd (Ed e) (by rw [z];exact Fn _)
 have O:∀ b∈fp,bT X pins (upd H2 s2.heap.objs.size (.lst [])) b:=fun b j=>⟨by rw [ak (fneq b j)];exact (f2 b j).1,(f2 b j).2⟩
 have U:∀ b∈fp,b < (s2.heap.push { cls := .type "list",dict:=none,data := .seq ([]:List e7).toArray }).objs.size:=fun b j=>by
  obtain ⟨o,e,_⟩:=T.obj _ _ q b j;rw [Fx];exact Mk (Ed e)
 have Y:tn 0 (s2.heap.push { cls := .type "list",dict:=none,data := .seq ([]:List e7).toArray }):=T.keep _ _ _ q fun b _ o e=>g0 _ e;refine ka ?_;have G:=rg (N':=N') I3 O U B;have F:=T.keep _ (h':=MQ (({ s2 with heap:=s2.heap.push { cls := .type "list",dict:=none,data := .seq ([]:List e7).toArray } }:g6).heap.push { cls := .type "dict",data := .dict #[] }) sc.names) _ Y fun b _ o e=>Kx _ _ b o (g0 _ e)
 have f4:∀ b∈fp,bT (aC X sc N' { s2 with heap:=s2.heap.push { cls := .type "list",dict:=none,data := .seq ([]:List e7).toArray } } (upd H2 s2.heap.objs.size (.lst [])) fp) [] (upd H2 s2.heap.objs.size (.lst [])) b:=fun b j =>
  ⟨(O b j).1,(G.ok.exf b j).1,G.ok.exfs b j, .inl j,(G.ok.exf b j).2,fun p hp=>absurd (show p∈([]:List (Addr×Obj)) from hp) (by simp)⟩
 have loop:=jv (X:=aC X sc N' { s2 with heap:=s2.heap.push { cls := .type "list",dict:=none,data := .seq ([]:List e7).toArray } } (upd H2 s2.heap.objs.size (.lst [])) fp) (fun _ _ z=>z) hc
  (elt:=elt) (pos:=pos) (scope:=sc) (gens:=⟨target,iter,ifs,0⟩::rest) (d := 0) (acc := .ref s2.heap.objs.size) rfl (fun g' e=>ha g' (by simpa using e)) (hg _ _ _) (j _ _ _ _) G T F f4 (hw _ hf)
 refine Je (hW (R:=fun r s'=>match r with | .ok _ => ∃ σ' H',Inv (aC X sc N' { s2 with heap:=s2.heap.push { cls := .type "list",dict:=none,data := .seq ([]:List e7).toArray } } (upd H2 s2.heap.objs.size (.lst [])) fp) [] σ' H' s'/\Nn s2.heap.objs.size σ' H' | .error _=>False)
  (gens:=⟨target,iter,ifs,0⟩::rest) (d := 0) rfl loop (T.self _ 0 _ _ _ F loop)) fun r s5 hr => ?_
 cases r with
 | error e=>exact hr.elim
 | ok f =>
   obtain ⟨σ5,H5,I5,n5⟩:=hr;exact hR _ fp _ _ s5 σ5 H5 f I3 O I5 n5
noncomputable def pG (wi:TI) (g:TG) (tb:Addr->TC) (fr:List (Option Nat)):TE:=fun σ H Q=>wi σ H fun J H1 => ∀ p,H1 p=none->bU J g (tb p) (fun _ H2=>Q (.ref p) H2) (inh fr σ) (upd H1 p (.lst []))
theorem jy (B:aV sc X.env.scope X.N N' fr):∀ x∈sc.names,x.2 = .local->sc.names.lookup x.1=some .local:=fun x hx e=>by
 obtain ⟨n,k⟩:=x;have e':k = .local:=e;subst e';exact aM B.nd hx
theorem fR (z:X.calm=true) {elt target iter:Expr} {ifs:List Expr} {rest:List F6} {pos:Pos}
 (hx:∀ e s,X.xe e s->False) (B:aV sc X.env.scope X.N N' fr) (F:∀ g',rest[0]? = some g'->g'.is_async=0) {wi:TI} (hi:PI X target iter wi) {g:TG} {tb:Addr->TC}
 (G:∀ s H fp,PG (aC X sc N' s H fp) target g)
 (L:∀ s H fp p,PB (aC X sc N' s H fp) (fun k=>b5 ifs (aC X sc N' s H fp).env >>= fun ok=>if ok=true then aU elt (⟨target,iter,ifs,0⟩::rest) sc pos 0 (.ref p) (aC X sc N' s H fp).env k else k) (tb p))
 (hs:∀ x,Gi iter X.env x=pure x) :
 PE X (.ListComp elt (⟨target,iter,ifs,0⟩::rest) sc pos) (pG wi g tb fr):=by
 intro pins s σ H Q I h;rw [eval_ListComp];refine JU (use:=none) rfl hs (hZ (eC I B)) B.kind (jy B) (kG (Nn:=fun p _ H2=>Q (.ref p) H2) (RR:=fun acc C=>compPost (model X.prog X.w) X.A X.xe none (EP X pins σ Q) acc C) z hx B F hi G L I h ?_);intro p fp s3 Z s' σ' H' f O U J q;obtain ⟨m,Y,_⟩:=J.loc;exact ⟨m,Y,fun h' j=>⟨.ref p,H',jx O U J j,rfl,q⟩⟩
theorem i3 (hc:X.calm=true) {elt target iter:Expr} {ifs:List Expr} {rest:List F6} {pos pos' spos:Pos} {x:Str} {i:Nat}
 (hx:∀ e s,X.xe e s->False) (B:aV sc X.env.scope X.N N' fr) (ha:∀ g',rest[0]? = some g'->g'.is_async=0) {wi:TI} (hi:PI X target iter wi) {g:TG} {tb:Addr->TC}
 (hg:∀ s H fp,PG (aC X sc N' s H fp) target g)
 (F:∀ s H fp p,PB (aC X sc N' s H fp) (fun k=>b5 ifs (aC X sc N' s H fp).env >>= fun ok=>if ok=true then aU elt (⟨target,iter,ifs,0⟩::rest) sc pos 0 (.ref p) (aC X sc N' s H fp).env k else k) (tb p))
 (hs:∀ x,Gi iter X.env x=pure x) (G:PG X (.Name x pos') (gQ i))
 (L:I8 (.ListComp elt (⟨target,iter,ifs,0⟩::rest) sc pos) (some (.Name x pos')) spos.line X.env=pure true) :
 PS X (.Assign [.Name x pos'] (.ListComp elt (⟨target,iter,ifs,0⟩::rest) sc pos) spos) (oV (pG wi g tb fr) (gQ i)):=by
 intro pins s σ H D I h;rw [exec_Assign_Name_used _ _ _ _ L];refine b3 (Hh (b3 ?_));show Ee _ X.A (do let _ <- comprehension (.ListComp elt (⟨target,iter,ifs,0⟩::rest) sc pos) sc X.env _ (newList []) false (eval iter X.env) (some (assign (.Name x pos') X.env))) _ _ s
 refine b3 (G7 (JU (use:=some (assign (.Name x pos') X.env)) (Q:=fun _ s'=>SP X pins D .next s') rfl hs (hZ (eC I B)) B.kind (jy B)
  (kG (Nn:=fun p _ H2=>D.nx (σ.set i (some (.ref p))) H2) (RR:=fun acc C=>compPost (model X.prog X.w) X.A X.xe (some (assign (.Name x pos') X.env)) (fun _ s'=>SP X pins D .next s') acc C) hc hx B ha hi hg F I h ?_)) (fun _ s' hq=>gV (gV hq)) fun _ _ e=>e)
 intro p fp s3 H3 s' σ' H' f j f3 J q;obtain ⟨m,⟨o,es,ep,ho,hd,hk,hm⟩,_⟩:=J.loc;have I4:Inv X pins σ H' s':=jx (h':=s'.heap) j f3 J ⟨rfl,fun _ _=>rfl⟩;have hL:(aC X sc N' s3 H3 fp).env.locals=s3.heap.objs.size:=rfl;rw [hL] at ho;have O:H' s3.heap.objs.size=none:=J.free;have neL:s3.heap.objs.size≠X.env.locals:=Hz j.lt;have nfs:s3.heap.objs.size∉X.fs:=j.nofs (Ec _);have I5:Inv X (pins++[(s3.heap.objs.size,o)]) σ H' s':=I4.pins_of fun pr U=>by
  rcases Ea.mp U with z | z
  ·exact I4.pin pr (Ep _ z)
  ·have e:pr=(s3.heap.objs.size,o):=by simpa using z
   subst e;exact ⟨ho,O,neL,nfs,fun v z=>by rw [hd] at z;cases z⟩
 show Ee _ X.A (assign (.Name x pos') X.env (.ref p)) _ _ _;refine thn (G _ s' σ H' (.ref p) (.ref p) D.nx I5 rfl q) fun _ s6 ⟨σ6,H6,I6,q6⟩ => ?_;obtain ⟨Y,Z,_⟩:=I6.pin (s3.heap.objs.size,o) (Ep _ (Ep _ (by simp)))
 refine ⟨m,⟨o,es,ep,Y,hd,hk,hm⟩,fun h' BY=>⟨σ6,H6, ?_,q6⟩⟩;refine (I6.unpinned).turned (t':=s6.toks) (it:=s3.heap.objs.size) (fun b o F e=>(BY.2 b F).trans e) Z neL (.inr j.sz) (fun y c e z => ?_) fun pr U z => ?_
 ·obtain ⟨v,q⟩:=j.cell y c e;exact absurd q.lt (by rw [z];exact Fn _)
 ·exact absurd (Ed (j.pin pr U).1) (by rw [z];exact Fn _)
end
end
end
end L2
namespace L2
namespace Zp
open PySem PySem.Spec PyProof.Rows
def At (t:Bool) (h:Heap) (i l:Addr) (k:Nat):Prop:=match t with | true=>h.IsTupleIter i l k | false=>h.IsListIter i l k
def Sq (t:Bool) (h:Heap) (l:Addr) (xs:Array e7):Prop:=match t with | true=>h.IsTuple l xs | false=>h.IsList l xs
theorem At.up {t:Bool} {h h':Heap} {i l:Addr} {k:Nat} (x:At t h i l k) (e:∀ o,h.get? i=some o->h'.get? i=some o):At t h' i l k:=by
 cases t <;> (obtain ⟨o,ho,r⟩:=x;exact ⟨o,e o ho,r⟩)
theorem Sq.up {t:Bool} {h h':Heap} {l:Addr} {xs:Array e7} (x:Sq t h l xs) (e:∀ o,h.get? l=some o->h'.get? l=some o):Sq t h' l xs:=by
 cases t <;> (obtain ⟨o,ho,r⟩:=x;exact ⟨o,e o ho,r⟩)
theorem At.lt {t:Bool} {h:Heap} {i l:Addr} {k:Nat} (x:At t h i l k):∃ o,h.get? i=some o /\ ∀ v,o.data ≠ .cell v:=by
 cases t <;> (obtain ⟨o,ho,j,hd⟩:=x;exact ⟨o,ho,fun v z=>by rw [hd] at z;cases z⟩)
section
variable {prog:Er} {w:EH} {A:EK} {E:e7->g6->Prop} {s:g6}
open Builtin.SmallTypes in
theorem uo {i l:Addr} {k:Nat} {xs:Array e7} {x:e7} {Q:e7->g6->Prop} (hi:s.heap.IsTupleIter i l k) (L:s.heap.IsTuple l xs) (hx:xs[k]? = some x)
 (q:∀ h',h'.IsTupleIter i l (k+1)->FC i s.heap h'->Q x { s with heap:=h' }):Ee (model prog w) A (nextOf (.ref i)) Q E s:=by
 obtain ⟨ob,z,B,j⟩:=id hi;obtain ⟨oq,G,_,nq,J⟩:=L;unfold nextOf;refine b3 (ET (name:=Fe "__next__") hi.typeIs GA (EG GA hi.typeIs Jf ?_ (J2 _)));refine b3 (m:=field (.ref i) 0) (ER z j (x := .ref l) rfl ?_);refine (if_neg (c:=(ES l==Hs)=true) D2) ▸ ?_;refine b3 (m:=field (.ref i) 1) (ER z j (x := .int k 0) rfl ?_);refine b3 (m:=K0 (.ref l)) (Ff G J ?_);simp only [Fh,hx];refine b3 (wpAny_setField z j (by simp) (gV ⟨x,rfl,gV (q _ ⟨_,GB _ z (Obj.isFreed_of_fields (LO j _)),(Obj.cls_mapFields ..).trans B, ?_⟩ (GS ..))⟩))
 rw [LO j];simp [Jp]
open Builtin.SmallTypes in
theorem xb {i l:Addr} {k:Nat} {xs:Array e7} {Q:e7->g6->Prop} (J:A.handled=none) (hi:s.heap.IsTupleIter i l k) (L:s.heap.IsTuple l xs) (hx:xs[k]? = none)
 (q:∀ h' e,Nh i s.heap h'->(∃ o,h'.get? e=some o/\o.cls = .type "StopIteration")->E (.ref e) { s with heap:=h' }):Ee (model prog w) A (nextOf (.ref i)) Q E s:=by
 obtain ⟨ob,j,O,z⟩:=id hi;obtain ⟨oq,B,_,nq,G⟩:=L;unfold nextOf;refine b3 (ET (name:=Fe "__next__") hi.typeIs GA (EG GA hi.typeIs Jf ?_ (J2 _)));refine b3 (m:=field (.ref i) 0) (ER j z (x := .ref l) rfl ?_);refine (if_neg (c:=(ES l==Hs)=true) D2) ▸ ?_;refine b3 (m:=field (.ref i) 1) (ER j z (x := .int k 0) rfl ?_);refine b3 (m:=K0 (.ref l)) (Ff B G ?_);simp only [Fh,hx];refine b3 (FU (b3 (wpAny_setField j z (by simp) ?_)))
 refine b3 (m:=newExc (.type "StopIteration") []) ?_;simp only [newExc,newTuple];refine b3 (Fs ?_ (by size_fits))
 refine b3 (m:=Jv _ _) (IU (a:=Hs) (by first | rfl | (simp only [Jv];rfl)) (Fs ?_ (by size_fits)))
 simp only [raiseNew];refine b3 (wpAny_handled ?_)
 first | rw [show A.in1.handled=none from J] | rw [J]
 exact b3 (gV (wpAny_throw (q _ _ (((GS ..).extBut.push _).push _) ⟨_,D1 _ rfl,rfl⟩)))
open Builtin.SmallTypes in
theorem eX {t:Bool} {i l:Addr} {k:Nat} {xs:Array e7} {x:e7} {Q:e7->g6->Prop} (hi:At t s.heap i l k) (j:Sq t s.heap l xs) (hx:xs[k]? = some x)
 (q:∀ h',At t h' i l (k+1)->FC i s.heap h'->Q x { s with heap:=h' }):Ee (model prog w) A (nextOf (.ref i)) Q E s:=by
 cases t with
 | true=>exact uo hi j hx q
 | false=>exact wpAny_nextOf_list_item hi j hx q
open Builtin.SmallTypes in
theorem nx_end {t:Bool} {i l:Addr} {k:Nat} {xs:Array e7} {Q:e7->g6->Prop} (j:A.handled=none) (hi:At t s.heap i l k) (z:Sq t s.heap l xs) (hx:xs[k]? = none)
 (q:∀ h' e,Nh i s.heap h'->(∃ o,h'.get? e=some o/\o.cls = .type "StopIteration")->E (.ref e) { s with heap:=h' }):Ee (model prog w) A (nextOf (.ref i)) Q E s:=by
 cases t with
 | true=>exact xb j hi z hx q
 | false=>exact wpAny_nextOf_list_end j hi z hx q
open Builtin.SmallTypes in
theorem zz {z T O i j a b:Addr} {t u:Bool} {k:Nat} {xs ys:Array e7} {x y p r:e7} {Q:e7->g6->Prop} (D:KS z T O i j a b)
 (hz:JQ s.heap z T O .none) (hT:GO s.heap T (.ref i) (.ref j)) (hO:GO s.heap O p r)
 (hi:At t s.heap i a k) (hj:At u s.heap j b k) (ha:Sq t s.heap a xs) (hb:Sq u s.heap b ys) (hx:xs[k]? = some x) (hy:ys[k]? = some y)
 (q:∀ h',JQ h' z T O (Jp s.heap.objs.size)->GO h' O x y->At t h' i a (k+1)->At u h' j b (k+1)->GO h' s.heap.objs.size x y ->
   (∀ c o,c≠z->c≠O->c≠i->c≠j->s.heap.get? c=some o->h'.get? c=some o)->Q (.ref s.heap.objs.size) { s with heap:=h' }) :
 Ee (model prog w) A (GI.«zip.__next__» ⟨[.ref z],[]⟩) (fun fin s' => ∃ v,fin = .done (.ret v)/\Q v s') E s:=by
 refine b3 (m:=field (.ref z) 2) (ER hz rfl (x := .bool false) rfl ?_);refine b3 (m:=field (.ref z) 3) (ER hz rfl (x := .ref T) rfl ?_);refine b3 (Ff hT rfl ?_);refine b3 (m:=ownedTupleIsFree (.ref z)) ?_;unfold ownedTupleIsFree;refine b3 (ER hz rfl (x := .none) rfl (gV ?_));simp only [if_true];refine b3 (FU (b3 (ER hz rfl (x := .ref O) rfl (b3 (Ex hz (by simp) fun g1 z1 s1 => ?_)))))
 have Z1:JQ g1 z T O .ellipsis:=z1;clear z1;refine b3 ?_;simp only [K1,Nu,Hf,KU];refine b3 (b3 (JV (b3 (m:=nextOf (.ref i)) ?_)));refine eX (hi.up fun o e=>s1.extBut _ o D.i1z e) (ha.up fun o e=>s1.extBut _ o D.l1z e) hx fun g2 L s2=>gV ?_;have O2:GO g2 O p r:=s2.extBut _ _ D.TOi1 (s1.extBut _ _ D.TOz hO);refine b3 (Ff O2 rfl (b3 (IV O2 fun g3 o3 s3 => ?_)));have O3:GO g3 O x r:=o3;clear o3;refine b3 (H0 (gV (b3 (b3 (JV (b3 (m:=nextOf (.ref j)) ?_))))));refine eX (hj.up fun o e=>s3.extBut _ o D.TOi2.symm (s2.extBut _ o D.i12.symm (s1.extBut _ o D.i2z e))) (hb.up fun o e=>s3.extBut _ o D.l2TO (s2.extBut _ o D.l2i1 (s1.extBut _ o D.l2z e))) hy fun g4 U s4=>gV ?_;have O4:GO g4 O x r:=s4.extBut _ _ D.TOi2 O3;refine b3 (Ff O4 rfl (b3 (IV O4 fun B o5 s5 => ?_)));have O5:GO B O x y:=o5;clear o5;refine b3 (H0 (gV (gV (b3 (Ff O5 rfl (b3 (Jw ?_)))))));have sz:B.objs.size=s.heap.objs.size:=by rw [s5.1,s4.1,s3.1,s2.1,s1.1]
 have k5:∀ c o,c≠z->c≠O->c≠i->c≠j->s.heap.get? c=some o->B.get? c=some o:=fun c o F G Y Z e =>
  s5.extBut _ _ G (s4.extBut _ _ Z (s3.extBut _ _ G (s2.extBut _ _ Y (s1.extBut _ _ F e))))
 have Z5:JQ B z T O .ellipsis:=s5.extBut _ _ D.TOz.symm (s4.extBut _ _ D.i2z.symm (s3.extBut _ _ D.TOz.symm (s2.extBut _ _ D.i1z.symm Z1)));have I5:At t B i a (k+1):=L.up fun o e=>s5.extBut _ o D.TOi1.symm (s4.extBut _ o D.i12 (s3.extBut _ o D.TOi1.symm e));have J5:At u B j b (k+1):=U.up fun o e=>s5.extBut _ o D.TOi2.symm e;have zl:z < B.objs.size:=Ed Z5;refine b3 (m:=ownedTupleHandOut (.ref z) (.ref B.objs.size)) ?_;unfold ownedTupleHandOut;refine b3 (Ex (g0 _ Z5) (by simp) fun g7 z7 s7 => ?_)
 have Z7:JQ g7 z T O (Jp B.objs.size):=z7;clear z7;refine Ex Z7 (by simp) fun J z8 s8 => ?_
 have Z8:JQ J z T O (Jp B.objs.size):=z8;clear z8;have up:∀ c o,c≠z->B.get? c=some o->J.get? c=some o:=fun c o F e=>s8.extBut _ _ F (s7.extBut _ _ F (g0 _ e));have P8:GO J B.objs.size x y:=s8.extBut _ _ (Hz zl) (s7.extBut _ _ (Hz zl) (D1 _ rfl));rw [sz] at Z8 P8;refine gV ⟨_,rfl, ?_⟩;show Q (.ref B.objs.size) _;rw [sz];exact q J Z8 (up _ _ D.TOz O5) (I5.up fun o e=>up _ o D.i1z e) (J5.up fun o e=>up _ o D.i2z e) P8 fun c o F G Y Z e=>up c o F (k5 c o F G Y Z e)
open Builtin.SmallTypes in
theorem AT {z T O i j a b:Addr} {t u:Bool} {k:Nat} {xs ys:Array e7} {p r:e7} {Q:Fin->g6->Prop} (Z:A.handled=none) (D:KS z T O i j a b)
 (hz:JQ s.heap z T O .none) (hT:GO s.heap T (.ref i) (.ref j)) (hO:GO s.heap O p r)
 (hi:At t s.heap i a k) (hj:At u s.heap j b k) (ha:Sq t s.heap a xs) (hb:Sq u s.heap b ys) (G:xs[k]? = none∨ys[k]? = none)
 (q:∀ h' e,(∀ c o,c≠z->c≠O->c≠i->c≠j->s.heap.get? c=some o->h'.get? c=some o)->(∃ o,h'.get? e=some o/\o.cls = .type "StopIteration")->E (.ref e) { s with heap:=h' }) :
 Ee (model prog w) A (GI.«zip.__next__» ⟨[.ref z],[]⟩) Q E s:=by
 refine b3 (m:=field (.ref z) 2) (ER hz rfl (x := .bool false) rfl ?_);refine b3 (m:=field (.ref z) 3) (ER hz rfl (x := .ref T) rfl ?_);refine b3 (Ff hT rfl ?_);refine b3 (m:=ownedTupleIsFree (.ref z)) ?_;unfold ownedTupleIsFree;refine b3 (ER hz rfl (x := .none) rfl (gV ?_));simp only [if_true];refine b3 (FU (b3 (ER hz rfl (x := .ref O) rfl (b3 (Ex hz (by simp) fun g1 z1 s1 => ?_)))))
 have Z1:JQ g1 z T O .ellipsis:=z1;clear z1;refine b3 ?_;simp only [K1,Nu,Hf,KU];refine b3 (b3 (JV (b3 (m:=nextOf (.ref i)) ?_)));have J:At t g1 i a k:=hi.up fun o e=>s1.extBut _ o D.i1z e;have L:Sq t g1 a xs:=ha.up fun o e=>s1.extBut _ o D.l1z e
 cases hx:xs[k]? with
 | none =>
   refine nx_end Z J L hx fun g2 e s2 he => ?_;obtain ⟨oe,B,F⟩:=he;have Z2:JQ g2 z T O .ellipsis:=s2 _ _ D.i1z.symm Z1;have ez:e≠z:=fun x=>by subst x;rw [Z2] at B;cases B;simp at F
   exact Ex Z2 (by simp) fun g3 _ s3=>q g3 e (fun c o U _ Y _ x=>s3.extBut _ _ U (s2 _ _ Y (s1.extBut _ _ U x))) ⟨oe,s3.extBut _ _ ez B,F⟩
 | some x =>
   have hy:ys[k]? = none:=G.elim (fun z=>by rw [hx] at z;cases z) id
   refine eX J L hx fun g2 BY s2=>gV ?_;have O2:GO g2 O p r:=s2.extBut _ _ D.TOi1 (s1.extBut _ _ D.TOz hO);refine b3 (Ff O2 rfl (b3 (IV O2 fun g3 o3 s3 => ?_)));refine b3 (H0 (gV (b3 (b3 (JV (b3 (m:=nextOf (.ref j)) ?_))))));refine nx_end Z (hj.up fun o e=>s3.extBut _ o D.TOi2.symm (s2.extBut _ o D.i12.symm (s1.extBut _ o D.i2z e))) (hb.up fun o e=>s3.extBut _ o D.l2TO (s2.extBut _ o D.l2i1 (s1.extBut _ o D.l2z e))) hy fun g4 e s4 he => ?_;obtain ⟨oe,B,F⟩:=he;have Z4:JQ g4 z T O .ellipsis:=s4 _ _ D.i2z.symm (s3.extBut _ _ D.TOz.symm (s2.extBut _ _ D.i1z.symm Z1));have ez:e≠z:=fun x=>by subst x;rw [Z4] at B;cases B;simp at F
   exact Ex Z4 (by simp) fun g5 _ s5=>q g5 e (fun c o U c2 Y c4 x=>s5.extBut _ _ U (s4 _ _ c4 (s3.extBut _ _ c2 (s2.extBut _ _ Y (s1.extBut _ _ U x))))) ⟨oe,s5.extBut _ _ ez B,F⟩
theorem nxt_item {z T O i j a b:Addr} {t u:Bool} {k:Nat} {xs ys:Array e7} {x y p r:e7} {Q:Option e7->g6->Prop} (D:KS z T O i j a b)
 (hz:JQ s.heap z T O .none) (B:GO s.heap T (.ref i) (.ref j)) (G:GO s.heap O p r)
 (hi:At t s.heap i a k) (J:At u s.heap j b k) (L:Sq t s.heap a xs) (U:Sq u s.heap b ys) (hx:xs[k]? = some x) (Y:ys[k]? = some y)
 (q:∀ h',JQ h' z T O (Jp s.heap.objs.size)->GO h' O x y->At t h' i a (k+1)->At u h' j b (k+1)->GO h' s.heap.objs.size x y ->
   (∀ c o,c≠z->c≠O->c≠i->c≠j->s.heap.get? c=some o->h'.get? c=some o)->Q (some (.ref s.heap.objs.size)) { s with heap:=h' }) :
 Ee (model prog w) A (Hl (.ref z)) Q E s:=by
 have ty:s.TypeIs (.ref z) "zip" := ⟨_,hz,rfl⟩;unfold Hl;exact b3 (HM (ET (name:=Fe "__next__") ty J3 (EG J3 ty MR
  (zz D hz B G hi J L U hx Y fun h' a1 a2 Z a4 a5 a6=>gV (q h' a1 a2 Z a4 a5 a6)) (Ml _))))
theorem nxt_end {z T O i j a b:Addr} {t u:Bool} {k:Nat} {xs ys:Array e7} {p r:e7} {Q:Option e7->g6->Prop} (G:A.handled=none) (D:KS z T O i j a b)
 (hz:JQ s.heap z T O .none) (J:GO s.heap T (.ref i) (.ref j)) (L:GO s.heap O p r)
 (hi:At t s.heap i a k) (U:At u s.heap j b k) (Y:Sq t s.heap a xs) (Z:Sq u s.heap b ys) (B:xs[k]? = none∨ys[k]? = none)
 (q:∀ h',(∀ c o,c≠z->c≠O->c≠i->c≠j->s.heap.get? c=some o->h'.get? c=some o)->Q none { s with heap:=h' }):Ee (model prog w) A (Hl (.ref z)) Q E s:=by
 have ty:s.TypeIs (.ref z) "zip" := ⟨_,hz,rfl⟩;unfold Hl;refine b3 (HM (ET (name:=Fe "__next__") ty J3 (EG J3 ty MR
  (AT G D hz J L hi U Y Z B fun h' e hk he => ?_) (Ml _))))
 obtain ⟨o,ho,hc⟩:=he;exact b3 (HB (T := "StopIteration") (b:=true) ⟨o,ho,hc⟩ KW (gV (q _ hk)))
noncomputable def itO (t:Bool) (l:Addr):Obj:=match t with | true => { cls := .type "tuple_iterator",data := .fields #[.ref l, .int 0 0] } | false => { cls := .type "list_iterator",data := .fields #[.ref l, .int 0 0] }
noncomputable def zH1 (h:Heap) (t:Bool) (a:Addr):Heap:=h.push (itO t a)
noncomputable def zH2 (h:Heap) (t u:Bool) (a b:Addr):Heap:=(zH1 h t a).push (itO u b)
noncomputable def zH3 (h:Heap) (t u:Bool) (a b:Addr):Heap:=(zH2 h t u a b).push { cls := .type "tuple",data := .seq #[.ref h.objs.size, .ref (zH1 h t a).objs.size] }
noncomputable def zH4 (h:Heap) (t u:Bool) (a b:Addr):Heap:=(zH3 h t u a b).push { cls := .type "tuple",data := .seq #[.none, .none] }
noncomputable def zH5 (h:Heap) (t u:Bool) (a b:Addr):Heap:=(zH4 h t u a b).push { cls := .type "zip",data := .fields #[.none, .bool false, .bool false, .ref (zH2 h t u a b).objs.size, .ref (zH3 h t u a b).objs.size] }
theorem rh (t u:Bool) (a b:Addr) (xs ys:Array e7) :
 Meets (GI.«zip.__new__» ⟨[.type "zip", .ref a, .ref b],[]⟩) (fun _ R s=>Sq t s.heap a xs/\Sq u s.heap b ys/\R (.ok (.ret (.ref (zH4 s.heap t u a b).objs.size))) { s with heap:=zH5 s.heap t u a b }) :=
 .of_wp fun prog w A R s h=>by
  obtain ⟨j,g,d,tk,os⟩:=s;obtain ⟨B,F,h⟩:=h;have hs:=sub_zip
  cases t <;> cases u
  ·have q:KY (H4 ⟨j,g,d,tk,os⟩) a xs:=B;have z:KY (H4 ⟨j.push { cls := .type "list_iterator",data := .fields #[.ref a, .int 0 0] },g,d,tk,os⟩) b ys:=MU F _
   wp_walk using Gk q,Gk z
   exact ⟨_,rfl,h⟩
  ·have q:KY (H4 ⟨j,g,d,tk,os⟩) a xs:=B;have z:Jg (H4 ⟨j.push { cls := .type "list_iterator",data := .fields #[.ref a, .int 0 0] },g,d,tk,os⟩) b ys:=Mm F _
   wp_walk using Gk q,FV z
   exact ⟨_,rfl,h⟩
  ·have q:Jg (H4 ⟨j,g,d,tk,os⟩) a xs:=B;have z:KY (H4 ⟨j.push { cls := .type "tuple_iterator",data := .fields #[.ref a, .int 0 0] },g,d,tk,os⟩) b ys:=MU F _
   wp_walk using FV q,Gk z
   exact ⟨_,rfl,h⟩
  ·have q:Jg (H4 ⟨j,g,d,tk,os⟩) a xs:=B;have z:Jg (H4 ⟨j.push { cls := .type "tuple_iterator",data := .fields #[.ref a, .int 0 0] },g,d,tk,os⟩) b ys:=Mm F _
   wp_walk using FV q,FV z
   exact ⟨_,rfl,h⟩
theorem at_new {t:Bool} {h:Heap} {i l:Addr} (e:h.get? i=some (itO t l)):At t h i l 0:=by
 cases t <;> exact ⟨_,e,rfl,rfl⟩
theorem call_zip {t u:Bool} {a b:Addr} {xs ys:Array e7} {Q:e7->g6->Prop} (ha:Sq t s.heap a xs) (hb:Sq u s.heap b ys)
 (q:∀ h',JQ h' (s.heap.objs.size+4) (s.heap.objs.size+2) (s.heap.objs.size+3) .none->GO h' (s.heap.objs.size+2) (.ref s.heap.objs.size) (.ref (s.heap.objs.size+1)) ->
   GO h' (s.heap.objs.size+3) .none .none->At t h' s.heap.objs.size a 0->At u h' (s.heap.objs.size+1) b 0->h'.objs.size=s.heap.objs.size+5 ->
   (∀ c o,s.heap.get? c=some o->h'.get? c=some o)->Q (.ref (s.heap.objs.size+4)) { s with heap:=h' }) :
 Ee (model prog w) A (call (.type "zip") [.ref a, .ref b]) Q E s:=by
 refine callType_new F.called_zip (by decide) (F.typeCall_zip_2 _ _) (F.newCall_zip_2 _ _) (fun obj=>F.args_object_init_3 obj _ _) F.entry_zip_new (rh t u a b xs ys) ⟨ha,hb, ?_⟩
 have B:(zH1 s.heap t a).objs.size=s.heap.objs.size+1:=Fx ..;have G:(zH2 s.heap t u a b).objs.size=s.heap.objs.size+2:=by unfold zH2;rw [Fx,B]
 have J:(zH3 s.heap t u a b).objs.size=s.heap.objs.size+3:=by unfold zH3;rw [Fx,G]
 have L:(zH4 s.heap t u a b).objs.size=s.heap.objs.size+4:=by unfold zH4;rw [Fx,J]
 have z5:(zH5 s.heap t u a b).objs.size=s.heap.objs.size+5:=by unfold zH5;rw [Fx,L]
 have j:∀ {c o},(zH4 s.heap t u a b).get? c=some o->(zH5 s.heap t u a b).get? c=some o:=fun e=>g0 _ e;have z:∀ {c o},(zH3 s.heap t u a b).get? c=some o->(zH4 s.heap t u a b).get? c=some o:=fun e=>g0 _ e;have O:∀ {c o},(zH2 s.heap t u a b).get? c=some o->(zH3 s.heap t u a b).get? c=some o:=fun e=>g0 _ e;have Y:∀ {c o},(zH1 s.heap t a).get? c=some o->(zH2 s.heap t u a b).get? c=some o:=fun e=>g0 _ e;have k1:∀ {c o},s.heap.get? c=some o->(zH1 s.heap t a).get? c=some o:=fun e=>g0 _ e;have f:∀ t l,(itO t l).isFreed=false:=fun t l=>by cases t <;> rfl
 have U:(zH5 s.heap t u a b).get? (zH4 s.heap t u a b).objs.size=some _:=D1 _ rfl;have Z:(zH5 s.heap t u a b).get? (zH3 s.heap t u a b).objs.size=some _:=j (D1 _ rfl);have g3:(zH5 s.heap t u a b).get? (zH2 s.heap t u a b).objs.size=some _:=j (z (D1 _ rfl));have g2:(zH5 s.heap t u a b).get? (zH1 s.heap t a).objs.size=some _:=j (z (O (D1 _ (f u b))));have g1:(zH5 s.heap t u a b).get? s.heap.objs.size=some _:=j (z (O (Y (D1 _ (f t a)))));show _/\_;rw [G,J,L] at U;rw [B,G] at g3;rw [J] at Z;rw [B] at g2;rw [L];exact ⟨⟨_,U,rfl⟩,q _ U g3 Z (at_new g1) (at_new g2) z5 fun c o x=>j (z (O (Y (k1 x))))⟩
end
end Zp
end L2
namespace L2
open PySem PySem.Spec PyProof.Rows
section
section
variable {X:Cx} {pins:List (Addr×Obj)} {σ:St} {H:Hp} {s:g6} {h':Heap}
theorem Inv.turnedL {t':Nat} {fp:List Addr} (I:Inv X pins σ H s) (hf:∀ b∈fp,bT X pins H b) (k:∀ b o,b∉fp->s.heap.get? b=some o->h'.get? b=some o):Inv X pins σ H { s with heap:=h',toks:=t' }:=by
 have nit:∀ b u,H b=some u->b∉fp:=fun b u e z=>by rw [(hf b z).1] at e;cases e
 refine I.step (g':=s.gens) (d':=s.drawn) (ch:=fp) (fun b B => ?_) (fun b o _ _ j e _=>k b o j e) (fun b o _ _ j e _=>⟨o.slots,k b o j e⟩) (fun _ _ _ _ n=>n)
  (fun b o j e=>⟨o,k b o j e⟩) (fun _ _ e=>e) (fun _ _ _ e=>e) (fun b ps e=>⟨#[],by rw [e];simp⟩) (fun m hm => ?_) (fun b u e => ?_) I.bare
 ·obtain ⟨_,f1,_,F,f4,G⟩:=hf b B;exact ⟨F,f1,f4,G⟩
 ·obtain ⟨o,es,ep,ho,r⟩:=hm;exact ⟨o,es,ep,k _ o (fun z=>(hf _ z).2.1 rfl) ho,r⟩
 ·refine (I.hok b u e).stay (fun c v j q=>k c v ?_ q) (fun _ q=>q) fun _ _ q=>q
  rcases j with z | z
  ·rw [z];exact nit b u e
  ·exact nit c _ z
end
def SqV (K:Frag) (t:Bool) (H:Hp) (a:Addr) (xs:List V):Prop:=match t with | true=>SqT K H a xs | false=>SqL K H a xs
theorem Inv.sqv {X:Cx} {pins:List (Addr×Obj)} {σ:St} {H:Hp} {s:g6} {t:Bool} {a:Addr} {xs:List V} (I:Inv X pins σ H s) (h:SqV X.K t H a xs):∃ its:List e7,Vals xs its/\Zp.Sq t s.heap a its.toArray:=by
 cases t with
 | true=>obtain ⟨its,r,p,_⟩:=I.tuple h;exact ⟨its,r,p⟩
 | false=>obtain ⟨its,r,p,_⟩:=I.list h;exact ⟨its,r,p.isList⟩
theorem Inv.sqv_inj {X:Cx} {pins:List (Addr×Obj)} {σ:St} {H:Hp} {s:g6} {t:Bool} {a:Addr} {xs ys:List V} (I:Inv X pins σ H s) (h:SqV X.K t H a xs) (h':SqV X.K t H a ys):xs=ys:=by
 cases t with
 | true=>exact I.tuple_inj h h'
 | false=>exact I.list_inj h h'
noncomputable def Itz (K:Frag) (t u:Bool) (a b:Addr):It :=
 ⟨fun i H => ∃ xs ys x y,SqV K t H a xs/\SqV K u H b ys/\xs[i]? = some x/\ys[i]? = some y,
  fun i H v H' => ∃ p x y,H p=none/\v = .ref p/\H'=upd H p (.tup [x,y]) /\ ∀ xs ys,SqV K t H a xs->SqV K u H b ys->xs[i]? = some x/\ys[i]? = some y,
  fun i H => ∃ xs ys,SqV K t H a xs/\SqV K u H b ys/\(xs.length<=i∨ys.length<=i)⟩
theorem uq {P:Er} {w:EH} {K:Frag} {elts:List Expr} {cx} {pos:Pos} {t u:Bool} {z T O i j a b:Addr} (D:KS z T O i j a b) :
 el P w K (.Tuple elts cx pos) (Itz K t u a b) [z,T,O,i,j] z (fun k h=>JQ h z T O .none/\GO h T (.ref i) (.ref j)/\(∃ p r,GO h O p r)/\Zp.At t h i a k/\Zp.At u h j b k) where
 mem:=by simp
 obj:=fun k h ⟨hz,B,⟨p,r,F⟩,hi,G⟩ c q=>by
  simp only [Eb,Eu,or_false] at q
  rcases q with rfl | rfl | rfl | rfl | rfl
  ·exact ⟨_,hz,fun v e=>by cases e⟩
  ·exact ⟨_,B,fun v e=>by cases e⟩
  ·exact ⟨_,F,fun v e=>by cases e⟩
  ·exact hi.lt
  ·exact G.lt
 keep:=fun k h h' ⟨hz,B,⟨p,r,F⟩,hi,G⟩ kk=>⟨kk z (by simp) _ hz,kk T (by simp) _ B,⟨p,r,kk O (by simp) _ F⟩,hi.up fun o e=>kk i (by simp) o e,G.up fun o e=>kk j (by simp) o e⟩
 item:=by
  intro X U hw Y q k pins s σ H E I hf st hg;subst U hw Y;obtain ⟨hz,B,⟨p,r,F⟩,hi,G⟩:=st;obtain ⟨xs,ys,x,y,qx,qy,ex,ey⟩:=hg;obtain ⟨is,rx,px⟩:=I.sqv qx;obtain ⟨js,ry,py⟩:=I.sqv qy;obtain ⟨ux,Z,rux⟩:=rx.get ex;obtain ⟨uy,BY,ruy⟩:=ry.get ey;refine Zp.nxt_item D hz B F hi G px py (by simpa using Z) (by simpa using BY) fun h1 z1 o1 i1 j1 p1 L=>⟨_,rfl, ?_⟩
  refine wpAny_letOwnedTupleGo_zip (s := { s with heap:=h1 }) z1 fun h2 z2 s2 => ?_
  have lt:∀ {c o},s.heap.get? c=some o->c≠s.heap.objs.size:=fun e=>EN (Ed e);have nz:s.heap.objs.size≠z:=(lt hz).symm;have BZ:∃ o,s.heap.get? i=some o:=hi.lt.imp fun _ h=>h.1;have C0:∃ o,s.heap.get? j=some o:=G.lt.imp fun _ h=>h.1;have up:∀ c o,c≠z->h1.get? c=some o->h2.get? c=some o:=fun c o n e=>s2.extBut _ _ n e;have IL:Inv X pins σ (upd H s.heap.objs.size (.tup [x,y])) { s with heap:=s.heap.push { cls := .type "tuple",data := .seq #[ux,uy] },toks:=s.toks } :=
   I.laid (fun b o e=>g0 _ e) (Ec _) ⟨by rw [tv];simp,[ux,uy], .cons rux (.cons ruy .nil),Iy _ _⟩
  have fr:∀ c∈[z,T,O,i,j],c≠s.heap.objs.size:=fun c q=>by
   simp only [Eb,Eu,or_false] at q
   rcases q with rfl | rfl | rfl | rfl | rfl
   ·exact lt hz
   ·exact lt B
   ·exact lt F
   ·obtain ⟨o,e⟩:=BZ;exact lt e
   ·obtain ⟨o,e⟩:=C0;exact lt e
  have un:∀ c∈[z,T,O,i,j],upd H s.heap.objs.size (.tup [x,y]) c=none:=fun c q=>by
   rw [ak (fr c q)];exact (hf c q).1
  have kk:∀ c o,c∉[z,T,O,i,j]->(s.heap.push { cls := .type "tuple",data := .seq #[ux,uy] }).get? c=some o->h2.get? c=some o:=fun c o q e=>by
   simp only [Eb,Eu,or_false,not_or] at q
   rcases IW e with ⟨rfl,rfl⟩ | e
   ·exact up _ _ nz p1
   ·exact up _ _ q.1 (L c o q.1 q.2.2.1 q.2.2.2.1 q.2.2.2.2 e)
  have I2:Inv X pins σ (upd H s.heap.objs.size (.tup [x,y])) { s with heap:=h2,toks:=s.toks } :=
   (Inv.turnedL (s := { s with heap:=s.heap.push { cls := .type "tuple",data := .seq #[ux,uy] },toks:=s.toks }) (h':=h2) (t':=s.toks) (fp := [z,T,O,i,j]) IL (fun c q=>⟨un c q,(hf c q).2⟩) kk)
  refine ⟨.ref s.heap.objs.size,_,I2,rfl,⟨_,x,y,I.hok.fresh (Ec _),rfl,rfl,fun xs' ys' q1 q2 => ?_⟩,⟨z2,up _ _ D.TIz (L _ _ D.TIz D.TITO D.TIi1 D.TIi2 B),⟨_,_,up _ _ D.TOz o1⟩,i1.up fun o e=>up _ o D.i1z e,j1.up fun o e=>up _ o D.i2z e⟩,un⟩;rw [I.sqv_inj q1 qx,I.sqv_inj q2 qy];exact ⟨ex,ey⟩
 done:=by
  intro X U hw Y q k pins s σ H E I hf st hg;subst U hw Y;obtain ⟨hz,B,⟨p,r,F⟩,hi,G⟩:=st;obtain ⟨xs,ys,qx,qy,J⟩:=hg;obtain ⟨is,rx,px⟩:=I.sqv qx;obtain ⟨js,ry,py⟩:=I.sqv qy;have lx:=rx.length;have ly:=ry.length;refine Zp.nxt_end (I.ok.hd q) D hz B F hi G px py (J.imp (fun e=>by simp;lia) (fun e=>by simp;lia)) fun h1 L=>⟨rfl,I.turnedL (t':=s.toks) hf fun c o q e => ?_⟩
  simp only [Eb,Eu,or_false,not_or] at q;exact L c o q.1 q.2.2.1 q.2.2.2.1 q.2.2.2.2 e
 self:=fun A k s Q E st h=>MV st.1 h
section
variable {X:Cx}
noncomputable def BN (K:Frag) (ta:TA):TI:=fun σ H R=>ta σ H fun vs H1 => ∃ a b t u xs ys,vs=[.ref a, .ref b]/\SqV K t H1 a xs/\SqV K u H1 b ys/\R (Itz K t u a b) H1
theorem zA {elts:List Expr} {cx} {pos p pos':Pos} {a b:Expr} {ta:TA} (G:Gl X "zip") (hm:X.mg "zip" = none) (J:PA X [a,b] ta) (hs:Et [a,b] X.env=[(false,eval a X.env),(false,eval b X.env)]) (j:Et [b] X.env=[(false,eval b X.env)]) :
 PI X (.Tuple elts cx pos) (.Call (.Name "zip" p) [a,b] [] pos') (BN X.K ta):=by
 intro pins s σ H R I h;refine Call_ (cX I G hm (u := .type "zip") (by decide +kernel) (Gu (thn (J pos' pins s σ H _ I h) fun us s1 ⟨vs,H1,z,L,O⟩ => ?_) (by rw [hs,j]) (by rw [j];rfl)))
 obtain ⟨a',b',t,u,xs,ys,rfl,qx,qy,q⟩:=O
 cases L with
 | cons r rr =>
   cases rr with
   | cons r' rr =>
     cases rr
     cases r
     cases r'
     obtain ⟨is,rx,px⟩:=z.sqv qx;obtain ⟨js,ry,py⟩:=z.sqv qy;refine Zp.call_zip px py fun h1 B t1 U Y Z sz k1 => ?_;refine MV B ?_;have la:a' < s1.heap.objs.size:=by cases t <;> (obtain ⟨o,e,_⟩:=px;exact Ed e)
     have lb:b' < s1.heap.objs.size:=by cases u <;> (obtain ⟨o,e,_⟩:=py;exact Ed e)
     have D:KS (s1.heap.objs.size+4) (s1.heap.objs.size+2) (s1.heap.objs.size+3) s1.heap.objs.size (s1.heap.objs.size+1) a' b':=by constructor <;> (intro e;subst_vars;first | lia | (simp only [Addr] at *;lia))
     refine ⟨_,_,_,_,H1,rfl,z.kept (t':=s1.toks) k1,uq (t:=t) (u:=u) D,⟨B,t1,⟨_,_,U⟩,Y,Z⟩,fun c F => ?_,q⟩;have hle:s1.heap.objs.size<=c:=by
      simp only [Eb,Eu,or_false] at F
      rcases F with rfl | rfl | rfl | rfl | rfl <;> lia
     exact z.fpOk hle (z.hok.fresh hle)
end
end
end L2
namespace L2
namespace Zp
open PySem PySem.Spec PyProof.Rows
end Zp
open PySem PySem.Spec PyProof.Rows
end L2
namespace L2
namespace En
open PySem PySem.Spec PyProof.Rows
section
variable {prog:Er} {w:EH} {A:EK} {E:e7->g6->Prop} {s:g6}
open Builtin.SmallTypes Zp in
theorem zB {z i a:Addr} {t:Bool} {k:Nat} {xs:Array e7} {x old:e7} {Q:e7->g6->Prop} (hz:Kk s.heap z i k old) (hi:At t s.heap i a k) (ha:Sq t s.heap a xs) (hx:xs[k]? = some x) (j:z≠i)
 (q:∀ h',MW h' z i ((k:Int)+1) x s.heap.objs.size->At t h' i a (k+1)->h'.get? s.heap.objs.size=some { cls := .type "tuple",data := .seq #[.int k s.toks,x] } ->
   (∀ b o,b≠z->b≠i->s.heap.get? b=some o->h'.get? b=some o)->Q (.ref s.heap.objs.size) { s with heap:=h',toks:=s.toks+1 }) :
 Ee (model prog w) A (GI.«enumerate.__next__» ⟨[.ref z],[]⟩) (fun fin s' => ∃ v,fin = .done (.ret v)/\Q v s') E s:=by
 obtain ⟨B,g,d,tk,os⟩:=s;refine b3 (m:=field (.ref z) 2) (ER hz rfl (x := .ref i) rfl (b3 (eX hi ha hx fun g1 i1 s1 => ?_)));have U:FC i B g1:=s1;clear s1;have Y:Kk g1 z i k old:=(U.2 z j).trans hz;refine b3 (m:=field (.ref z) 3) (ER (s:=⟨g1,g,d,tk,os⟩) Y rfl (x:=Jp k) rfl ?_);refine b3 (m:=field (.ref z) 4) (ER (s:=⟨g1,g,d,tk,os⟩) Y rfl (x := .none) rfl ?_);refine b3 (m:=mkInt k) (wpAny_mkInt ?_);refine b3 (m:=setField (.ref z) 3 (Jp ((k:Int)+1))) (Ex (s:=⟨g1,g,d,tk+1,os⟩) Y (by simp) fun g2 z2 s2 => ?_)
 have Z:FC z g1 g2:=s2;have Z2:Kk g2 z i ((k:Int)+1) old:=z2;clear s2 z2;refine b3 (m:=setField (.ref z) 4 .none) (Ex (s:=⟨g2,g,d,tk+1,os⟩) Z2 (by simp) fun g3 z3 s3 => ?_)
 have S3:FC z g2 g3:=s3;have Z3:Kk g3 z i ((k:Int)+1) old:=z3;clear s3 z3;refine b3 (m:=newTuple [.int k tk,x]) (Jw ?_);have G:Kk (g3.push { cls := .type "tuple",data := .seq #[.int k tk,x] }) z i ((k:Int)+1) old:=g0 _ Z3;have sz:g3.objs.size=B.objs.size:=by rw [S3.1,Z.1,U.1]
 have zl:z < B.objs.size:=Ed hz;have T4:(g3.push { cls := .type "tuple",data := .seq #[.int k tk,x] }).get? B.objs.size=some { cls := .type "tuple",data := .seq #[.int k tk,x] }:=by rw [<- sz];exact D1 _ rfl
 have K4:∀ b o,b≠z->b≠i->B.get? b=some o->(g3.push { cls := .type "tuple",data := .seq #[.int k tk,x] }).get? b=some o:=fun b o bz bi e =>
  g0 _ (S3.extBut b o bz (Z.extBut b o bz (U.extBut b o bi e)))
 have I4:At t (g3.push { cls := .type "tuple",data := .seq #[.int k tk,x] }) i a (k+1):=i1.up fun o e=>g0 _ (S3.extBut i o j.symm (Z.extBut i o j.symm e));rw [sz];generalize g3.push { cls := .type "tuple",data := .seq #[.int k tk,x] }=F at G T4 K4 I4;refine b3 (m:=ownedTupleIsFree (.ref z)) ?_;unfold ownedTupleIsFree;refine b3 (ER (s:=⟨F,g,d,tk+1,os⟩) G rfl (x := .none) rfl (gV ?_));simp only [if_true];refine b3 (FU (b3 (ER (s:=⟨F,g,d,tk+1,os⟩) G rfl (x:=old) rfl (b3 (Ex (s:=⟨F,g,d,tk+1,os⟩) G (by simp) fun J z5 s5 => ?_)))))
 have S5:FC z F J:=s5;have Z5:Kk J z i ((k:Int)+1) x:=z5;clear s5 z5;refine b3 (m:=ownedTupleHandOut (.ref z) (.ref B.objs.size)) ?_;unfold ownedTupleHandOut;refine b3 (Ex (s:=⟨J,g,d,tk+1,os⟩) Z5 (by simp) fun L z6 s6 => ?_)
 have S6:FC z J L:=s6;have Z6:MW L z i ((k:Int)+1) x B.objs.size:=z6;clear s6 z6;refine Ex (s:=⟨L,g,d,tk+1,os⟩) Z6 (by simp) fun O z7 s7 => ?_
 have S7:FC z L O:=s7;have Z7:MW O z i ((k:Int)+1) x B.objs.size:=z7;clear s7 z7;have up:∀ b o,b≠z->F.get? b=some o->O.get? b=some o:=fun b o bz e=>S7.extBut b o bz (S6.extBut b o bz (S5.extBut b o bz e));exact b3 (H0 (gV ⟨_,rfl,q O Z7 (I4.up fun o e=>up i o j.symm e) (up _ _ (Hz zl) T4) fun b o bz bi e=>up b o bz (K4 b o bz bi e)⟩))
theorem nxt_item {z i a:Addr} {t:Bool} {k:Nat} {xs:Array e7} {x old:e7} {Q:Option e7->g6->Prop} (hz:Kk s.heap z i k old) (hi:Zp.At t s.heap i a k) (B:Zp.Sq t s.heap a xs) (hx:xs[k]? = some x) (j:z≠i)
 (q:∀ h',MW h' z i ((k:Int)+1) x s.heap.objs.size->Zp.At t h' i a (k+1)->h'.get? s.heap.objs.size=some { cls := .type "tuple",data := .seq #[.int k s.toks,x] } ->
   (∀ b o,b≠z->b≠i->s.heap.get? b=some o->h'.get? b=some o)->Q (some (.ref s.heap.objs.size)) { s with heap:=h',toks:=s.toks+1 }) :
 Ee (model prog w) A (Hl (.ref z)) Q E s:=by
 have ty:s.TypeIs (.ref z) "enumerate" := ⟨_,hz,rfl⟩;unfold Hl;exact b3 (HM (ET (name:=Fe "__next__") ty Hm (EG Hm ty Kl
  (zB hz hi B hx j fun h' a1 a2 G J=>gV (q h' a1 a2 G J)) (K2 _))))
theorem nxt_end {z i a:Addr} {t:Bool} {k:Nat} {xs:Array e7} {old:e7} {Q:Option e7->g6->Prop} (j:A.handled=none) (hz:Kk s.heap z i k old) (hi:Zp.At t s.heap i a k) (B:Zp.Sq t s.heap a xs) (hx:xs[k]? = none)
 (q:∀ h',Nh i s.heap h'->Q none { s with heap:=h' }):Ee (model prog w) A (Hl (.ref z)) Q E s:=by
 have ty:s.TypeIs (.ref z) "enumerate" := ⟨_,hz,rfl⟩;unfold Hl;refine b3 (HM (ET (name:=Fe "__next__") ty Hm (EG Hm ty Kl ?_ (K2 _))));refine b3 (m:=field (.ref z) 2) (ER hz rfl (x := .ref i) rfl (b3 (Zp.nx_end j hi B hx fun h' x he hs => ?_)));obtain ⟨o,ho,G⟩:=hs;exact b3 (HB (T := "StopIteration") (b:=true) ⟨o,ho,G⟩ KW (gV (q _ he)))
open AutoSeq1 (wpAny_loadPart') in
theorem xc (l:Addr) (items:Array e7) (n:Nat) (dct:Option Addr) (sl:Array (Option e7)) :
 Meets (GI.«enumerate.__new__» ⟨[.type "enumerate", .ref l],[]⟩) (fun _ R s=>s.heap.get? l=some { cls := .type "tuple",dict:=dct,data := .seq items n,slots:=sl } /\
  R (.ok (.ret (.ref (s.heap.push (Zp.itO true l)).objs.size))) { s with heap:=(s.heap.push (Zp.itO true l)).push { cls := .type "enumerate",data := .fields #[.none, .bool false, .ref s.heap.objs.size,Jp 0, .none, .none] } }) :=
 .of_wp fun prog w A R s h=>by
  obtain ⟨B,g,d,tk,os⟩:=s;obtain ⟨j,h⟩:=h;have q:=sub_enumerate;have z:Jg (H4 ⟨B,g,d,tk,os⟩) l items:=⟨_,j,rfl,n,rfl⟩
  wp_walk using Gm j
  refine wpAny_stack_any fun st=>gV ?_
  split
  ·rename_i c _ _ _ _ _
   cases (c==Fk "enumerate") <;> (wp_walk using Gm j,FV z;exact ⟨_,rfl,h⟩)
  ·wp_walk using Gm j,FV z
   exact ⟨_,rfl,h⟩
theorem call_enum {t:Bool} {l:Addr} {items:Array e7} {Q:e7->g6->Prop} (B:Zp.Sq t s.heap l items)
 (q:∀ h',Kk h' (s.heap.objs.size+1) s.heap.objs.size 0 .none->Zp.At t h' s.heap.objs.size l 0->(∀ b o,s.heap.get? b=some o->h'.get? b=some o)->Q (.ref (s.heap.objs.size+1)) { s with heap:=h' }) :
 Ee (model prog w) A (call (.type "enumerate") [.ref l]) Q E s:=by
 cases t with
 | false=>exact call_enumerate_list B fun h' a b _ k=>q h' a b k
 | true =>
   obtain ⟨⟨c,dct,dt,sl⟩,J,L,n,hd⟩:=B;have j:c = .type "tuple" := L;have z:dt = .seq items n:=hd;subst j z;refine callType_new F.called_enumerate (by decide) (F.typeCall_enumerate_1 _) (F.newCall_enumerate_1 _) (fun obj=>F.args_object_init_2 obj _) F.entry_enumerate_new (xc l items n dct sl) ⟨J, ?_⟩
   have G:(s.heap.push (Zp.itO true l)).objs.size=s.heap.objs.size+1:=Fx ..;have e:((s.heap.push (Zp.itO true l)).push { cls := .type "enumerate",data := .fields #[.none, .bool false, .ref s.heap.objs.size,Jp 0, .none, .none] }).get? (s.heap.push (Zp.itO true l)).objs.size=some _:=D1 _ rfl;rw [G] at e;show _/\_;rw [G];exact ⟨⟨_,e,rfl⟩,q _ e (Zp.at_new (g0 _ (D1 _ rfl))) fun b o x=>g0 _ (g0 _ x)⟩
end
end En
open PySem PySem.Spec PyProof.Rows
noncomputable def Ite (K:Frag) (t:Bool) (a:Addr):It :=
 ⟨fun i H => ∃ xs x,SqV K t H a xs/\xs[i]? = some x,
  fun i H v H' => ∃ p x,H p=none/\v = .ref p/\H'=upd H p (.tup [.int (i:Nat),x]) /\ ∀ xs,SqV K t H a xs->xs[i]? = some x,
  fun i H => ∃ xs,SqV K t H a xs/\xs.length<=i⟩
theorem rj {P:Er} {w:EH} {K:Frag} {elts:List Expr} {cx} {pos:Pos} {t:Bool} {z i a:Addr} (q:z≠i) :
 el P w K (.Tuple elts cx pos) (Ite K t a) [z,i] z (fun k h=>(∃ old,Kk h z i k old)/\Zp.At t h i a k) where
 mem:=by simp
 obj:=fun k h ⟨⟨old,hz⟩,hi⟩ c j=>by
  simp only [Eb,Eu,or_false] at j
  rcases j with rfl | rfl
  ·exact ⟨_,hz,fun v e=>by cases e⟩
  ·exact hi.lt
 keep:=fun k h h' ⟨⟨old,hz⟩,hi⟩ kk=>⟨⟨old,kk z (by simp) _ hz⟩,hi.up fun o e=>kk i (by simp) o e⟩
 item:=by
  intro X B hw F j k pins s σ H E I hf st hg;subst B hw F;obtain ⟨⟨old,hz⟩,hi⟩:=st;obtain ⟨xs,x,qx,ex⟩:=hg;obtain ⟨is,rx,px⟩:=I.sqv qx;obtain ⟨ux,G,rux⟩:=rx.get ex;refine En.nxt_item hz hi px (by simpa using G) q fun h1 U Y Z J=>⟨_,rfl, ?_⟩
  refine wpAny_letOwnedTupleGo_enum (s := { s with heap:=h1,toks:=s.toks+1 }) U fun h2 z2 s2 => ?_
  have lt:∀ {c o},s.heap.get? c=some o->c≠s.heap.objs.size:=fun e=>EN (Ed e);have nz:s.heap.objs.size≠z:=(lt hz).symm;have L:∃ o,s.heap.get? i=some o:=hi.lt.imp fun _ h=>h.1;have up:∀ c o,c≠z->h1.get? c=some o->h2.get? c=some o:=fun c o n e=>s2.extBut _ _ n e;have IL:Inv X pins σ (upd H s.heap.objs.size (.tup [.int (k:Nat),x])) { s with heap:=s.heap.push { cls := .type "tuple",data := .seq #[.int k s.toks,ux] },toks:=s.toks+1 } :=
   I.laid (fun b o e=>g0 _ e) (Ec _) ⟨by rw [tv];simp,[.int k s.toks,ux], .cons ⟨_,rfl⟩ (.cons rux .nil),Iy _ _⟩
  have fr:∀ c∈[z,i],c≠s.heap.objs.size:=fun c j=>by
   simp only [Eb,Eu,or_false] at j
   rcases j with rfl | rfl
   ·exact lt hz
   ·obtain ⟨o,e⟩:=L;exact lt e
  have un:∀ c∈[z,i],upd H s.heap.objs.size (.tup [.int (k:Nat),x]) c=none:=fun c j=>by
   rw [ak (fr c j)];exact (hf c j).1
  have kk:∀ c o,c∉[z,i]->(s.heap.push { cls := .type "tuple",data := .seq #[.int k s.toks,ux] }).get? c=some o->h2.get? c=some o:=fun c o j e=>by
   simp only [Eb,Eu,or_false,not_or] at j
   rcases IW e with ⟨rfl,rfl⟩ | e
   ·exact up _ _ nz Z
   ·exact up _ _ j.1 (J c o j.1 j.2 e)
  have I2:Inv X pins σ (upd H s.heap.objs.size (.tup [.int (k:Nat),x])) { s with heap:=h2,toks:=s.toks+1 } :=
   Inv.turnedL (s := { s with heap:=s.heap.push { cls := .type "tuple",data := .seq #[.int k s.toks,ux] },toks:=s.toks+1 }) (h':=h2) (t':=s.toks+1) (fp := [z,i]) IL (fun c j=>⟨un c j,(hf c j).2⟩) kk
  refine ⟨.ref s.heap.objs.size,_,I2,rfl,⟨_,x,I.hok.fresh (Ec _),rfl,rfl,fun xs' q1 => ?_⟩,⟨⟨ux,by simpa using z2⟩,Y.up fun o e=>up _ o q.symm e⟩,un⟩
  rw [I.sqv_inj q1 qx];exact ex
 done:=by
  intro X B hw F j k pins s σ H E I hf st hg;subst B hw F;obtain ⟨⟨old,hz⟩,hi⟩:=st;obtain ⟨xs,qx,O⟩:=hg;obtain ⟨is,rx,px⟩:=I.sqv qx;have lx:=rx.length;refine En.nxt_end (I.ok.hd j) hz hi px (by simp;lia) fun h1 J=>⟨rfl,I.turnedL (t':=s.toks) hf fun c o j e => ?_⟩
  simp only [Eb,Eu,or_false,not_or] at j;exact J c o j.2 e
 self:=fun A k s Q E ⟨⟨old,hz⟩,_⟩ h=>Mn hz h
section
variable {X:Cx}
noncomputable def AU (K:Frag) (ta:TA):TI:=fun σ H R=>ta σ H fun vs H1 => ∃ a t xs,vs=[.ref a]/\SqV K t H1 a xs/\R (Ite K t a) H1
theorem xf {elts:List Expr} {cx} {pos p pos':Pos} {a:Expr} {ta:TA} (F:Gl X "enumerate") (hm:X.mg "enumerate" = none) (G:PA X [a] ta) (hs:Et [a] X.env=[(false,eval a X.env)]) :
 PI X (.Tuple elts cx pos) (.Call (.Name "enumerate" p) [a] [] pos') (AU X.K ta):=by
 intro pins s σ H R I h;refine Call_ (cX I F hm (u := .type "enumerate") boot_enumerate (Gu (thn (G pos' pins s σ H _ I h) fun us s1 ⟨vs,H1,j,J,L⟩ => ?_) hs rfl));obtain ⟨a',t,xs,rfl,qx,q⟩:=L
 cases J with
 | cons r rr =>
   cases rr
   cases r
   obtain ⟨is,rx,px⟩:=j.sqv qx;refine En.call_enum px fun h1 z O U => ?_;refine Mn z ?_;refine ⟨_,_,_,_,H1,rfl,j.kept (t':=s1.toks) U,rj (t:=t) (a:=a') (by simp),⟨⟨_,z⟩,O⟩,fun c B => ?_,q⟩
   have hle:s1.heap.objs.size<=c:=by
    simp only [Eb,Eu,or_false] at B
    rcases B with rfl | rfl <;> lia
   exact j.fpOk hle (j.hok.fresh hle)
end
end L2
namespace L2
namespace Rv
open PySem PySem.Spec PyProof.Rows
end Rv
open PySem PySem.Spec PyProof.Rows
end L2
namespace L2
open PySem PySem.Spec PyProof.Rows
section
noncomputable abbrev NK:=List (Int ⊕ List Int)
noncomputable def AV (ks:List Int):Int:=NO (Fi (ks.map hashInt))
noncomputable def dW:Int ⊕ List Int->Int
 | .inl i=>hashInt i
 | .inr ks=>AV ks
noncomputable def ke (ks:NK):Int:=NO (Fi (ks.map dW))
noncomputable def wj:Int ⊕ List Int->Nat
 | .inl _ => 1
 | .inr ks=>ks.length+1
noncomputable def i4 (ks:NK):Nat:=(ks.map wj).sum
section
variable (prog:Er) (w:EH)
noncomputable def Is1 (h:Heap):Int ⊕ List Int->e7->Prop
 | .inl i,v=>(HR prog w).is i v=true
 | .inr ks,v => ∃ b,v = .ref b/\IsTupleKey (HR prog w) h ks b
inductive IsN (h:Heap):NK->List e7->Prop
 | nil:IsN h [] []
 | cons {k:Int ⊕ List Int} {v:e7} {ks:NK} {vs:List e7}:Is1 prog w h k v->IsN h ks vs->IsN h (k::ks) (v::vs)
def IsNest (h:Heap) (ks:NK) (a:Addr):Prop := ∃ o items n,h.get? a=some o/\o.cls = .type "tuple" /\ o.data = .seq items n/\IsN prog w h ks items.toList
variable {prog w}
theorem Is1.inj {h:Heap} {x y:Int ⊕ List Int} {v:e7} (hx:Is1 prog w h x v) (q:Is1 prog w h y v):x=y:=by
 cases x with
 | inl i =>
   cases y with
   | inl j=>rw [(HR prog w).inj _ _ _ hx q]
   | inr ks =>
     obtain ⟨b,rfl,_⟩:=q;have:=(HR prog w).byValue _ _ hx;simp [KZ] at this
 | inr ks =>
   cases y with
   | inl j =>
     obtain ⟨b,rfl,_⟩:=hx;have:=(HR prog w).byValue _ _ q;simp [KZ] at this
   | inr ls =>
     obtain ⟨b,rfl,z⟩:=hx;obtain ⟨c,e,B⟩:=q
     cases e
     rw [z.inj B]
theorem IsN.inj {h:Heap} {x y:NK} {vs:List e7} (hx:IsN prog w h x vs) (j:IsN prog w h y vs):x=y:=by
 induction hx generalizing y with
 | nil=>cases j;rfl
 | cons h1 _ ih =>
   cases j with
   | cons h2 q=>rw [h1.inj h2,ih q]
theorem IsNest.typeIs {s:g6} {ks:NK} {a:Addr} (x:IsNest prog w s.heap ks a):s.TypeIs (.ref a) "tuple" := let ⟨o,_,_,ho,j,_⟩:=x; ⟨o,ho,j⟩
theorem IsNest.inj {h:Heap} {a:Addr} {x y:NK} (hx:IsNest prog w h x a) (B:IsNest prog w h y a):x=y:=by
 obtain ⟨o,items,n,ho,_,hd,hi⟩:=hx;obtain ⟨o',items',n',q,_,j,z⟩:=B;obtain rfl:o=o':=FL.inj (ho.symm.trans q);rw [hd] at j
 injection j with h1 _
 subst h1;exact hi.inj z
theorem IsN.imp {h h':Heap} {ks:NK} {vs:List e7} (x:IsN prog w h ks vs) (f:∀ k v,Is1 prog w h k v->Is1 prog w h' k v):IsN prog w h' ks vs:=by
 induction x with
 | nil=>exact .nil
 | cons h1 _ ih=>exact .cons (f _ _ h1) ih
theorem IsNest.keeps {h h':Heap} {ks:NK} {a d:Addr} {o:Obj} {es ep} (x:IsNest prog w h ks a) (ho:h.get? d=some o) (hd:o.data = .dict es ep) (hs:FC d h h'):IsNest prog w h' ks a:=by
 obtain ⟨o',items,n,z,F,j,hi⟩:=x;have B:a≠d:=by
  rintro rfl;obtain rfl:o'=o:=FL.inj (z.symm.trans ho);rw [hd] at j;exact nomatch j
 refine ⟨o',items,n,(hs.2 a B).trans z,F,j,hi.imp fun k v q => ?_⟩
 cases k with
 | inl i=>exact q
 | inr ks=>obtain ⟨b,e,G⟩:=q;exact ⟨b,e,G.keeps ho hd hs⟩
variable {A:EK} {E:e7->g6->Prop} {s:g6}
theorem nF {k:Int ⊕ List Int} {v:e7} {Q:Int->g6->Prop} (q:A.units < G0) (j:Is1 prog w s.heap k v) (h:Q (dW k) { s with toks:=s.toks+wj k }):Ee (model prog w) A (pyHash v) Q E s:=by
 cases k with
 | inl i=>exact (HR prog w).pyHash j h
 | inr ks=>obtain ⟨b,rfl,z⟩:=j;exact wpAny_pyHash_tuple q z h
theorem fM {ks:NK} {a:Addr} {Q:Int->g6->Prop} (J:A.units+1 < G0) (G:IsNest prog w s.heap ks a) (h:Q (ke ks) { s with toks:=s.toks+(i4 ks+1) }) :
 Ee (model prog w) A (pyHash (.ref a)) Q E s:=by
 have q:=G.typeIs;obtain ⟨o,items,n,ho,_,hd,hi⟩:=G;unfold pyHash
 first | unfold pyHashByItsType | skip
 first | refine b3 (wpAny_cRoomFor_or (.inr (by lia)) ?_) | skip
 refine b3 (J4 q F.slot_tuple_hash.lookup ?_);show Ee _ _ (if (some (Value.builtin "tuple.__hash__")==some Hs)=true then _ else _) Q E s
 rw [if_neg (by rw [beq_builtin_none];exact D2)]
 refine b3 (J4 q F.slot_tuple_hash.lookup ?_);show Ee _ _ (callSpecialIfBoundUnlessNone? (.ref a) "__hash__" _ >>= _) Q E s;refine b3 (wpAny_callSpecialIfBoundUnlessNone?_slot q Mo (EG Mo q F.entry_tuple_hash ?_ (F.args_tuple_hash_1 _)));show Ee _ _ (Hv (.ref a) >>= _) _ _ s;refine b3 (wpAny_tupleItemsOf ho hd ?_);refine b3 ?_;rw [<- Jx];refine Iz _
  (fun rest (b:Array Int) s' => ∃ done left,ks=done++left/\IsN prog w s.heap left rest/\b.toList=done.map dW/\s' = { s with toks:=s.toks+i4 done })
  _ ?_ ?_ _ _ ⟨[],ks,rfl,hi,rfl,rfl⟩
 ·rintro x rest b s' ⟨done,left,rfl,B,z,rfl⟩
  cases B with
  | @cons k _ ks' _ h1 j =>
   refine b3 (nF (by exact J) h1 ?_)
   first
    | exact gV ⟨done++[k],ks',by simp,j,by simp [z],by simp [i4,Hj]⟩
    | exact b3 (gV (gV ⟨done++[k],ks',by simp,j,by simp [z],by simp [i4,Hj]⟩))
 ·rintro b s' ⟨done,left,rfl,B,z,rfl⟩
  cases B
  rw [F8] at h;show Ee _ _ (retInt (Fi b.toList)) _ _ _;rw [z];refine wpAny_ret_mkInt ?_;show Ee _ _ (if (decide (-(2:Int) ^ 63<=Fi (done.map dW))&&decide (Fi (done.map dW) < 2 ^ 63))=true then _ else _) Q E _
  unfold ke NO at h
  by_cases hr:(decide (-(2:Int) ^ 63<=Fi (done.map dW))&&decide (Fi (done.map dW) < 2 ^ 63))=true
  ·rw [if_pos hr];rw [if_pos hr] at h;exact gV (by simpa [Hj] using h)
  ·rw [if_neg hr];rw [if_neg hr] at h;exact b3 (FU (gV (by simpa [Hj] using h)))
noncomputable def be:Int ⊕ List Int->Fg
 | .inl i => .int i
 | .inr ks => .tuple (ks.map .int)
noncomputable def kH (ks:NK):Fg := .tuple (ks.map be)
theorem pH {h:Heap} {ks:List Int} {vs:List e7} (x:ItemsAre (HR prog w) ks vs):Jy h vs (ks.map Jz) []:=by
 induction x with
 | nil=>exact .nil
 | @cons k v ks vs h1 _ ih =>
  obtain ⟨t,rfl⟩:=JK h1;exact ReadsAll.cons (as := []) (.int _ _) ih
theorem xg {h:Heap} {k:Int ⊕ List Int} {v:e7} (x:Is1 prog w h k v):HN h v (be k) []:=by
 cases k with
 | inl i=>obtain ⟨t,rfl⟩:=JK x;exact .int _ _
 | inr ks =>
   obtain ⟨b,rfl,o,its,n,h1,h2,j,q⟩:=x;exact .tuple h1 h2 j (pH q)
theorem xh {h:Heap} {ks:NK} {vs:List e7} (x:IsN prog w h ks vs):Jy h vs (ks.map be) []:=by
 induction x with
 | nil=>exact .nil
 | cons h1 _ ih=>exact ReadsAll.cons (as := []) (xg h1) ih
theorem i5 {h:Heap} {ks:NK} {a:Addr} (x:IsNest prog w h ks a):HN h (.ref a) (kH ks) []:=by
 obtain ⟨o,its,n,h1,h2,j,q⟩:=x;exact .tuple h1 h2 j (xh q)
theorem eqv_ints:∀ (x y:List Int),FQ (x.map Jz) (y.map Jz)=decide (x=y)
 | [],[] => rfl
 | [],_::_=>rfl
 | _::_,[] => rfl
 | a::x,b::y=>by
   rw [Ew,Ew,FQ,eqv_ints x y,EW];by_cases h1:a=b <;> by_cases h2:x=y <;> simp [h1,h2]
theorem AW:∀ (x y:Int ⊕ List Int),EW (be x) (be y)=decide (x=y)
 | .inl a, .inl b=>by rw [be,be,EW];simp;rfl
 | .inl a, .inr b=>by simp [be,EW]
 | .inr a, .inl b=>by simp [be,EW]
 | .inr a, .inr b=>by rw [be,be,EW,eqv_ints];simp
theorem wk:∀ (x y:NK),FQ (x.map be) (y.map be)=decide (x=y)
 | [],[] => rfl
 | [],_::_=>rfl
 | _::_,[] => rfl
 | a::x,b::y=>by
   rw [Ew,Ew,FQ,wk x y,AW];by_cases h1:a=b <;> by_cases h2:x=y <;> simp [h1,h2]
theorem kI:∀ (x:List Int),EU (x.map Jz)=true
 | [] => rfl
 | _::x=>by rw [Ew,EU,kI x];rfl
theorem AX:∀ (x:Int ⊕ List Int),Hw (be x)=true
 | .inl _=>rfl
 | .inr x=>kI x
theorem pI:∀ (x:NK),EU (x.map be)=true
 | [] => rfl
 | a::x=>by rw [Ew,EU,AX,pI x];rfl
theorem i6:∀ (x:List Int),F9 (x.map Jz)<=1
 | [] => by simp [F9]
 | _::x=>by have:=i6 x;simp [F9,FF];lia
theorem xi:∀ (x:Int ⊕ List Int),FF (be x)<=2
 | .inl _=>by simp [be,FF]
 | .inr x=>by have:=i6 x;simp [be,FF];lia
theorem oa:∀ (x:NK),F9 (x.map be)<=2
 | [] => by simp [F9]
 | a::x=>by have:=oa x;have:=xi a;simp only [Ew,F9];lia
theorem fN {x y:NK} {a b:Addr} {Q:Bool->g6->Prop} (q:A.units+8 < G0) (hx:IsNest prog w s.heap x a) (j:IsNest prog w s.heap y b) (h:Q (decide (x=y)) s) :
 Ee (model prog w) A (eqBool (.ref a) (.ref b)) Q E s:=by
 refine SeqAt.eqBoolOverData prog w A E s _ _ (kH x) (kH y) [] [] Q (i5 hx) (i5 j) (pI x) (pI y) ?_ ?_
 ·have:=oa x;have:FF (kH x)<=3:=by simp only [kH,FF];lia
  lia
 ·show Q (FQ _ _) s;rw [wk];exact h
theorem kJ {n:Nat} {ks:List Int} {a:Addr} {Q:Bool->g6->Prop} (B:IsTupleKey (HR prog w) s.heap ks a) (h:Q true s):Ee (model prog w) A (Lj (n+1) (.ref a)) Q E s:=by
 have G:=B.typeIs;obtain ⟨o,items,m,ho,_,hd,hi⟩:=B;unfold Lj;refine b3 (J4 G F.slot_tuple_eq.lookup ?_);show Ee _ _ (isInstance (.ref a) (.type "tuple") >>= _) _ _ s;refine b3 (HB G KG ?_);simp only [IP,EV,if_false];refine b3 (Ff ho hd ?_);refine b3 ?_;show Ee _ _ (forIn items _ _) _ _ s;rw [<- Jx];refine Iz _ (fun rest r s'=>r.1=none/\s'=s /\ ∀ v∈rest,KZ v=true) _ ?_ ?_ _ _ ⟨rfl,rfl,hi.byValue⟩
 ·rintro v rest r s' ⟨q,rfl,j⟩;rw [Mp _ (j v Fl)];refine b3 (gV ?_);simp only [IP,EV,if_false];exact gV ⟨rfl,rfl,fun u z=>j u (Ez _ z)⟩
 ·rintro ⟨J,L⟩ s' ⟨q,rfl,_⟩;simp only at q;subst q;exact gV h
theorem kK {n:Nat} {ks:NK} {a:Addr} {Q:Bool->g6->Prop} (B:IsNest prog w s.heap ks a) (h:Q true s):Ee (model prog w) A (Lj (n+2) (.ref a)) Q E s:=by
 have G:=B.typeIs;obtain ⟨o,items,m,ho,_,hd,hi⟩:=B;unfold Lj;refine b3 (J4 G F.slot_tuple_eq.lookup ?_);show Ee _ _ (isInstance (.ref a) (.type "tuple") >>= _) _ _ s;refine b3 (HB G KG ?_);simp only [IP,EV,if_false];refine b3 (Ff ho hd ?_);refine b3 ?_;show Ee _ _ (forIn items _ _) _ _ s;rw [<- Jx];refine Iz _ (fun rest r s'=>r.1=none/\s'=s /\ ∃ ks,IsN prog w s.heap ks rest) _ ?_ ?_ _ _ ⟨rfl,rfl,ks,hi⟩
 ·rintro v rest r s' ⟨z,rfl,ks,j⟩
  cases j with
  | @cons k _ ks' _ h1 J =>
   have fin:∀ Q':Bool->g6->Prop,Q' true s'->Ee (model prog w) A (Lj (n+1) v) Q' E s':=by
    intro Q' q
    cases k with
    | inl i =>
      rw [Mp _ ((HR prog w).byValue _ _ h1)];exact gV q
    | inr ls=>obtain ⟨b,rfl,L⟩:=h1;exact kJ L q
   refine b3 (fin _ ?_);simp only [IP,EV,if_false];exact gV ⟨rfl,rfl,ks',J⟩
 ·rintro ⟨O,U⟩ s' ⟨z,rfl,_⟩;simp only at z;subst z;exact gV h
end
noncomputable def gd (prog:Er) (w:EH):HeapKind prog w NK where
 is:=IsNest prog w
 hash:=ke
 draws:=fun ks=>i4 ks+1
 room:=fun A=>A.units+8 < G0
 inj:=fun hx hy=>hx.inj hy
 keeps:=fun x ho hd hs=>x.keeps ho hd hs
 pyHash:=fun hu hk h=>fM (Nat.lt_of_le_of_lt (Nat.add_le_add_left (by decide) _) hu) hk h
 eqBool:=fun hu hx hy h=>fN hu hx hy h
 quiet:=fun hk h=>kK hk h
noncomputable def NDict (a:Addr) (xs:List (NK×Addr×e7)):Heap->Prop:=fun h=>xs.length<=D0/\(a==G6)=false /\
 ∃ o es ep,h.get? a=some o/\o.ExactDict/\o.data = .dict es ep/\es.toList=xs.map (fun x=>(⟨ke x.1, .ref x.2.1,x.2.2⟩:IC))/\(xs.map (·.1)).Nodup
theorem NDict.stay {a:Addr} {xs:List (NK×Addr×e7)} (h1 h2:Heap) (x:NDict a xs h1) (k:∀ o,h1.get? a=some o->h2.get? a=some o):NDict a xs h2:=by
 obtain ⟨z,y,o,es,ep,e,r⟩:=x;exact ⟨z,y,o,es,ep,k _ e,r⟩
noncomputable def Kt1 (H:Hp):Int ⊕ List Int->V->Prop
 | .inl i,v=>v = .int i
 | .inr ks,v => ∃ b,v = .ref b/\H b=some (.tup (ks.map V.int))
def Kt (H:Hp) (k:NK) (b:Addr):Prop := ∃ vs,H b=some (.tup vs)/\FG (Kt1 H) k vs
theorem Kt.keeps {H H':Hp} {k:NK} {b:Addr} (x:Kt H k b) (j:∀ b ys,H b=some (.tup ys)->H' b=some (.tup ys)):Kt H' k b:=by
 obtain ⟨vs,e,p⟩:=x;refine ⟨vs,j _ _ e,Ob p fun q v z => ?_⟩
 cases q with
 | inl i=>exact z
 | inr ks=>obtain ⟨c,e,q⟩:=z;exact ⟨c,e,j _ _ q⟩
section
variable {P:Er} {w:EH} {H:Hp} {h:Heap} {a b:Addr}
theorem kL:∀ {ks:List Int} {its:List e7},Vals (ks.map V.int) its->ItemsAre (HR P w) ks its
 | [],_,r=>by cases r;exact .nil
 | k::ks,_,r=>by
   cases r with
   | cons j q =>
     obtain ⟨t,rfl⟩:=(show ∃ t,_=Iw k t from j);exact .cons (by simp [HR,JJ]) (kL q)
theorem i7 (ok:HOk P w H h):∀ {k:NK} {vs:List V} {its:List e7},FG (Kt1 H) k vs->Vals vs its->IsN P w h k its
 | [],_,_,p,r=>by cases p;cases r;exact .nil
 | k::ks,_,_,p,r=>by
   cases p with
   | cons j p2 =>
     cases r with
     | cons q z =>
       refine .cons ?_ (i7 ok p2 z)
       cases k with
       | inl i =>
         cases (show _=V.int i from j)
         obtain ⟨t,rfl⟩:=(show ∃ t,_=Iw i t from q);exact (by simp [HR,JJ]:JJ i (.int i t)=true)
       | inr ls =>
         obtain ⟨c,rfl,e⟩:=j
         cases (show _=ES c from q)
         obtain ⟨_,its,r,o,h1,h2,n,B⟩:=(show ObjOk P w H h c (.tup (ls.map V.int)) from ok c _ e);exact ⟨c,rfl,o,its.toArray,n,h1,h2,B,by simpa using kL r⟩
theorem dC {k:NK} (ok:HOk P w H h) (x:Kt H k b):IsNest P w h k b:=by
 obtain ⟨vs,e,p⟩:=x;obtain ⟨_,its,r,o,h1,h2,n,j⟩:=(show ObjOk P w H h b (.tup vs) from ok b _ e);exact ⟨o,its.toArray,n,h1,h2,j,by simpa using i7 ok p r⟩
theorem kf {xs:List (NK×Addr×e7)} (ok:HOk P w H h) (e:H a=some (.ext (NDict a xs))) (ks:∀ x∈xs,Kt H x.1 x.2.1):xs.length<=D0/\(a==G6)=false/\h.DictOfH (gd P w) a xs:=by
 obtain ⟨⟨z,y,o,es,ep,h1,h2,j,q,B⟩,_⟩:=(show ObjOk P w H h a (.ext (NDict a xs)) from ok a _ e);exact ⟨z,y,o,es,ep,h1,h2,j,q,fun x hx=>dC ok (ks x hx),B⟩
end
theorem kg {P:Er} {w:EH} {A:EK} (j:A.units+16 < G0):(gd P w).room A.in1:=show A.units+1+8 < G0 by lia
section
variable {X:Cx} {pins:List (Addr×Obj)} {σ:St} {H:Hp} {s:g6} {a b:Addr} {v:V} {r:e7} {A:EK} {E:e7->g6->Prop} {xs:List (NK×Addr×e7)} {k:NK}
theorem rl {p:Addr×e7} {Q:e7->g6->Prop} (j:A.units+16 < G0) (I:Inv X pins σ H s) (e:H a=some (.ext (NDict a xs))) (ks:∀ x∈xs,Kt H x.1 x.2.1) (kb:Kt H k b) (q:HK xs k=some p)
 (h:∀ s',Inv X pins σ H s'->Q p.2 s'):Ee (model X.prog X.w) A (JO (.ref a) (.ref b)) Q E s:=by
 obtain ⟨z,hd,dd⟩:=kf I.hok e ks;exact LL (kg j) (dC I.hok kb) dd q (h _ (I.tok _))
theorem BO {Q:e7->g6->Prop} (j:A.units+16 < G0) (I:Inv X pins σ H s) (e:H a=some (.ext (NDict a xs))) (ks:∀ x∈xs,Kt H x.1 x.2.1) (kb:Kt H k b)
 (h:∀ s',Inv X pins σ H s'->Q (.bool (HK xs k).isSome) s'):Ee (model X.prog X.w) A (Ft .In (.ref b) (.ref a)) Q E s:=by
 obtain ⟨z,hd,dd⟩:=kf I.hok e ks;exact wpAny_in_heap (kg j) (dC I.hok kb) hd dd (h _ (I.tok _))
theorem fS (xs:List (NK×Addr×e7)) (k:NK) (b:Addr) (u:e7):(HA xs k b u).length<=xs.length+1:=by
 unfold HA;split <;> simp
theorem rn {Q:Unit->g6->Prop} (B:A.units+16 < G0) (I:Inv X pins σ H s) (e:H a=some (.ext (NDict a xs))) (ks:∀ x∈xs,Kt H x.1 x.2.1) (kb:Kt H k b) (L:xs.length < D0)
 (h:∀ s',Inv X pins σ (upd H a (.ext (NDict a (HA xs k b r)))) s'->Q () s'):Ee (model X.prog X.w) A (LW (.ref a) (.ref b) r) Q E s:=by
 obtain ⟨z,hd,dd⟩:=kf I.hok e ks;refine LN (hsz:=z) (kg B) (dC I.hok kb) dd fun h' dd' hs=>h _ ?_;obtain ⟨q,es,ep,j,h2,F,G,_,J⟩:=dd';refine dB I (by rw [e];exact Fv) hs ⟨q,j⟩ ⟨⟨?_,hd,q,es,ep,j,h2,F,G,J⟩,⟨q,j⟩,NDict.stay⟩
 have:=fS xs k b r;lia
theorem kM (I:Inv X pins σ H s) (e:H a=some (.ext (NDict a xs))):s.TypeIs (.ref a) "dict" := by
 obtain ⟨⟨z,y,o,es,ep,h1,h2,_⟩,_⟩:=(show ObjOk X.prog X.w H s.heap a (.ext (NDict a xs)) from I.hok a _ e);exact ⟨o,h1,h2.1⟩
end
end
end L2
namespace L2
namespace Mi
open PySem PySem.Spec PyProof.Rows
section
inductive D where
 | non | bl (b:Bool) | int (i:Int) | str (x:Str) | tup (ds:List D) | con (ds:List D) | ref (a:Addr) | fn (x:Str)
inductive O where
 | lst (ds:List D)
 | dct (t:Bool) (kvs:List (D×D))
 | fdc (kvs:List (D×D))
 | dcn (kvs:List (NK×D))
 | fdn (kvs:List (NK×D))
noncomputable abbrev Mem:=Addr->Option O
noncomputable def fz:Option O->Bool
 | some (.lst _)=>false
 | some (.dct _ _)=>false
 | some (.dcn _)=>false
 | _=>true
noncomputable abbrev am:=List (Option D)
noncomputable def af (M:Mem) (a:Addr) (o:O):Mem:=fun b=>if b=a then some o else M b
theorem ad {M:Mem} {a:Addr} {o:O}:af M a o a=some o:=by unfold af;rw [if_pos rfl]
theorem ah {M:Mem} {a b:Addr} {o:O} (h:b≠a):af M a o b=M b:=by unfold af;rw [if_neg h]
def SqF (K:Frag) (H:Hp) (a:Addr) (xs:List V):Prop :=
 (∃ o,H a=some (.frz o (.lst xs))) ∨
  ∃ (o:Obj) (its:Array e7) (n:Nat),K.lookup a=some o/\o.cls = .type "list" /\ o.dict=none/\o.data = .seq its n/\its.size<=D0/\Vals xs its.toList
theorem SqF.sq {K:Frag} {H:Hp} {a:Addr} {xs:List V} (h:SqF K H a xs):SqL K H a xs:=by
 rcases h with ⟨o,h⟩ | h
 ·exact .inl (.inr ⟨o,h⟩)
 ·exact .inr h
noncomputable def fk2:Bool:=true
noncomputable def fk3:Bool:=true
noncomputable def fk:List D->Bool
 | [.int _, .int _, .int _] => true
 | [.tup _,_] => true
 | [.int _,_] => fk2
 | [] => false
 | _=>fk3
def TupR (K:Frag) (H:Hp) (ds:List D) (a:Addr) (vs:List V):Prop:=H a=some (.tup vs)∨(fk ds=false/\SqT K H a vs)
theorem TupR.sq {K:Frag} {H:Hp} {ds:List D} {a:Addr} {vs:List V} (h:TupR K H ds a vs):SqT K H a vs:=h.elim SqT.of (·.2)
mutual
noncomputable def RD (K:Frag) (H:Hp):D->V->Prop
 | .non,v=>v = .non
 | .bl b,v=>v = .bl b
 | .int i,v=>v = .int i
 | .str x,v=>v = .str x
 | .tup ds,v => ∃ a vs,v = .ref a/\TupR K H ds a vs/\RDs K H ds vs
 | .con ds,v => ∃ a vs,v = .ref a/\SqF K H a vs/\RDs K H ds vs
 | .ref a,v=>v = .ref a
 | .fn x,v => ∃ f,v = .ref f/\Ik K Fo x=some (some (.ref f))
noncomputable def RDs (K:Frag) (H:Hp):List D->List V->Prop
 | [],vs=>vs=[]
 | d::ds,vs => ∃ v r,vs=v::r/\RD K H d v/\RDs K H ds r
end
structure Stab (H H':Hp):Prop where
 tup:∀ a xs,H a=some (.tup xs)->H' a=some (.tup xs)
 frz:∀ a o u,H a=some (.frz o u)->H' a=some (.frz o u)
theorem Stab.sqT {K:Frag} {H H':Hp} (st:Stab H H') {a:Addr} {xs:List V} (h:SqT K H a xs):SqT K H' a xs:=by
 rcases h with (h | ⟨o,h⟩) | h
 ·exact .inl (.inl (st.tup _ _ h))
 ·exact .inl (.inr ⟨o,st.frz _ _ _ h⟩)
 ·exact .inr h
theorem Stab.sqF {K:Frag} {H H':Hp} (st:Stab H H') {a:Addr} {xs:List V} (h:SqF K H a xs):SqF K H' a xs:=by
 rcases h with ⟨o,h⟩ | h
 ·exact .inl ⟨o,st.frz _ _ _ h⟩
 ·exact .inr h
mutual
theorem RD.mono {K:Frag} {H H':Hp} (st:Stab H H'):∀ {d:D} {v:V},RD K H d v->RD K H' d v
 | .non,_,h=>h
 | .bl _,_,h=>h
 | .int _,_,h=>h
 | .str _,_,h=>h
 | .tup ds,v,h=>by
  unfold RD at h ⊢;obtain ⟨a,vs,e,q,r⟩:=h;exact ⟨a,vs,e,q.imp (st.tup _ _) (fun z=>⟨z.1,st.sqT z.2⟩),RDs.mono st r⟩
 | .con ds,v,h=>by
  unfold RD at h ⊢;obtain ⟨a,vs,e,q,r⟩:=h;exact ⟨a,vs,e,st.sqF q,RDs.mono st r⟩
 | .ref _,_,h=>h
 | .fn _,_,h=>by unfold RD at h ⊢;exact h
theorem RDs.mono {K:Frag} {H H':Hp} (st:Stab H H'):∀ {ds:List D} {vs:List V},RDs K H ds vs->RDs K H' ds vs
 | [],_,h=>h
 | d::ds,vs,h=>by
   unfold RDs at h ⊢;obtain ⟨v,r,e,h1,h2⟩:=h;exact ⟨v,r,e,RD.mono st h1,RDs.mono st h2⟩
end
section
variable {K:Frag} {H H':Hp}
theorem O7 {i:Int} {v:V}:RD K H (.int i) v↔v = .int i:=by unfold RD;exact Nz
theorem O9 {b:Bool} {v:V}:RD K H (.bl b) v↔v = .bl b:=by unfold RD;exact Nz
theorem Oe {v:V}:RD K H .non v↔v = .non:=by unfold RD;exact Nz
theorem Of {x:Str} {v:V}:RD K H (.str x) v↔v = .str x:=by unfold RD;exact Nz
theorem O8 {a:Addr} {v:V}:RD K H (.ref a) v↔v = .ref a:=by unfold RD;exact Nz
theorem Ou {x:Str} {v:V}:RD K H (.fn x) v ↔ ∃ f,v = .ref f/\Ik K Fo x=some (some (.ref f)):=by rw [RD]
theorem Oj {ds:List D} {v:V}:RD K H (.tup ds) v ↔ ∃ a vs,v = .ref a/\TupR K H ds a vs/\RDs K H ds vs:=by rw [RD]
theorem Oh {ds:List D} {v:V} (h:∃ a vs,v = .ref a/\H a=some (.tup vs)/\RDs K H ds vs):RD K H (.tup ds) v:=Oj.mpr (let ⟨a,vs,e,h,r⟩:=h; ⟨a,vs,e, .inl h,r⟩)
theorem Od {ds:List D} {v:V} (h:RD K H (.tup ds) v):∃ a vs,v = .ref a/\SqT K H a vs/\RDs K H ds vs:=let ⟨a,vs,e,h,r⟩:=Oj.mp h; ⟨a,vs,e,h.sq,r⟩
theorem Oo {ds:List D} {v:V} (f:fk ds=true) (h:RD K H (.tup ds) v):∃ a vs,v = .ref a/\H a=some (.tup vs)/\RDs K H ds vs:=let ⟨a,vs,e,h,r⟩:=Oj.mp h; ⟨a,vs,e,h.elim id fun z=>(by rw [f] at z;cases z.1),r⟩
theorem Oc {ds:List D} {v:V}:RD K H (.con ds) v ↔ ∃ a vs,v = .ref a/\SqF K H a vs/\RDs K H ds vs:=by rw [RD]
theorem RDs.nil_iff {vs:List V}:RDs K H [] vs↔vs=[]:=by rw [RDs]
theorem Oa {d:D} {ds:List D} {vs:List V}:RDs K H (d::ds) vs ↔ ∃ v r,vs=v::r/\RD K H d v/\RDs K H ds r:=by rw [RDs]
theorem RDs.nil:RDs K H [] []:=RDs.nil_iff.mpr rfl
theorem RDs.cons {d:D} {ds:List D} {v:V} {vs:List V} (h:RD K H d v) (r:RDs K H ds vs):RDs K H (d::ds) (v::vs):=Oa.mpr ⟨v,vs,rfl,h,r⟩
theorem RDs.length:∀ {ds:List D} {vs:List V},RDs K H ds vs->vs.length=ds.length
 | [],_,h=>by rw [RDs.nil_iff.mp h];rfl
 | d::ds,_,h=>by
   obtain ⟨v,r,rfl,_,h2⟩:=Oa.mp h;simp [RDs.length h2]
theorem RDs.get:∀ {ds:List D} {vs:List V} {i:Nat} {d:D},RDs K H ds vs->ds[i]? = some d -> ∃ v,vs[i]? = some v/\RD K H d v
 | [],_,_,_,_,e=>by simp at e
 | d::ds,_,0,d',h,e=>by
   obtain ⟨v,r,rfl,h1,h2⟩:=Oa.mp h;simp at e;subst e;exact ⟨v,rfl,h1⟩
 | d::ds,_,i+1,d',h,e=>by
   obtain ⟨v,r,rfl,h1,h2⟩:=Oa.mp h;obtain ⟨u,j,q⟩:=RDs.get (i:=i) (d:=d') h2 (by simpa using e)
   exact ⟨u,by simpa using j,q⟩
theorem RDs.getV {ds:List D} {vs:List V} {i:Nat} {v:V} (h:RDs K H ds vs) (e:vs[i]? = some v):∃ d,ds[i]? = some d/\RD K H d v:=by
 have z:=h.length;have hi:i < vs.length:=(o7.mp e).1;obtain ⟨d,hd⟩:∃ d,ds[i]? = some d:=⟨ds[i]'(by lia),h7 (by lia)⟩
 obtain ⟨u,j,q⟩:=h.get hd;rw [e] at j;cases j;exact ⟨d,hd,q⟩
theorem RDs.append:∀ {ds es:List D} {vs us:List V},RDs K H ds vs->RDs K H es us->RDs K H (ds++es) (vs++us)
 | [],_,_,_,h,q=>by rw [RDs.nil_iff.mp h];exact q
 | d::ds,_,_,_,h,q=>by
   obtain ⟨v,r,rfl,h1,h2⟩:=Oa.mp h;exact RDs.cons h1 (RDs.append h2 q)
theorem RDs.take:∀ {ds:List D} {vs:List V} (n:Nat),RDs K H ds vs->RDs K H (ds.take n) (vs.take n)
 | [],_,n,h=>by rw [RDs.nil_iff.mp h];simp;exact RDs.nil
 | _::_,_,0,h=>by simp;exact RDs.nil
 | d::ds,_,n+1,h=>by
   obtain ⟨v,r,rfl,h1,h2⟩:=Oa.mp h;exact RDs.cons h1 (RDs.take n h2)
theorem RDs.drop:∀ {ds:List D} {vs:List V} (n:Nat),RDs K H ds vs->RDs K H (ds.drop n) (vs.drop n)
 | [],_,n,h=>by rw [RDs.nil_iff.mp h];simp;exact RDs.nil
 | d::ds,_,0,h=>h
 | d::ds,_,n+1,h=>by
   obtain ⟨v,r,rfl,h1,h2⟩:=Oa.mp h;exact RDs.drop n h2
theorem RDs.set:∀ {ds:List D} {vs:List V} (n:Nat) {d:D} {v:V},RD K H d v->RDs K H ds vs->RDs K H (ds.set n d) (vs.set n v)
 | [],_,n,_,_,_,h=>by rw [RDs.nil_iff.mp h];exact RDs.nil
 | d::ds,_,0,_,_,q,h=>by
   obtain ⟨v,r,rfl,h1,h2⟩:=Oa.mp h;exact RDs.cons q h2
 | d::ds,_,n+1,_,_,q,h=>by
   obtain ⟨v,r,rfl,h1,h2⟩:=Oa.mp h;exact RDs.cons h1 (RDs.set n q h2)
theorem RDs.rep {ds:List D} {vs:List V} (h:RDs K H ds vs):∀ k:Nat,RDs K H (Em k ds).flatten (Em k vs).flatten
 | 0=>RDs.nil
 | k+1=>by
   rw [Fp,Fp,Fc,Fc];exact h.append (h.rep k)
theorem Oq:∀ (ns:List Int),RDs K H (ns.map D.int) (ns.map V.int)
 | [] => RDs.nil
 | n::ns=>RDs.cons (O7.mpr rfl) (Oq ns)
end
mutual
noncomputable def D.eqb:D->D->Bool
 | .non, .non=>true
 | .bl a, .bl b=>a==b
 | .int a, .int b=>decide (a=b)
 | .str a, .str b=>decide (a=b)
 | .tup a, .tup b=>D.eqbs a b
 | .con a, .con b=>D.eqbs a b
 | .ref a, .ref b=>decide (a=b)
 | .fn a, .fn b=>decide (a=b)
 | _,_=>false
noncomputable def D.eqbs:List D->List D->Bool
 | [],[] => true
 | a::r,b::s=>D.eqb a b&&D.eqbs r s
 | _,_=>false
end
mutual
theorem Ov:∀ (a b:D),D.eqb a b=true->a=b
 | .non, .non,_=>rfl
 | .bl a, .bl b,h=>by simp [D.eqb] at h;rw [h]
 | .int a, .int b,h=>by simp [D.eqb] at h;rw [h]
 | .str a, .str b,h=>by simp [D.eqb] at h;rw [h]
 | .tup a, .tup b,h=>by simp [D.eqb] at h;rw [Om a b h]
 | .con a, .con b,h=>by simp [D.eqb] at h;rw [Om a b h]
 | .ref a, .ref b,h=>by simp [D.eqb] at h;rw [h]
 | .fn a, .fn b,h=>by simp [D.eqb] at h;rw [h]
 | .non, .bl _,h=>by simp [D.eqb] at h
 | .non, .int _,h=>by simp [D.eqb] at h
 | .non, .str _,h=>by simp [D.eqb] at h
 | .non, .tup _,h=>by simp [D.eqb] at h
 | .non, .con _,h=>by simp [D.eqb] at h
 | .non, .ref _,h=>by simp [D.eqb] at h
 | .non, .fn _,h=>by simp [D.eqb] at h
 | .bl _, .non,h=>by simp [D.eqb] at h
 | .bl _, .int _,h=>by simp [D.eqb] at h
 | .bl _, .str _,h=>by simp [D.eqb] at h
 | .bl _, .tup _,h=>by simp [D.eqb] at h
 | .bl _, .con _,h=>by simp [D.eqb] at h
 | .bl _, .ref _,h=>by simp [D.eqb] at h
 | .bl _, .fn _,h=>by simp [D.eqb] at h
 | .int _, .non,h=>by simp [D.eqb] at h
 | .int _, .bl _,h=>by simp [D.eqb] at h
 | .int _, .str _,h=>by simp [D.eqb] at h
 | .int _, .tup _,h=>by simp [D.eqb] at h
 | .int _, .con _,h=>by simp [D.eqb] at h
 | .int _, .ref _,h=>by simp [D.eqb] at h
 | .int _, .fn _,h=>by simp [D.eqb] at h
 | .str _, .non,h=>by simp [D.eqb] at h
 | .str _, .bl _,h=>by simp [D.eqb] at h
 | .str _, .int _,h=>by simp [D.eqb] at h
 | .str _, .tup _,h=>by simp [D.eqb] at h
 | .str _, .con _,h=>by simp [D.eqb] at h
 | .str _, .ref _,h=>by simp [D.eqb] at h
 | .str _, .fn _,h=>by simp [D.eqb] at h
 | .tup _, .non,h=>by simp [D.eqb] at h
 | .tup _, .bl _,h=>by simp [D.eqb] at h
 | .tup _, .int _,h=>by simp [D.eqb] at h
 | .tup _, .str _,h=>by simp [D.eqb] at h
 | .tup _, .con _,h=>by simp [D.eqb] at h
 | .tup _, .ref _,h=>by simp [D.eqb] at h
 | .tup _, .fn _,h=>by simp [D.eqb] at h
 | .con _, .non,h=>by simp [D.eqb] at h
 | .con _, .bl _,h=>by simp [D.eqb] at h
 | .con _, .int _,h=>by simp [D.eqb] at h
 | .con _, .str _,h=>by simp [D.eqb] at h
 | .con _, .tup _,h=>by simp [D.eqb] at h
 | .con _, .ref _,h=>by simp [D.eqb] at h
 | .con _, .fn _,h=>by simp [D.eqb] at h
 | .ref _, .non,h=>by simp [D.eqb] at h
 | .ref _, .bl _,h=>by simp [D.eqb] at h
 | .ref _, .int _,h=>by simp [D.eqb] at h
 | .ref _, .str _,h=>by simp [D.eqb] at h
 | .ref _, .tup _,h=>by simp [D.eqb] at h
 | .ref _, .con _,h=>by simp [D.eqb] at h
 | .ref _, .fn _,h=>by simp [D.eqb] at h
 | .fn _, .non,h=>by simp [D.eqb] at h
 | .fn _, .bl _,h=>by simp [D.eqb] at h
 | .fn _, .int _,h=>by simp [D.eqb] at h
 | .fn _, .str _,h=>by simp [D.eqb] at h
 | .fn _, .tup _,h=>by simp [D.eqb] at h
 | .fn _, .con _,h=>by simp [D.eqb] at h
 | .fn _, .ref _,h=>by simp [D.eqb] at h
theorem Om:∀ (a b:List D),D.eqbs a b=true->a=b
 | [],[],_=>rfl
 | a::r,b::s,h=>by
   simp [D.eqbs] at h;rw [Ov a b h.1,Om r s h.2]
 | [],_::_,h=>by simp [D.eqbs] at h
 | _::_,[],h=>by simp [D.eqbs] at h
end
mutual
theorem Ot:∀ (a:D),D.eqb a a=true
 | .non=>rfl
 | .bl _=>by simp [D.eqb]
 | .int _=>by simp [D.eqb]
 | .str _=>by simp [D.eqb]
 | .tup a=>by simp [D.eqb,Oi a]
 | .con a=>by simp [D.eqb,Oi a]
 | .ref _=>by simp [D.eqb]
 | .fn _=>by simp [D.eqb]
theorem Oi:∀ (a:List D),D.eqbs a a=true
 | [] => rfl
 | a::r=>by simp [D.eqbs,Ot a,Oi r]
end
noncomputable instance:DecidableEq D:=fun a b=>if h:D.eqb a b=true then isTrue (Ov a b h) else isFalse fun e=>h (by rw [e];exact Ot b)
noncomputable def RKey:D->Key->Prop
 | .int i,k=>k = .inl i
 | .str x,k=>k = .inr x
 | _,_=>False
noncomputable def RKeys:D->List Key->Prop
 | .tup ds,ks=>FG RKey ds ks
 | _,_=>False
noncomputable def bW (kvs:List (D×D)) (k:D):Option D:=(kvs.find? fun p=>decide (p.1=k)).map (·.2)
noncomputable def kN (kvs:List (D×D)) (k v:D):List (D×D):=if (kvs.any fun p=>decide (p.1=k))=true then kvs.map (fun p=>if p.1=k then (p.1,v) else p) else kvs++[(k,v)]
noncomputable def dX:D->Bool
 | .int _=>true
 | .str _=>true
 | _=>false
noncomputable def da:D->Bool
 | .tup ds=>ds.all dX&&fk ds
 | _=>false
noncomputable def pJ (t:Bool) (k:D):Bool:=if t then da k else dX k
theorem kO {k:D} (h:dX k=true):∃ q,RKey k q:=by
 cases k <;> first | (simp [dX] at h;done) | exact ⟨_,rfl⟩
theorem og:∀ {ds:List D},ds.all dX=true -> ∃ ks,FG RKey ds ks
 | [],_=>⟨[], .nil⟩
 | d::ds,h=>by
   simp only [Gb,g8] at h;obtain ⟨k,j⟩:=kO h.1;obtain ⟨ks,hs⟩:=og h.2;exact ⟨k::ks, .cons j hs⟩
theorem oh {k:D} (h:da k=true):∃ q,RKeys k q:=by
 cases k <;> first | (simp [da] at h;done) | exact og (IX.mp h).1
theorem oi {ds:List D} (h:da (.tup ds)=true):fk ds=true:=(IX.mp h).2
noncomputable def RO (K:Frag) (H:Hp) (a:Addr):O->Prop
 | .lst ds => ∃ vs,H a=some (.lst vs)/\RDs K H ds vs
 | .dct false kvs => ∃ ps,H a=some (.dK ps)/\FG (fun (p:D×D) (q:Key×V)=>RKey p.1 q.1/\RD K H p.2 q.2) kvs ps
 | .dct true kvs => ∃ ps,H a=some (.dT ps)/\FG (fun (p:D×D) (q:List Key×V)=>RKeys p.1 q.1/\RD K H p.2 q.2) kvs ps
 | .fdc kvs => ∃ o ps,H a=some (.frz o (.dT ps))/\FG (fun (p:D×D) (q:List Key×V)=>RKeys p.1 q.1/\RD K H p.2 q.2) kvs ps
 | .dcn kvs => ∃ xs,H a=some (.ext (NDict a xs))/\FG (fun (p:NK×D) (q:NK×Addr×e7)=>p.1=q.1/\Kt H q.1 q.2.1 /\ ∃ v,RelV v q.2.2/\RD K H p.2 v) kvs xs
 | .fdn kvs => ∃ o xs,H a=some (.frz o (.ext (NDict a xs)))/\FG (fun (p:NK×D) (q:NK×Addr×e7)=>p.1=q.1/\Kt H q.1 q.2.1 /\ ∃ v,RelV v q.2.2/\RD K H p.2 v) kvs xs
def RM (K:Frag) (M:Mem) (H:Hp):Prop := ∀ a o,M a=some o->RO K H a o
def RS (K:Frag) (H:Hp) (σ:St) (ρ:am):Prop := σ.length = ρ.length /\ ∀ (i:Nat) (d:D), ρ[i]? = some (some d) -> ∃ v, σ[i]? = some (some v)/\RD K H d v
structure Ext (M:Mem) (H:Hp) (M':Mem) (H':Hp):Prop where
 kp:∀ a o,fz (M a)=true->H a=some o->H' a=some o
 nw:∀ a o,fz (M a)=true->H a=some o->M' a=M a
section
variable {K:Frag} {M M' M'':Mem} {H H' H'':Hp}
theorem Ext.keep (x:Ext M H M' H') (a:Addr) (o:HO) (n:M a=none) (e:H a=some o):H' a=some o:=x.kp a o (by rw [n];rfl) e
theorem Ext.new (x:Ext M H M' H') (a:Addr) (o:HO) (n:M a=none) (e:H a=some o):M' a=none:=(x.nw a o (by rw [n];rfl) e).trans n
theorem Ext.refl:Ext M H M H:=⟨fun _ _ _ h=>h,fun _ _ _ _=>rfl⟩
theorem Ext.trans (a:Ext M H M' H') (b:Ext M' H' M'' H''):Ext M H M'' H'' :=
 ⟨fun c o n h=>b.kp c o (by rw [a.nw c o n h];exact n) (a.kp c o n h),fun c o n h=>(b.nw c o (by rw [a.nw c o n h];exact n) (a.kp c o n h)).trans (a.nw c o n h)⟩
theorem RM.mut (r:RM K M H) {a:Addr} {o:O} (h:M a=some o):∃ ho,H a=some ho/\(∀ xs,ho ≠ .tup xs)/\(fz (some o)=false->Mut (some ho) /\ ∀ ob u,ho ≠ .frz ob u):=by
 have q:=r a o h
 cases o with
 | lst ds =>
   obtain ⟨vs,e,_⟩:=q;exact ⟨_,e,fun _ z=>(by cases z),fun _=>⟨trivial,fun _ _ z=>(by cases z)⟩⟩
 | dct t kvs =>
   cases t with
   | false=>obtain ⟨ps,e,_⟩:=q;exact ⟨_,e,fun _ z=>(by cases z),fun _=>⟨trivial,fun _ _ z=>(by cases z)⟩⟩
   | true=>obtain ⟨ps,e,_⟩:=q;exact ⟨_,e,fun _ z=>(by cases z),fun _=>⟨trivial,fun _ _ z=>(by cases z)⟩⟩
 | fdc kvs=>obtain ⟨ob,ps,e,_⟩:=q;exact ⟨_,e,fun _ z=>(by cases z),fun z=>(by cases z)⟩
 | fdn kvs=>obtain ⟨ob,ps,e,_⟩:=q;exact ⟨_,e,fun _ z=>(by cases z),fun z=>(by cases z)⟩
 | dcn kvs=>obtain ⟨xs,e,_⟩:=q;exact ⟨_,e,fun _ z=>(by cases z),fun _=>⟨trivial,fun _ _ z=>(by cases z)⟩⟩
theorem RM.fzT (r:RM K M H) {a:Addr} {xs:List V} (e:H a=some (.tup xs)):M a=none:=by
 cases q:M a with
 | none=>rfl
 | some o =>
   obtain ⟨ho,j,z,_⟩:=r.mut q;rw [e] at j;cases j;exact absurd rfl (z xs)
theorem RM.fzF (r:RM K M H) {a:Addr} {ob:Obj} {u:HO} (e:H a=some (.frz ob u)):fz (M a)=true:=by
 cases q:M a with
 | none=>rfl
 | some o =>
   obtain ⟨ho,j,_,B⟩:=r.mut q;rw [e] at j;cases j
   cases z:fz (some o) with
   | true=>rfl
   | false=>exact absurd rfl ((B z).2 ob u)
theorem RM.out (r:RM K M H) {a:Addr} (h:H a=none):M a=none:=by
 cases e:M a with
 | none=>rfl
 | some o =>
   obtain ⟨ho,q,_⟩:=r.mut e;rw [h] at q;cases q
theorem Ext.stab (r:RM K M H) (x:Ext M H M' H'):Stab H H' where
 tup:=fun a xs e=>x.keep a _ (r.fzT e) e
 frz:=fun a o u e=>x.kp a _ (r.fzF e) e
theorem RS.mono (st:Stab H H') {σ:St} {ρ:am} (h:RS K H σ ρ):RS K H' σ ρ :=
 ⟨h.1,fun i d e=>let ⟨v,q,r⟩:=h.2 i d e; ⟨v,q,r.mono st⟩⟩
theorem RS.set {σ:St} {ρ:am} (h:RS K H σ ρ) (i:Nat) {d:D} {v:V} (r:RD K H d v):RS K H (σ.set i (some v)) (ρ.set i (some d)):=by
 refine ⟨by simp [h.1],fun j e q => ?_⟩
 by_cases hij:i=j
 ·subst hij;have hi:i < ρ.length:=by
   have:=(o7.mp q).1;simpa using this
  rw [H8 hi] at q
  cases q
  exact ⟨v,by rw [H8 (by rw [h.1];exact hi)],r⟩
 ·rw [IS hij] at q ⊢;exact h.2 j e q
noncomputable def iX (fr:List (Option Nat)) (ρ:am):am:=fr.map fun o=>o.bind fun j=>(ρ[j]?).join
theorem RS.inh {σ:St} {ρ:am} (h:RS K H σ ρ) (fr:List (Option Nat)):RS K H (inh fr σ) (iX fr ρ):=by
 refine ⟨by simp [L2.inh,iX],fun i d e => ?_⟩
 unfold iX at e;unfold L2.inh;rw [Eo] at e ⊢
 cases q:fr[i]? with
 | none=>rw [q] at e;cases e
 | some o =>
   rw [q] at e
   cases o with
   | none=>cases e
   | some j =>
     have e':some ((ρ[j]?).join)=some (some d):=e
     cases q' : ρ[j]? with
     | none=>rw [q'] at e';cases e'
     | some w =>
       rw [q'] at e'
       cases e'
       obtain ⟨v,v1,v2⟩:=h.2 j d q';exact ⟨v,by simp [v1],v2⟩
theorem RO.mono (st:Stab H H') {a:Addr} {o:O} (h:RO K H a o) (e:∀ ho,H a=some ho->H' a=some ho):RO K H' a o:=by
 cases o with
 | lst ds=>obtain ⟨vs,q,r⟩:=h;exact ⟨vs,e _ q,r.mono st⟩
 | dct t kvs =>
   cases t with
   | false=>obtain ⟨ps,q,r⟩:=h;exact ⟨ps,e _ q,Ob r fun _ _ z=>⟨z.1,z.2.mono st⟩⟩
   | true=>obtain ⟨ps,q,r⟩:=h;exact ⟨ps,e _ q,Ob r fun _ _ z=>⟨z.1,z.2.mono st⟩⟩
 | fdc kvs=>obtain ⟨ob,ps,q,r⟩:=h;exact ⟨ob,ps,e _ q,Ob r fun _ _ z=>⟨z.1,z.2.mono st⟩⟩
 | fdn kvs=>obtain ⟨ob,xs,q,r⟩:=h;exact ⟨ob,xs,e _ q,Ob r fun _ _ ⟨j,B,v,F,G⟩=>⟨j,B.keeps st.tup,v,F,G.mono st⟩⟩
 | dcn kvs=>obtain ⟨xs,q,r⟩:=h;exact ⟨xs,e _ q,Ob r fun _ _ ⟨j,B,v,F,G⟩=>⟨j,B.keeps st.tup,v,F,G.mono st⟩⟩
theorem RM.new {p:Addr} {ho:HO} (r:RM K M H) (n:H p=none):RM K M (upd H p ho):=fun a o e=>by
 have ne:a≠p:=fun z=>by subst z;obtain ⟨_,q,_⟩:=r.mut e;rw [n] at q;cases q
 refine (r a o e).mono ⟨fun b xs q => ?_,fun b o u q => ?_⟩ fun j q=>by rw [ak ne];exact q
 ·rw [ak (aQ q n)];exact q
 ·rw [ak (aQ q n)];exact q
theorem Og {p:Addr} {ho:HO} (n:H p=none):Ext M H M (upd H p ho):=⟨fun a o _ e=>by rw [ak (aQ e n)];exact e,fun _ _ _ _=>rfl⟩
theorem RM.lay {p:Addr} {ho:HO} {o:O} (r:RM K M H) (n:H p=none) (h:RO K (upd H p ho) p o):RM K (af M p o) (upd H p ho):=fun a o' e=>by
 by_cases z:a=p
 ·subst z;rw [ad] at e;cases e;exact h
 ·rw [ah z] at e;exact r.new n a o' e
theorem Ext.lay {p:Addr} {ho:HO} {o:O} (n:H p=none):Ext M H (af M p o) (upd H p ho) :=
 ⟨fun a u _ e=>by rw [ak (aQ e n)];exact e,fun a u m e=>by rw [ah (aQ e n)]⟩
theorem RM.put {p:Addr} {ho:HO} {o o0:O} (r:RM K M H) (m:M p=some o0) (h:RO K (upd H p ho) p o) (w:fz (some o0)=false:=by rfl):RM K (af M p o) (upd H p ho):=fun a o' e=>by
 by_cases z:a=p
 ·subst z;rw [ad] at e;cases e;exact h
 ·rw [ah z] at e;obtain ⟨J,j,B,F⟩:=r.mut m;refine (r a o' e).mono ⟨fun b xs q => ?_,fun b o u q => ?_⟩ fun G q=>by rw [ak z];exact q
  ·rw [ak (fun z=>by subst z;rw [j] at q;cases q;exact B xs rfl)];exact q
  ·rw [ak (fun z=>by subst z;rw [j] at q;cases q;exact (F w).2 o u rfl)];exact q
theorem Ext.put {p:Addr} {ho:HO} {o o0:O} (m:M p=some o0) (w:fz (some o0)=false:=by rfl):Ext M H (af M p o) (upd H p ho) :=
 ⟨fun a u n e=>by rw [ak (fun z=>by subst z;rw [m,w] at n;cases n)];exact e,fun a u n e=>ah (fun z=>by subst z;rw [m,w] at n;cases n)⟩
theorem RM.stabPut {p:Addr} {ho:HO} {o0:O} (r:RM K M H) (m:M p=some o0) (w:fz (some o0)=false:=by rfl):Stab H (upd H p ho):=(Ext.put (o:=o0) (ho:=ho) m w).stab r
end
noncomputable abbrev QD:=D->Mem->Prop
noncomputable abbrev TEd:=am->Mem->QD->Prop
noncomputable abbrev TTd:=am->Mem->(Bool->Mem->Prop)->Prop
noncomputable abbrev TAd:=am->Mem->(List D->Mem->Prop)->Prop
structure bA where
 nx:am->Mem->Prop
 rt:QD
 bk:am->Mem->Prop:=fun _ _=>False
 ct:am->Mem->Prop:=fun _ _=>False
noncomputable abbrev TSd:=bA->am->Mem->Prop
def ab (T:TEd):Prop := ∀ ρ M Q Q',(∀ d M',Q d M'->Q' d M')->T ρ M Q->T ρ M Q'
def aB (T:TTd):Prop := ∀ ρ M Q Q',(∀ d M',Q d M'->Q' d M')->T ρ M Q->T ρ M Q'
def b7 (T:TAd):Prop := ∀ ρ M Q Q',(∀ d M',Q d M'->Q' d M')->T ρ M Q->T ρ M Q'
structure LeD (a b:bA):Prop where
 nx:∀ ρ M,a.nx ρ M->b.nx ρ M
 rt:∀ d M,a.rt d M->b.rt d M
 bk:∀ ρ M,a.bk ρ M->b.bk ρ M
 ct:∀ ρ M,a.ct ρ M->b.ct ρ M
def ax (T:TSd):Prop := ∀ a b ρ M,LeD a b->T a ρ M->T b ρ M
noncomputable def KE' (K:Frag) (M:Mem) (H:Hp) (Q:VK):QD:=fun d M' => ∀ v H',Ext M H M' H'->RM K M' H'->RD K H' d v->Q v H'
noncomputable def KT' (K:Frag) (M:Mem) (H:Hp) (Q:Bool->Hp->Prop):Bool->Mem->Prop:=fun b M' => ∀ H',Ext M H M' H'->RM K M' H'->Q b H'
noncomputable def KA' (K:Frag) (M:Mem) (H:Hp) (Q:List V->Hp->Prop):List D->Mem->Prop:=fun ds M' => ∀ vs H',Ext M H M' H'->RM K M' H'->RDs K H' ds vs->Q vs H'
noncomputable def lE (K:Frag) (T:TEd):TE:=fun σ H Q => ∃ ρ M,RS K H σ ρ /\ RM K M H/\T ρ M (KE' K M H Q)
noncomputable def lT (K:Frag) (T:TTd):TT:=fun σ H Q => ∃ ρ M,RS K H σ ρ /\ RM K M H/\T ρ M (KT' K M H Q)
noncomputable def lA (K:Frag) (T:TAd):TA:=fun σ H Q => ∃ ρ M,RS K H σ ρ /\ RM K M H/\T ρ M (KA' K M H Q)
structure Link (K:Frag) (M:Mem) (H:Hp) (a:bA) (b:bd):Prop where
 nx:∀ ρ M' σ H',Ext M H M' H'->RS K H' σ ρ -> RM K M' H'->a.nx ρ M'->b.nx σ H'
 rt:∀ d M' v H',Ext M H M' H'->RM K M' H'->RD K H' d v->a.rt d M'->b.rt v H'
 bk:∀ ρ M' σ H',Ext M H M' H'->RS K H' σ ρ -> RM K M' H'->a.bk ρ M'->b.bk σ H'
 ct:∀ ρ M' σ H',Ext M H M' H'->RS K H' σ ρ -> RM K M' H'->a.ct ρ M'->b.ct σ H'
noncomputable def lS (K:Frag) (T:TSd):TS:=fun D σ H => ∃ ρ M A,RS K H σ ρ /\ RM K M H/\Link K M H A D/\T A ρ M
theorem Link.ext {K:Frag} {M M':Mem} {H H':Hp} {a:bA} {b:bd} (l:Link K M H a b) (x:Ext M H M' H'):Link K M' H' a b :=
 ⟨fun ρ M2 σ H2 y=>l.nx ρ M2 σ H2 (x.trans y),fun d M2 v H2 y=>l.rt d M2 v H2 (x.trans y),fun ρ M2 σ H2 y=>l.bk ρ M2 σ H2 (x.trans y),fun ρ M2 σ H2 y=>l.ct ρ M2 σ H2 (x.trans y)⟩
theorem PE.imp {X:Cx} {e:Expr} {t t':TE} (h:PE X e t) (i:∀ σ H Q,t' σ H Q->t σ H Q):PE X e t':=fun pins s σ H Q I q=>h pins s σ H Q I (i _ _ _ q)
theorem PT.imp {X:Cx} {e:Expr} {t t':TT} (h:PT X e t) (i:∀ σ H Q,t' σ H Q->t σ H Q):PT X e t':=fun pins s σ H Q I q=>h pins s σ H Q I (i _ _ _ q)
theorem PW.imp {X:Cx} {e:Expr} {t t':TT} (h:PW X e t) (i:∀ σ H Q,t' σ H Q->t σ H Q):PW X e t':=fun wh pins s σ H Q I q=>h wh pins s σ H Q I (i _ _ _ q)
theorem PA.imp {X:Cx} {e:List Expr} {t t':TA} (h:PA X e t) (i:∀ σ H Q,t' σ H Q->t σ H Q):PA X e t':=fun p pins s σ H Q I q=>h p pins s σ H Q I (i _ _ _ q)
theorem PS.imp {X:Cx} {e:Stmt} {t t':TS} (h:PS X e t) (i:∀ D σ H,t' D σ H->t D σ H):PS X e t':=fun pins s σ H D I q=>h pins s σ H D I (i _ _ _ q)
theorem PSs.imp {X:Cx} {e:List Stmt} {t t':TS} (h:PSs X e t) (i:∀ D σ H,t' D σ H->t D σ H):PSs X e t':=fun pins s σ H D I q=>h pins s σ H D I (i _ _ _ q)
end
section
theorem KE'.ext {K:Frag} {M M2 M':Mem} {H H2:Hp} {Q:VK} {d:D} (x:Ext M H M2 H2) (h:KE' K M H Q d M'):KE' K M2 H2 Q d M':=fun v H' y=>h v H' (x.trans y)
theorem KT'.ext {K:Frag} {M M2 M':Mem} {H H2:Hp} {Q:Bool->Hp->Prop} {d:Bool} (x:Ext M H M2 H2) (h:KT' K M H Q d M'):KT' K M2 H2 Q d M':=fun H' y=>h H' (x.trans y)
noncomputable abbrev R2d:=D->D->Mem->QD->Prop
noncomputable abbrev R1d:=D->Mem->QD->Prop
noncomputable abbrev RAd:=List D->Mem->QD->Prop
def aJ (r:R2d):Prop := ∀ x y M Q Q',(∀ d M',Q d M'->Q' d M')->r x y M Q->r x y M Q'
def pK (r:R1d):Prop := ∀ x M Q Q',(∀ d M',Q d M'->Q' d M')->r x M Q->r x M Q'
def aR (r:RAd):Prop := ∀ x M Q Q',(∀ d M',Q d M'->Q' d M')->r x M Q->r x M Q'
noncomputable def l2 (K:Frag) (rd:R2d):R2:=fun v u H Q => ∃ x y M,RM K M H/\RD K H x v/\RD K H y u/\rd x y M (KE' K M H Q)
noncomputable def l1 (K:Frag) (rd:R1d):V->Hp->VK->Prop:=fun v H Q => ∃ x M,RM K M H/\RD K H x v/\rd x M (KE' K M H Q)
noncomputable def lR (K:Frag) (rd:RAd):List V->Hp->VK->Prop:=fun vs H Q => ∃ ds M,RM K M H/\RDs K H ds vs/\rd ds M (KE' K M H Q)
noncomputable def lMt (K:Frag) (rd:D->List D->Mem->QD->Prop):V->List V->Hp->VK->Prop:=fun v vs H Q => ∃ x ds M,RM K M H/\RD K H x v/\RDs K H ds vs/\rd x ds M (KE' K M H Q)
noncomputable def bI (i:Nat):TEd:=fun ρ M Q => ∃ d, ρ[i]? = some (some d)/\Q d M
noncomputable def wC (d:D):TEd:=fun _ M Q=>Q d M
noncomputable def wOp (rd:R2d) (ta tb:TEd):TEd:=fun ρ M Q=>ta ρ M fun x M1=>tb ρ M1 fun y M2=>rd x y M2 Q
noncomputable def wUn (rd:R1d) (ta:TEd):TEd:=fun ρ M Q=>ta ρ M fun x M1=>rd x M1 Q
noncomputable def bm:TAd:=fun _ M Q=>Q [] M
noncomputable def aF (ta:TEd) (tr:TAd):TAd:=fun ρ M Q=>ta ρ M fun x M1=>tr ρ M1 fun xs M2=>Q (x::xs) M2
noncomputable def wAr (rd:RAd) (t:TAd):TEd:=fun ρ M Q=>t ρ M fun ds M1=>rd ds M1 Q
theorem ur {i:Nat}:ab (bI i):=fun _ _ _ _ h ⟨d,e,q⟩=>⟨d,e,h _ _ q⟩
theorem kP {d:D}:ab (wC d):=fun _ _ _ _ h q=>h _ _ q
theorem cR {rd:R2d} {ta tb:TEd} (j:aJ rd) (z:ab ta) (B:ab tb):ab (wOp rd ta tb):=fun ρ M Q Q' h q =>
 z _ _ _ _ (fun x J F=>B _ _ _ _ (fun y M2 G=>j _ _ _ _ _ h G) F) q
theorem xj {rd:R1d} {ta:TEd} (j:pK rd) (z:ab ta):ab (wUn rd ta):=fun ρ M Q Q' h q=>z _ _ _ _ (fun x F B=>j _ _ _ _ h B) q
theorem aD:b7 bm:=fun _ _ _ _ h q=>h _ _ q
theorem aE {ta:TEd} {tr:TAd} (j:ab ta) (z:b7 tr):b7 (aF ta tr):=fun ρ M Q Q' h q =>
 j _ _ _ _ (fun x G B=>z _ _ _ _ (fun xs M2 F=>h _ _ F) B) q
theorem eY {rd:RAd} {t:TAd} (j:aR rd) (z:b7 t):ab (wAr rd t):=fun ρ M Q Q' h q=>z _ _ _ _ (fun ds F B=>j _ _ _ _ h B) q
section
variable {X:Cx} {a b:Expr} {ta tb:TEd} {pos:Pos}
theorem zC {i:Nat} {x:Str} (B:X.N[i]? = some x) (j:Vis X.env.scope x) (hd:(x==("__debug__":Str))=false) (z:(x==("__classdict__":Str))=false):PE X (.Name x pos) (lE X.K (bI i)):=by
 refine PE.imp (yT B j hd z) fun σ H Q h => ?_;obtain ⟨ρ,M,rs,rm,d,e,q⟩:=h;obtain ⟨v,j,rd⟩:=rs.2 i d e;exact ⟨v,j,q v H Ext.refl rm rd⟩
theorem zD {i:Int} {j:Nat}:PE X (.Constant (.int i) j pos) (lE X.K (wC (.int i))) :=
 PE.imp yU fun σ H Q ⟨ρ,M,rs,rm,q⟩=>q _ H Ext.refl rm (O7.mpr rfl)
theorem AY {i:Bool} {j:Nat}:PE X (.Constant (.bool i) j pos) (lE X.K (wC (.bl i))) :=
 PE.imp Az fun σ H Q ⟨ρ,M,rs,rm,q⟩=>q _ H Ext.refl rm (O9.mpr rfl)
theorem zE {j:Nat}:PE X (.Constant .none j pos) (lE X.K (wC .non)) :=
 PE.imp yV fun σ H Q ⟨ρ,M,rs,rm,q⟩=>q _ H Ext.refl rm (Oe.mpr rfl)
theorem eZ {K:Frag} {rd:R2d} (L:aJ rd) (ma:ab ta) (mb:ab tb) (σ:St) (H:Hp) (Q:VK) (h:lE K (wOp rd ta tb) σ H Q):tOp (l2 K rd) (lE K ta) (lE K tb) σ H Q:=by
 obtain ⟨ρ,M,rs,rm,q⟩:=h;refine ⟨ρ,M,rs,rm,ma _ _ _ _ (fun x O U v H1 G j z => ?_) q⟩;refine ⟨ρ,O,rs.mono (G.stab rm),j,mb _ _ _ _ (fun y M2 Y u H2 J B F => ?_) U⟩;exact ⟨x,y,M2,B,z.mono (J.stab j),F,L _ _ _ _ _ (fun d M' k=>k.ext (G.trans J)) Y⟩
theorem AZ {op:LY} {rd:R2d} (ho:OpR X (FP op) (l2 X.K rd)) (j:aJ rd) (ma:ab ta) (mb:ab tb) (q:PE X a (lE X.K ta)) (z:PE X b (lE X.K tb)):PE X (.BinOp a op b pos) (lE X.K (wOp rd ta tb)) :=
 PE.imp (AH ho q z) (eZ j ma mb)
theorem zF {op:CmpOp} {rd:R2d} (ho:OpR X (Ft op) (l2 X.K rd)) (j:aJ rd) (ma:ab ta) (mb:ab tb) (q:PE X a (lE X.K ta)) (z:PE X b (lE X.K tb)) (hm:HG op b=false) :
 PE X (.Compare a [op] [b] pos) (lE X.K (wOp rd ta tb)):=PE.imp (wV ho q z hm) (eZ j ma mb)
noncomputable def dY (t:TEd):TTd:=fun ρ M Q=>t ρ M fun x M1 => ∃ k,x = .bl k/\Q k M1
theorem uu {t:TEd} (h:ab t):aB (dY t):=fun ρ M Q Q' i q=>h _ _ _ _ (fun x z ⟨k,e,j⟩=>⟨k,e,i _ _ j⟩) q
theorem uv {K:Frag} {t:TEd} (m:ab t) (σ:St) (H:Hp) (Q:Bool->Hp->Prop) (h:lT K (dY t) σ H Q):w9 (lE K t) σ H Q:=by
 obtain ⟨ρ,M,rs,rm,q⟩:=h;refine ⟨ρ,M,rs,rm,m _ _ _ _ (fun x G ⟨k,e,B⟩ v H1 F j z => ?_) q⟩;subst e;exact ⟨k,O9.mp z,B H1 F j⟩
theorem zG {op:CmpOp} {rd:R2d} (ho:OpR X (Ft op) (l2 X.K rd)) (j:aJ rd) (ma:ab ta) (mb:ab tb) (q:PE X a (lE X.K ta)) (z:PE X b (lE X.K tb)) (hm:HG op b=false) :
 PT X (.Compare a [op] [b] pos) (lT X.K (dY (wOp rd ta tb))) :=
 PT.imp (wW ho q z hm) fun σ H Q h=>by
  have h1:=uv (cR j ma mb) σ H Q h;exact eZ j ma mb σ H _ h1
theorem B0 {op:UnaryOp} {rd:R1d} (ho:UnR X (unaryOp op) (l1 X.K rd)) (B:pK rd) (ma:ab ta) (F:PE X a (lE X.K ta)):PE X (.UnaryOp op a pos) (lE X.K (wUn rd ta)) :=
 PE.imp (AI ho F) fun σ H Q ⟨ρ,M,rs,rm,q⟩=>⟨ρ,M,rs,rm,ma _ _ _ _ (fun x G J v H1 L j z=>⟨x,G,j,z,B _ _ _ _ (fun d M' k=>k.ext L) J⟩) q⟩
theorem wl {rd:R2d} (ho:IxR X (l2 X.K rd)) (j:aJ rd) (ma:ab ta) (mb:ab tb) (q:PE X a (lE X.K ta)) (z:PE X b (lE X.K tb)) (hs:iV b):PE X (.Subscript a b pos) (lE X.K (wOp rd ta tb)) :=
 PE.imp (AO ho q z hs) (eZ j ma mb)
theorem db:PA X [] (lA X.K bm):=PA.imp gU fun σ H Q ⟨ρ,M,rs,rm,q⟩=>q _ H Ext.refl rm RDs.nil
theorem rp {K:Frag} {tr:TAd} (ma:ab ta) (mr:b7 tr) (σ:St) (H:Hp) (Q:List V->Hp->Prop) (h:lA K (aF ta tr) σ H Q):wa (lE K ta) (lA K tr) σ H Q:=by
 obtain ⟨ρ,M,rs,rm,q⟩:=h;refine ⟨ρ,M,rs,rm,ma _ _ _ _ (fun x L O v H1 G j z => ?_) q⟩;refine ⟨ρ,L,rs.mono (G.stab rm),j,mr _ _ _ _ (fun xs M2 U vs H2 J B F => ?_) O⟩;exact U (v::vs) H2 (G.trans J) B (RDs.cons (z.mono (J.stab j)) F)
theorem bB {e:Expr} {es:List Expr} {tr:TAd} (ma:ab ta) (mr:b7 tr) (j:PE X e (lE X.K ta)) (q:PA X es (lA X.K tr)) (hs:Et (e::es) X.env=(false,eval e X.env)::Et es X.env) :
 PA X (e::es) (lA X.K (aF ta tr)):=PA.imp (cg j q hs) (rp ma mr)
theorem bj {K:Frag} {rd:RAd} {t:TAd} (B:aR rd) (mt:b7 t) (σ:St) (H:Hp) (Q:VK) (h:lE K (wAr rd t) σ H Q):tCB (lR K rd) (lA K t) σ H Q:=by
 obtain ⟨ρ,M,rs,rm,q⟩:=h;exact ⟨ρ,M,rs,rm,mt _ _ _ _ (fun ds F G vs H1 J j z=>⟨ds,F,j,z,B _ _ _ _ (fun d M' k=>k.ext J) G⟩) q⟩
noncomputable def kQ:RAd:=fun ds M Q=>ds.length<=D0/\Q (.tup ds) M
noncomputable def iY:RAd:=fun ds M Q=>ds.length<=D0 /\ ∀ p,M p=none->Q (.ref p) (af M p (.lst ds))
theorem rq:aR kQ:=fun _ _ _ _ h ⟨z,q⟩=>⟨z,h _ _ q⟩
theorem rA:aR iY:=fun _ _ _ _ h ⟨z,q⟩=>⟨z,fun p n=>h _ _ (q p n)⟩
theorem cS {K:Frag} {M:Mem} {H:Hp} {Q:VK} {ds:List D} {vs:List V} {p:Addr} (rm:RM K M H) (rd:RDs K H ds vs) (q:KE' K M H Q (.tup ds) M) (n:H p=none):Q (.ref p) (upd H p (.tup vs)):=by
 have x:Ext M H M (upd H p (.tup vs)):=Og n;exact q (.ref p) _ x (rm.new n) (Oh ⟨p,vs,rfl,ar,rd.mono (x.stab rm)⟩)
theorem bQ {K:Frag} {M:Mem} {H:Hp} {Q:VK} {ds:List D} {vs:List V} {p:Addr} (rm:RM K M H) (rd:RDs K H ds vs) (q:∀ p,M p=none->KE' K M H Q (.ref p) (af M p (.lst ds))) (n:H p=none):Q (.ref p) (upd H p (.lst vs)):=by
 have x:Ext M H (af M p (.lst ds)) (upd H p (.lst vs)):=Ext.lay n;have x0:Ext M H M (upd H p (.lst vs)):=Og n;exact q p (rm.out n) (.ref p) _ x (rm.lay n ⟨vs,ar,rd.mono (x0.stab rm)⟩) (O8.mpr rfl)
theorem zH {es:List Expr} {t:TAd} {k:Nat} (mt:b7 t) (h:PA X es (lA X.K t)):PE X (.Tuple es k pos) (lE X.K (wAr kQ t)) :=
 PE.imp (qY h) fun σ H Q ⟨ρ,M,rs,rm,q⟩=>⟨ρ,M,rs,rm,mt _ _ _ _ (fun ds J ⟨z,F⟩ vs H1 G B j=>⟨by rw [j.length];exact z,fun p n=>cS B j (F.ext G) n⟩) q⟩
theorem zI {es:List Expr} {t:TAd} (mt:b7 t) (h:PA X es (lA X.K t)):PE X (.List es pos) (lE X.K (wAr iY t)) :=
 PE.imp (zu h) fun σ H Q ⟨ρ,M,rs,rm,q⟩=>⟨ρ,M,rs,rm,mt _ _ _ _ (fun ds J ⟨z,F⟩ vs H1 G B j=>⟨by rw [j.length];exact z,fun p n=>bQ B j (fun p' n'=>(F p' n').ext G) n⟩) q⟩
end
end
end Mi
end L2
namespace L2
open PySem PySem.Spec PyProof.Rows
namespace Mi
end Mi
end L2
namespace L2
open PySem PySem.Spec PyProof.Rows
section
theorem gf:fillsNumberSlot (.type "tuple") "mul" = pure false :=
 PyProof.Rows.fillsNumberSlot_seq (id := "tuple.__mul__") (r:=some (.builtin "tuple.__rmul__")) F.slot_tuple_mul.lookup (by decide +kernel) F.slot_tuple_rmul.lookup (by decide +kernel)
theorem kR:seqRepeat? (.type "tuple")=pure (some (.builtin "tuple.__mul__")):=by
 unfold seqRepeat?;rw [K5 (T := "tuple") (name := "__mul__") (id := "tuple.__mul__") F.slot_tuple_mul.lookup (by decide +kernel),K5 (T := "tuple") (name := "__rmul__") (id := "tuple.__rmul__") F.slot_tuple_rmul.lookup (by decide +kernel)]
 rfl
theorem iZ (a:Int) (t:Tok) (l:Addr) (items:Array e7) (n:Nat) (d:Option Addr) (sl:Array (Option e7)) :
 Meets (GI.«int.__rmul__» ⟨[.int a t, .ref l],[]⟩) (fun _ R s=>s.heap.get? l=some { cls := .type "tuple",dict:=d,data := .seq items n,slots:=sl }/\R (.ok (.ret KO)) s) :=
 .of_wp fun prog w A R s h=>by obtain ⟨j,g,d,tk,os⟩:=s;obtain ⟨q,h⟩:=h;wp_walk;exact ⟨_,rfl,h⟩
open AutoSeq1 (wpAny_loadPart') in
theorem rB (l:Addr) (items:Array e7) (n:Nat) (dd:Option Addr) (sl:Array (Option e7)) (x:Int) (u:Tok) (h1 : -(2 ^ 63)<=x) (h2:x < 2 ^ 63) (hz:items.size*x.toNat<=D0) :
 Meets (GI.«tuple.__mul__» ⟨[.ref l, .int x u],[]⟩) (fun _ R s=>s.heap.get? l=some { cls := .type "tuple",dict:=dd,data := .seq items n,slots:=sl } /\
  (if items.isEmpty || x==1 then R (.ok (.ret (.ref l))) s else R (.ok (.ret (.ref s.heap.objs.size))) { s with heap:=s.heap.push { cls := .type "tuple",data := .seq ((Em x.toNat items).foldl (· ++ ·) #[]) } })) :=
 .of_wp fun prog w A R s h=>by
  obtain ⟨O,g,d,tk,os⟩:=s;obtain ⟨q,h⟩:=h;have f1:=AutoSeq1.idx_int;have B:(decide (x < -(2 ^ 63)) || decide (x≥2 ^ 63))=false:=by
   rw [decide_eq_false (by lia),decide_eq_false (by lia)];rfl
  wp_walk using Gm q
  refine J6 (decide_eq_false (by rw [B];decide)) ?_
  dsimp only
  by_cases j:(items.isEmpty || x==1)=true
  ·rw [if_pos j] at h
   wp_walk using Gm q
   exact ⟨_,rfl,h⟩
  ·rw [if_neg j] at h
   wp_walk using Gm q
   simp only [Kz,not_or] at j
   by_cases e2:x<=0
   ·have z:(decide (x<=0) || items.isEmpty)=true:=by rw [decide_eq_true e2];rfl
    rw [if_pos z];have F:x.toNat=0:=by lia
    rw [F] at h
    wp_walk
    exact ⟨_,rfl,h⟩
   ·have z : ¬ (decide (x<=0) || items.isEmpty)=true:=by simp;exact ⟨by lia,by simpa using j.1⟩
    rw [if_neg z];have hx:((items.size:Nat):Int)*x=((items.size*x.toNat:Nat):Int):=by
     rw [Nv,Int.toNat_of_nonneg (by lia)]
    have hs:D0=16777216:=tv;have G : ¬ ((items.size:Nat):Int)*x > (2 ^ 63 - 1) / 8:=by rw [hx];lia
    rw [if_neg G];have J : ¬ JA (((items.size:Nat):Int)*x)=true:=by
     rw [hx];unfold JA;intro L;have U:=of_decide_eq_true L;lia
    rw [if_neg J]
    wp_walk
    have hsz:((Em x.toNat items).foldl (· ++ ·) #[]).size<=D0:=by
     have:∀ (k:Nat) (a:Array e7),((Em k items).foldl (· ++ ·) a).size=a.size+items.size*k:=by
      intro k;induction k with
      | zero=>intro a;simp
      | succ k ih=>intro a;rw [Fp,Ku,ih,Ho,Nat.mul_succ];lia
     rw [this];simpa using hz
    refine J6 (decide_eq_false (NN.mpr hsz)) ?_
    wp_walk
    exact ⟨_,rfl,h⟩
end
section
section
variable {X:Cx}
noncomputable def wm (K:Frag):R2:=fun x y H Q => ∃ l k xs,x = .ref l/\y = .int k/\SqT K H l xs /\ -(2 ^ 63)<=k/\k < 2 ^ 63/\xs.length*k.toNat<=D0 /\
 ((xs=[]∨k=1)->Q (.ref l) H)/\(¬ (xs=[]∨k=1) -> ∀ p,H p=none->Q (.ref p) (upd H p (.tup (Em k.toNat xs).flatten)))
theorem xk:OpR X (FP .Mult) (wm X.K):=by
 intro pins s σ H x y v u Q I rx ry h;obtain ⟨l,k,xs,rfl,rfl,B,h1,h2,hz,G,J⟩:=h
 cases rx
 obtain ⟨t,rfl⟩:=ry;obtain ⟨its,r,L,_⟩:=I.tuple B;have O:=r.length;obtain ⟨⟨cls,dd,dat,sl⟩,e,j,n,hd⟩:=L;dsimp only at j hd;subst j hd;have hlen:its.toArray.size*k.toNat<=D0:=by rw [E9, <- O];exact hz
 have f0:∀ m:Nat,IB (fun Y Z=>Y++Z) #[] (Em m its.toArray)=(Em m its).flatten.toArray:=fun m=>by
  have:=eB its m [];rw [Kv] at this;exact this
 refine JG (T := "tuple") (U := "int") (by decide) ⟨_,e,rfl⟩ (fun s'=>Kh s' k t) gf Nt J1 kR F.slot_int_index.lookup
  (Kj J1 (Kh s k t) MP (Mj _ _) (iZ k t l its.toArray n dd sl)
    ⟨e,rfl,⟨_,e,rfl⟩,Kj F.slot_tuple_mul ⟨_,e,rfl⟩ F.entry_tuple_mul (F.args_tuple_mul_2 _ _) (rB l its.toArray n dd sl k t h1 h2 hlen) ⟨e, ?_⟩⟩)
 have hi:(its.toArray.isEmpty || k==1)=true↔(xs=[]∨k=1):=by
  rw [<- r.nil_iff];simp
 split
 ·next c=>exact ⟨.ref l,H,I,rfl,G (hi.mp c)⟩
 ·next c =>
  rw [f0];refine ⟨.ref s.heap.objs.size,_,I.laid (t':=s.toks) (o := .tup (Em k.toNat xs).flatten) (fun b ob q=>g0 _ q) (Ec _) ?_,rfl,J (fun z=>c (hi.mpr z)) _ (I.hok.fresh (Ec _))⟩;exact ⟨by rw [o9,Nat.mul_comm];exact hz,_,r.rep k.toNat,Iy _ _⟩
end
end
section
section
variable {X:Cx}
theorem xm:OpR X (FP .Add) (fun x y H Q => ∃ a b ys,x = .ref a/\y = .ref b/\SqT X.K H a []/\SqT X.K H b ys/\Q (.ref b) H):=by
 intro pins s σ H x y v u Q I rx ry h;obtain ⟨a,b,ys,rfl,rfl,U,Y,q⟩:=h
 cases rx
 cases ry
 obtain ⟨its,Z,p1,_⟩:=I.tuple U;obtain ⟨j,r2,p2,_⟩:=I.tuple Y;have e0:its=[]:=Z.nil_iff.mpr rfl;obtain ⟨⟨cls,dd,data,sl⟩,ho,L,n,hd⟩:=id p1;obtain ⟨⟨O,G,data2,J⟩,z,B,n2,hd2⟩:=id p2;simp only at L hd B hd2;subst L hd B hd2;exact Md ⟨_,ho,rfl⟩ ⟨_,z,rfl⟩ JZ Lr Ih I9 (HI _ _)
  (tuple_addW0 a b its.toArray j.toArray n n2 dd G sl J (by simp [e0])) ⟨ho,z,⟨.ref b,H,I,rfl,q⟩⟩
end
end
end L2
namespace L2
namespace Mi
open PySem PySem.Spec PyProof.Rows
section
def MulOk (i j:Int):Prop:=(-(2 ^ 64) < i/\i < 2 ^ 64)∨(-(2 ^ 64) < j/\j < 2 ^ 64)∨(Ll i<=2 ^ 20/\Ll j<=2 ^ 20)
theorem MulOk.ok {i j:Int} (h:MulOk i j):IntMulOk i j:=by
 rcases h with h | h | h
 ·exact IntMulOk.of_left (intBits_le_64 h.1 h.2)
 ·exact IntMulOk.of_right (intBits_le_64 h.1 h.2)
 ·exact IntMulOk.of_bits h.1 h.2
noncomputable def gh:R2d
 | .int i, .int j,M,Q=>Q (.int (i+j)) M
 | .tup a, .tup b,M,Q=>(a≠[]∨True)/\a.length+b.length<=D0/\Q (.tup (a++b)) M
 | .ref a, .ref b,M,Q => ∃ xs ys,M a=some (.lst xs)/\M b=some (.lst ys)/\xs.length+ys.length<=D0 /\ ∀ p,M p=none->Q (.ref p) (af M p (.lst (xs++ys)))
 | .str x, .str y,M,Q=>x.length+y.length<=D0/\Q (.str (x++y)) M
 | _,_,_,_=>False
noncomputable def pM:R2d
 | .int i, .int j,M,Q=>Q (.int (i - j)) M
 | _,_,_,_=>False
noncomputable def j0:R2d
 | .int i, .int j,M,Q=>MulOk i j/\Q (.int (i*j)) M
 | .ref a, .int k,M,Q => ∃ xs,M a=some (.lst xs) /\ -(2 ^ 63)<=k/\k < 2 ^ 63/\xs.length*k.toNat<=D0 /\ ∀ p,M p=none->Q (.ref p) (af M p (.lst (Em k.toNat xs).flatten))
 | .tup ds, .int k,M,Q => -(2 ^ 63)<=k/\k < 2 ^ 63/\ds.length*k.toNat<=D0/\Q (.tup (Em k.toNat ds).flatten) M
 | _,_,_,_=>False
noncomputable def kh:R2d
 | .int i, .int j,M,Q => 0 < j/\j < 2 ^ 256/\Q (.int (i / j)) M
 | _,_,_,_=>False
noncomputable def pN:R2d
 | .int i, .int j,M,Q => 0 < j/\Q (.int (i % j)) M
 | _,_,_,_=>False
noncomputable def pO:R2d
 | .int i, .int j,M,Q => 0<=j/\j<=1000000/\i.natAbs < 2 ^ 64/\Q (.int (i ^ j.toNat)) M
 | _,_,_,_=>False
theorem uz:aJ gh:=by
 intro x y M Q Q' h q
 cases x <;> cases y <;> first
  | exact q.elim
  | exact h _ _ q
  | exact ⟨q.1,h _ _ q.2⟩
  | exact ⟨q.1,q.2.1,h _ _ q.2.2⟩
  | (obtain ⟨xs,ys,j,B,z,q⟩:=q;exact ⟨xs,ys,j,B,z,fun p n=>h _ _ (q p n)⟩)
theorem uA:aJ pM:=by
 intro x y M Q Q' h q
 cases x <;> cases y <;> first | exact q.elim | exact h _ _ q
theorem uB:aJ j0:=by
 intro x y M Q Q' h q
 cases x <;> cases y <;> first
  | exact q.elim
  | exact ⟨q.1,h _ _ q.2⟩
  | exact ⟨q.1,q.2.1,q.2.2.1,h _ _ q.2.2.2⟩
  | (obtain ⟨xs,j,z,B,F,q⟩:=q;exact ⟨xs,j,z,B,F,fun p n=>h _ _ (q p n)⟩)
theorem rC:aJ kh:=by
 intro x y M Q Q' h q
 cases x <;> cases y <;> first | exact q.elim | exact ⟨q.1,q.2.1,h _ _ q.2.2⟩
theorem uC:aJ pN:=by
 intro x y M Q Q' h q
 cases x <;> cases y <;> first | exact q.elim | exact ⟨q.1,h _ _ q.2⟩
theorem uD:aJ pO:=by
 intro x y M Q Q' h q
 cases x <;> cases y <;> first | exact q.elim | exact ⟨q.1,q.2.1,q.2.2.1,h _ _ q.2.2.2⟩
section
variable {X:Cx}
theorem OpR.of {f:e7->e7->Sem e7} {r r':R2} (h:OpR X f r) (i:∀ v u H Q,r' v u H Q->r v u H Q):OpR X f r':=fun pins s σ H x y v u Q I rx ry q=>h pins s σ H x y v u Q I rx ry (i _ _ _ _ q)
theorem IxR.of {r r':R2} (h:IxR X r) (i:∀ v u H Q,r' v u H Q->r v u H Q):IxR X r':=fun a b pins s σ H x y v u Q I rx ry q=>h a b pins s σ H x y v u Q I rx ry (i _ _ _ _ q)
theorem CallR.of {f:e7} {r r':List V->Hp->VK->Prop} (h:CallR X f r) (i:∀ vs H Q,r' vs H Q->r vs H Q):CallR X f r':=fun pins s σ H xs us Q I rx q=>h pins s σ H xs us Q I rx (i _ _ _ q)
theorem B1 {K:Frag} {M:Mem} {H:Hp} {Q:VK} {a b:List D} {v u:V} (rm:RM K M H) (rx:RD K H (.tup a) v) (ry:RD K H (.tup b) u) (q:gh (.tup a) (.tup b) M (KE' K M H Q)):wc K v u H Q ∨ ∃ a b ys,v = .ref a/\u = .ref b/\SqT K H a []/\SqT K H b ys/\Q (.ref b) H:=by
 obtain ⟨a',vs,rfl,z,j⟩:=Od rx;obtain ⟨b',us,rfl,B,F⟩:=Od ry;obtain ⟨_,J,q⟩:=q;have l1:=j.length;have l2:=F.length
 by_cases G:a=[]
 ·subst G;have:vs=[]:=RDs.nil_iff.mp j;subst this;exact .inr ⟨a',b',us,rfl,rfl,z,B,q _ H Ext.refl rm ry⟩
 refine .inl ⟨a',b',vs,us,rfl,rfl,z,B,fun e=>G (EL.mp (by rw [<- l1,e];rfl)),by lia,fun e => ?_,fun _ p n=>cS rm (j.append F) q n⟩
 have eb:b=[]:=EL.mp (by rw [<- l2,e];rfl)
 subst eb;rw [F8] at q;exact q _ H Ext.refl rm rx
theorem uE:OpR X (FP .Add) (l2 X.K gh):=by
 refine OpR.of (op_add.or ((op_catT.or xm).or (op_cat.or p9))) fun v u H Q h => ?_;obtain ⟨x,y,M,rm,rx,ry,q⟩:=h
 cases x <;> cases y <;> first
  | exact q.elim
  | (cases O7.mp rx;cases O7.mp ry;exact .inl ⟨_,_,rfl,rfl,q _ H Ext.refl rm (O7.mpr rfl)⟩)
  | exact .inr (.inl (B1 rm rx ry q))
  | (cases O8.mp rx;cases O8.mp ry
     obtain ⟨xs,ys,F,G,z,q⟩:=q;obtain ⟨vs,h1,j⟩:=rm _ _ F;obtain ⟨us,h2,B⟩:=rm _ _ G;have l1:=j.length;have l2:=B.length;refine .inr (.inr (.inl ⟨_,_,vs,us,rfl,rfl,h1,h2,by lia,fun p n=>bQ rm (j.append B) q n⟩)))
  | (cases Of.mp rx;cases Of.mp ry;exact .inr (.inr (.inr ⟨_,_,rfl,rfl,q.1,q.2 _ H Ext.refl rm (Of.mpr rfl)⟩)))
theorem uF:OpR X (FP .Sub) (l2 X.K pM):=by
 refine OpR.of zn fun v u H Q h => ?_;obtain ⟨x,y,M,rm,rx,ry,q⟩:=h
 cases x <;> cases y <;> first
  | exact q.elim
  | (cases O7.mp rx;cases O7.mp ry;exact ⟨_,_,rfl,rfl,q _ H Ext.refl rm (O7.mpr rfl)⟩)
theorem op_mul_i:OpR X (FP .Mult) (rI MulOk fun i j => .int (i*j)):=opI fun _ _ _ _ _ _ _ z q=>mul_int q z.ok
theorem B2 {K:Frag} {M:Mem} {H:Hp} {Q:VK} {a:List D} {k:Int} {v u:V} (rm:RM K M H) (rx:RD K H (.tup a) v) (ry:RD K H (.int k) u) (q:j0 (.tup a) (.int k) M (KE' K M H Q)):wm K v u H Q:=by
 obtain ⟨a',vs,rfl,z,j⟩:=Od rx
 cases O7.mp ry
 obtain ⟨B,F,G,q⟩:=q;have l1:=j.length;refine ⟨a',k,vs,rfl,rfl,z,B,F,by rw [l1];exact G,fun e => ?_,fun _ p n=>cS rm (j.rep _) q n⟩
 have ea:(Em k.toNat a).flatten=a:=by
  rcases e with e | e
  ·have:a=[]:=EL.mp (by rw [<- l1,e];rfl)
   subst this;simp
  ·subst e;simp
 rw [ea] at q;exact q _ H Ext.refl rm rx
theorem uG:OpR X (FP .Mult) (l2 X.K j0):=by
 refine OpR.of (op_mul_i.or (op_rep.or xk)) fun v u H Q h => ?_;obtain ⟨x,y,M,rm,rx,ry,q⟩:=h
 cases x <;> cases y <;> first
  | exact q.elim
  | (cases O7.mp rx;cases O7.mp ry;exact .inl ⟨_,_,rfl,rfl,q.1,q.2 _ H Ext.refl rm (O7.mpr rfl)⟩)
  | (cases O8.mp rx;cases O7.mp ry
     obtain ⟨xs,z,B,F,G,q⟩:=q;obtain ⟨vs,h1,j⟩:=rm _ _ z;have l1:=j.length;exact .inr (.inl ⟨_,_,vs,rfl,rfl,h1,B,F,by rw [l1];exact G,fun p n=>bQ rm (j.rep _) q n⟩))
  | exact .inr (.inr (B2 rm rx ry q))
theorem uH:OpR X (FP .FloorDiv) (rI (fun _ j => 0 < j/\j < 2 ^ 256) fun i j => .int (i / j)):=L2.opI fun i j _ _ _ _ _ z q=>by
 have h1:(0:Int) < j:=z.1;have h2:j < 2 ^ 256:=z.2;have B:j.natAbs.log2 < 256:=(Nat.log2_lt (by lia)).mpr (by lia)
 exact floordiv_int (by lia) (by rw [Int.fdiv_eq_ediv_of_nonneg i (by lia)];exact q) (.inl (PyProof.noPylong_of_log2 (by lia)))
theorem rD:OpR X (FP .FloorDiv) (l2 X.K kh):=by
 refine OpR.of uH fun v u H Q h => ?_;obtain ⟨x,y,M,rm,rx,ry,q⟩:=h
 cases x <;> cases y <;> first
  | exact q.elim
  | (cases O7.mp rx;cases O7.mp ry;exact ⟨_,_,rfl,rfl,⟨q.1,q.2.1⟩,q.2.2 _ H Ext.refl rm (O7.mpr rfl)⟩)
theorem uI:OpR X (FP .Mod) (l2 X.K pN):=by
 refine OpR.of zo fun v u H Q h => ?_;obtain ⟨x,y,M,rm,rx,ry,q⟩:=h
 cases x <;> cases y <;> first
  | exact q.elim
  | (cases O7.mp rx;cases O7.mp ry;exact ⟨_,_,rfl,rfl,q.1,q.2 _ H Ext.refl rm (O7.mpr rfl)⟩)
theorem uJ:OpR X (FP .Pow) (l2 X.K pO):=by
 refine OpR.of zp fun v u H Q h => ?_;obtain ⟨x,y,M,rm,rx,ry,q⟩:=h
 cases x <;> cases y <;> first
  | exact q.elim
  | (cases O7.mp rx;cases O7.mp ry;exact ⟨_,_,rfl,rfl,⟨q.1,q.2.1,q.2.2.1⟩,q.2.2.2 _ H Ext.refl rm (O7.mpr rfl)⟩)
noncomputable def j3:R1d
 | .int i,M,Q=>Q (.int (-i)) M
 | _,_,_=>False
theorem kS:pK j3:=by
 intro x M Q Q' h q
 cases x <;> first | exact q.elim | exact h _ _ q
theorem UnR.of {f:e7->Sem e7} {r r':V->Hp->VK->Prop} (h:UnR X f r) (i:∀ v H Q,r' v H Q->r v H Q):UnR X f r':=fun pins s σ H x v Q I rx q=>h pins s σ H x v Q I rx (i _ _ _ q)
theorem uK:UnR X (unaryOp .USub) (l1 X.K j3):=by
 refine UnR.of zq fun v H Q h => ?_;obtain ⟨x,M,rm,rx,q⟩:=h
 cases x <;> first
  | exact q.elim
  | (cases O7.mp rx;exact ⟨_,rfl,q _ H Ext.refl rm (O7.mpr rfl)⟩)
noncomputable def az {α β:Type} (f : α -> Option β):List α -> Option (List β)
 | [] => some []
 | x::xs=>(f x).bind fun y=>(az f xs).map (y :: ·)
noncomputable def rb:Nat->Mem->D->Option Fg
 | _,_, .non=>some .none
 | _,_, .bl b=>some (.bool b)
 | _,_, .int i=>some (.int i)
 | _,_, .str x=>if PyData.strOk x=true then some (.str x) else none
 | n+1,M, .tup ds=>(az (rb n M) ds).map PyData.tuple
 | n+1,M, .con ds=>(az (rb n M) ds).map Ni
 | n+1,M, .ref a=>match M a with
   | some (.lst ds)=>(az (rb n M) ds).map Ni
   | _=>none
 | 0,_, .tup _=>none
 | 0,_, .con _=>none
 | 0,_, .ref _=>none
 | _,_, .fn _=>none
theorem cJ {n:Nat} {M:Mem} (ih:∀ d p,rb n M d=some p->p.depth<=n/\p.canLay0=true):∀ {ds:List D} {ps:List Fg},az (rb n M) ds=some ps->F9 ps<=n/\EU ps=true
 | [],ps,h=>by
  simp [az] at h;subst h;exact ⟨Gc _,rfl⟩
 | d::ds,ps,h=>by
   simp only [az] at h
   cases e1:rb n M d with
   | none=>rw [e1] at h;cases h
   | some p =>
     rw [e1] at h
     cases e2:az (rb n M) ds with
     | none=>simp [e2] at h
     | some qs =>
       simp [e2] at h;subst h;obtain ⟨a1,a2⟩:=ih d p e1;obtain ⟨q,j⟩:=cJ ih e2;refine ⟨?_, ?_⟩
       ·show max p.depth (F9 qs)<=n;lia
       ·show (p.canLay0&&EU qs)=true;rw [a2,j];rfl
theorem bO {M:Mem}:∀ (n:Nat) (d:D) (p:Fg),rb n M d=some p->p.depth<=n/\p.canLay0=true
 | n, .non,p,h=>by simp [rb] at h;subst h;exact ⟨Gc _,rfl⟩
 | n, .bl b,p,h=>by simp [rb] at h;subst h;exact ⟨Gc _,rfl⟩
 | n, .int b,p,h=>by simp [rb] at h;subst h;exact ⟨Gc _,rfl⟩
 | n, .str x,p,h=>by
   simp [rb] at h;obtain ⟨h1,h2⟩:=h;subst h2;exact ⟨Gc _,h1⟩
 | 0, .tup _,p,h=>by simp [rb] at h
 | 0, .con _,p,h=>by simp [rb] at h
 | 0, .ref _,p,h=>by simp [rb] at h
 | n, .fn _,p,h=>by simp [rb] at h
 | n+1, .tup ds,p,h=>by
   simp only [rb] at h
   cases e:az (rb n M) ds with
   | none=>rw [e] at h;cases h
   | some ps =>
     rw [e] at h;cases h;obtain ⟨a,b⟩:=cJ (bO n) e;exact ⟨K6 a,b⟩
 | n+1, .con ds,p,h=>by
   simp only [rb] at h
   cases e:az (rb n M) ds with
   | none=>rw [e] at h;cases h
   | some ps =>
     rw [e] at h;cases h;obtain ⟨a,b⟩:=cJ (bO n) e;exact ⟨K6 a,b⟩
 | n+1, .ref a,p,h=>by
   simp only [rb] at h
   cases e0:M a with
   | none=>rw [e0] at h;cases h
   | some o =>
     rw [e0] at h
     cases o with
     | dct _ _=>cases h
     | fdc _=>cases h
     | dcn _=>cases h
     | fdn _=>cases h
     | lst ds =>
       simp only at h
       cases e:az (rb n M) ds with
       | none=>rw [e] at h;cases h
       | some ps =>
         rw [e] at h;cases h;obtain ⟨a,b⟩:=cJ (bO n) e;exact ⟨K6 a,b⟩
theorem cK {K:Frag} {H:Hp} {n:Nat} {M:Mem} {h:Heap} (ih:∀ d p v u,rb n M d=some p->RD K H d v->RelV v u -> ∃ as,HN h u p as) :
 ∀ {ds:List D} {ps:List Fg} {vs:List V} {us:List e7},az (rb n M) ds=some ps->RDs K H ds vs->Vals vs us -> ∃ as,Jy h us ps as
 | [],ps,vs,us,hm,r,rv=>by
  simp [az] at hm;subst hm;rw [RDs.nil_iff.mp r] at rv
  cases rv
  exact ⟨_, .nil⟩
 | d::ds,ps,vs,us,hm,r,rv=>by
   obtain ⟨v,vr,rfl,j,q⟩:=Oa.mp r
   cases rv with
   | cons z B =>
     simp only [az] at hm
     cases e1:rb n M d with
     | none=>rw [e1] at hm;cases hm
     | some p =>
       rw [e1] at hm
       cases e2:az (rb n M) ds with
       | none=>simp [e2] at hm
       | some qs =>
         simp [e2] at hm;subst hm;obtain ⟨as,ra⟩:=ih d p v _ e1 j z;obtain ⟨bs,rbs⟩:=cK ih e2 q B;exact ⟨_, .cons ra rbs⟩
theorem br {pins:List (Addr×Obj)} {σ:St} {H:Hp} {s:g6} {M:Mem} (I:Inv X pins σ H s) (rm:RM X.K M H):∀ (n:Nat) (d:D) (p:Fg) (v:V) (u:e7),rb n M d=some p->RD X.K H d v->RelV v u -> ∃ as,HN s.heap u p as
 | n, .non,p,v,u,h,r,q=>by simp [rb] at h;subst h;cases Oe.mp r;cases q;exact ⟨_, .none⟩
 | n, .bl b,p,v,u,h,r,q=>by simp [rb] at h;subst h;cases O9.mp r;cases q;exact ⟨_, .bool b⟩
 | n, .int b,p,v,u,h,r,q=>by simp [rb] at h;subst h;cases O7.mp r;obtain ⟨t,rfl⟩:=q;exact ⟨_, .int b t⟩
 | n, .str x,p,v,u,h,r,q=>by
   simp [rb] at h;obtain ⟨_,h2⟩:=h;subst h2;cases Of.mp r;obtain ⟨t,rfl⟩:=q;exact ⟨_, .str x t⟩
 | 0, .tup _,p,_,_,h,_,_=>by simp [rb] at h
 | 0, .con _,p,_,_,h,_,_=>by simp [rb] at h
 | 0, .ref _,p,_,_,h,_,_=>by simp [rb] at h
 | n, .fn _,p,_,_,h,_,_=>by simp [rb] at h
 | n+1, .tup ds,p,v,u,h,r,q=>by
   simp only [rb] at h
   cases e:az (rb n M) ds with
   | none=>rw [e] at h;cases h
   | some ps =>
     rw [e] at h;cases h;obtain ⟨a,vs,rfl,j,rs⟩:=Od r
     cases q
     obtain ⟨its,rv,⟨o,ho,z,k,hd⟩,_⟩:=I.tuple j;obtain ⟨as,ra⟩:=cK (br I rm n) e rs rv;exact ⟨_, .tuple ho z hd (by simpa using ra)⟩
 | n+1, .con ds,p,v,u,h,r,q=>by
   simp only [rb] at h
   cases e:az (rb n M) ds with
   | none=>rw [e] at h;cases h
   | some ps =>
     rw [e] at h;cases h;obtain ⟨a,vs,rfl,j,rs⟩:=Oc.mp r
     cases q
     obtain ⟨its,rv,⟨o,k,ho,z,_,hd⟩,_⟩:=I.list j.sq;obtain ⟨as,ra⟩:=cK (br I rm n) e rs rv;exact ⟨_, .list ho z hd (by simpa using ra)⟩
 | n+1, .ref a,p,v,u,h,r,q=>by
   simp only [rb] at h
   cases e0:M a with
   | none=>rw [e0] at h;cases h
   | some o =>
     rw [e0] at h
     cases o with
     | dct _ _=>cases h
     | fdc _=>cases h
     | dcn _=>cases h
     | fdn _=>cases h
     | lst ds =>
       simp only at h
       cases e:az (rb n M) ds with
       | none=>rw [e] at h;cases h
       | some ps =>
         rw [e] at h;cases h
         cases O8.mp r
         cases q
         obtain ⟨vs,j,rs⟩:=rm _ _ e0;obtain ⟨its,rv,⟨o,k,ho,z,_,hd⟩,_⟩:=I.list (SqL.of j);obtain ⟨as,ra⟩:=cK (br I rm n) e rs rv;exact ⟨_, .list ho z hd (by simpa using ra)⟩
noncomputable def wEq:R2d:=fun x y M Q => ∃ p q,rb 16 M x=some p/\rb 16 M y=some q/\Q (.bl (EW p q)) M
noncomputable def wNe:R2d:=fun x y M Q => ∃ p q,rb 16 M x=some p/\rb 16 M y=some q/\Q (.bl (!PyData.eqv p q)) M
theorem xo:aJ wEq:=fun _ _ _ _ _ h ⟨p,q,a,b,c⟩=>⟨p,q,a,b,h _ _ c⟩
theorem xp:aJ wNe:=fun _ _ _ _ _ h ⟨p,q,a,b,c⟩=>⟨p,q,a,b,h _ _ c⟩
theorem xq (F:X.A.units+16 < G0):OpR X (Ft .Eq) (l2 X.K wEq):=by
 intro pins s σ H x y v u Q I rx ry h;obtain ⟨d,e,M,rm,rd,re,p,q,j,z,k⟩:=h;obtain ⟨as,ra⟩:=br I rm _ _ _ _ _ j rd rx;obtain ⟨bs,rb'⟩:=br I rm _ _ _ _ _ z re ry;obtain ⟨G,p2⟩:=bO _ _ _ j;obtain ⟨J,B⟩:=bO _ _ _ z;exact SeqAt.compareEq_reads ra rb' p2 B (by lia) ⟨.bl _,H,I,rfl,k _ H Ext.refl rm (O9.mpr rfl)⟩
theorem xr (F:X.A.units+16 < G0):OpR X (Ft .NotEq) (l2 X.K wNe):=by
 intro pins s σ H x y v u Q I rx ry h;obtain ⟨d,e,M,rm,rd,re,p,q,j,z,k⟩:=h;obtain ⟨as,ra⟩:=br I rm _ _ _ _ _ j rd rx;obtain ⟨bs,rb'⟩:=br I rm _ _ _ _ _ z re ry;obtain ⟨G,p2⟩:=bO _ _ _ j;obtain ⟨J,B⟩:=bO _ _ _ z;exact SeqAt.compareNe_reads ra rb' p2 B (by lia) ⟨.bl _,H,I,rfl,k _ H Ext.refl rm (O9.mpr rfl)⟩
noncomputable def wLt:R2d
 | .int i, .int j,M,Q=>Q (.bl (decide (i < j))) M
 | _,_,_,_=>False
noncomputable def wLe:R2d
 | .int i, .int j,M,Q=>Q (.bl (decide (i<=j))) M
 | _,_,_,_=>False
noncomputable def wGt:R2d
 | .int i, .int j,M,Q=>Q (.bl (decide (j < i))) M
 | _,_,_,_=>False
noncomputable def wGe:R2d
 | .int i, .int j,M,Q=>Q (.bl (decide (j<=i))) M
 | _,_,_,_=>False
theorem xt:aJ wLt:=by
 intro x y M Q Q' h q
 cases x <;> cases y <;> first | exact q.elim | exact h _ _ q
theorem xu:aJ wGt:=by
 intro x y M Q Q' h q
 cases x <;> cases y <;> first | exact q.elim | exact h _ _ q
theorem xv:aJ wGe:=by
 intro x y M Q Q' h q
 cases x <;> cases y <;> first | exact q.elim | exact h _ _ q
theorem xw:OpR X (Ft .Lt) (l2 X.K wLt):=by
 refine OpR.of AJ fun v u H Q h => ?_;obtain ⟨x,y,M,rm,rx,ry,q⟩:=h
 cases x <;> cases y <;> first
  | exact q.elim
  | (cases O7.mp rx;cases O7.mp ry;exact ⟨_,_,rfl,rfl,q _ H Ext.refl rm (O9.mpr rfl)⟩)
theorem xx:OpR X (Ft .Gt) (l2 X.K wGt):=by
 refine OpR.of AK fun v u H Q h => ?_;obtain ⟨x,y,M,rm,rx,ry,q⟩:=h
 cases x <;> cases y <;> first
  | exact q.elim
  | (cases O7.mp rx;cases O7.mp ry;exact ⟨_,_,rfl,rfl,q _ H Ext.refl rm (O9.mpr rfl)⟩)
theorem xz:OpR X (Ft .GtE) (l2 X.K wGe):=by
 refine OpR.of AL fun v u H Q h => ?_;obtain ⟨x,y,M,rm,rx,ry,q⟩:=h
 cases x <;> cases y <;> first
  | exact q.elim
  | (cases O7.mp rx;cases O7.mp ry;exact ⟨_,_,rfl,rfl,q _ H Ext.refl rm (O9.mpr rfl)⟩)
end
end
section
noncomputable def wIx:R2d:=fun x y M Q=>match x with
 | .tup ds => ∃ i d,y = .int i/\atI ds i=some d/\Q d M
 | .con ds => ∃ i d,y = .int i/\atI ds i=some d/\Q d M
 | .ref a=>(∃ ds i d,M a=some (.lst ds)/\y = .int i/\atI ds i=some d/\Q d M)∨(∃ t kvs d,M a=some (.dct t kvs)/\pJ t y=true/\bW kvs y=some d/\Q d M) ∨ ∃ kvs d,M a=some (.fdc kvs)/\da y=true/\bW kvs y=some d/\Q d M
 | _=>False
theorem oj:aJ wIx:=by
 intro x y M Q Q' h q
 cases x with
 | tup ds=>obtain ⟨i,d,e,j,q⟩:=q;exact ⟨i,d,e,j,h _ _ q⟩
 | con ds=>obtain ⟨i,d,e,j,q⟩:=q;exact ⟨i,d,e,j,h _ _ q⟩
 | ref a =>
   rcases q with ⟨ds,i,d,z,j,B,q⟩ | ⟨t,kvs,d,z,j,B,q⟩ | ⟨kvs,d,z,j,B,q⟩
   ·exact .inl ⟨ds,i,d,z,j,B,h _ _ q⟩
   ·exact .inr (.inl ⟨t,kvs,d,z,j,B,h _ _ q⟩)
   ·exact .inr (.inr ⟨kvs,d,z,j,B,h _ _ q⟩)
 | _=>exact q.elim
theorem kT {K:Frag} {H:Hp} {ds:List D} {vs:List V} {i:Int} {d:D} (r:RDs K H ds vs) (e:atI ds i=some d):∃ v,atI vs i=some v/\RD K H d v:=by
 unfold atI at e ⊢;rw [r.length]
 cases q:ixN ds.length i with
 | none=>rw [q] at e;cases e
 | some j =>
   rw [q] at e;exact r.get e
theorem j4 {K:Frag} {H:Hp} {k:D} {q:Key} {v:V} (r:RKey k q) (h:RD K H k v):v=kV q:=by
 cases k <;> first
  | exact r.elim
  | (cases (show q=_ from r);first | exact O7.mp h | exact Of.mp h)
theorem gi {K:Frag} {H:Hp}:∀ {ds:List D} {ks:List Key} {vs:List V},FG RKey ds ks->RDs K H ds vs->vs=ks.map kV
 | _,_,vs, .nil,h=>by rw [RDs.nil_iff.mp h];rfl
 | _,_,vs, .cons r t,h=>by
   obtain ⟨v,vr,rfl,h1,h2⟩:=Oa.mp h;rw [j4 r h1,gi t h2];rfl
theorem RKey.inj {d e:D} {k:Key} (a:RKey d k) (b:RKey e k):d=e:=by
 cases d <;> first
  | exact a.elim
  | (cases e <;> first | exact b.elim | (cases (show k=_ from a);injection (show _=_ from b) with z;rw [z]) | (cases (show k=_ from a);cases (show _=_ from b)))
theorem RKeysP.inj:∀ {d e:List D} {k:List Key},FG RKey d k->FG RKey e k->d=e
 | _,_,_, .nil, .nil=>rfl
 | _,_,_, .cons r t, .cons r' t'=>by rw [r.inj r',RKeysP.inj t t']
theorem RKeys.inj {d e:D} {k:List Key} (a:RKeys d k) (b:RKeys e k):d=e:=by
 cases d <;> first
  | exact a.elim
  | (cases e <;> first | exact b.elim | exact congrArg D.tup (RKeysP.inj a b))
theorem RKey.fun {d:D} {k k':Key} (a:RKey d k) (b:RKey d k'):k=k':=by
 cases d <;> first
  | exact a.elim
  | (cases (show k=_ from a);cases (show k'=_ from b);rfl)
theorem RKeysP.fun:∀ {d:List D} {k k':List Key},FG RKey d k->FG RKey d k'->k=k'
 | _,_,_, .nil, .nil=>rfl
 | _,_,_, .cons r t, .cons r' t'=>by rw [r.fun r',RKeysP.fun t t']
theorem RKeys.fun {d:D} {k k':List Key} (a:RKeys d k) (b:RKeys d k'):k=k':=by
 cases d <;> first
  | exact a.elim
  | exact RKeysP.fun a b
section
variable {κ:Type} [DecidableEq κ] {K:Frag} {H:Hp} {RK:D -> κ -> Prop} (inj:∀ {d e:D} {k : κ},RK d k->RK e k->d=e) (fn:∀ {d:D} {k k' : κ},RK d k->RK d k'->k=k')
include inj fn
theorem gj {k:D} {q : κ} (j:RK k q):∀ {kvs:List (D×D)} {ps:List (κ × V)},FG (fun p r=>RK p.1 r.1/\RD K H p.2 r.2) kvs ps ->
 (∀ d,bW kvs k=some d -> ∃ v,bq ps q=some v/\RD K H d v)/\(bW kvs k=none->bq ps q=none)
 | _,_, .nil=>⟨fun d e=>by simp [bW] at e,fun _=>rfl⟩
 | _,_, .cons (a:=p) (b:=r) (l₂ := ps) B t=>by
   obtain ⟨F,G⟩:=gj j t
   by_cases e:p.1=k
   ·have e':r.1=q:=by
     have h1:=B.1;rw [e] at h1;exact fn h1 j
    refine ⟨fun d he => ?_,fun he => ?_⟩
    ·simp [bW,FT,e] at he;subst he;exact ⟨r.2,dS e',B.2⟩
    ·simp [bW,FT,e] at he
   ·have e' : ¬ r.1=q:=fun z=>e (by
     have h1:=B.1;rw [z] at h1;exact inj h1 j)
    have eq1:∀ l:List (D×D),bW (p::l) k=bW l k:=fun l=>by simp [bW,FT,e]
    have eq2:bq (r::ps) q=bq ps q:=dU e';refine ⟨fun d he => ?_,fun he => ?_⟩
    ·rw [eq1] at he;rw [eq2];exact F d he
    ·rw [eq1] at he;rw [eq2];exact G he
end
section
variable {X:Cx}
theorem rE {K:Frag} {H:Hp} {a:Addr} {ps:List (List Key×V)} {kvs:List (D×D)} {k:D} {v:V} (B:Rd H a (.dT ps)) (pr:FG (fun (p:D×D) (q:List Key×V)=>RKeys p.1 q.1/\RD K H p.2 q.2) kvs ps) (ok:da k=true) (rk:RD K H k v) :
 ∃ o,DGet H a v o/\(∀ d,bW kvs k=some d -> ∃ w,o=some w/\RD K H d w)/\(bW kvs k=none->o=none):=by
 obtain ⟨q,j⟩:=oh ok;obtain ⟨g1,g2⟩:=gj (RK:=RKeys) RKeys.inj RKeys.fun j pr;refine ⟨bq ps q, ?_,g1,g2⟩
 cases k <;> first
  | exact j.elim
  | (obtain ⟨b,us,rfl,z,ru⟩:=Oo (oi ok) rk
     rw [gi j ru] at z;exact .inr ⟨ps,q,b,B,rfl,z,rfl⟩)
theorem xA {K:Frag} {M:Mem} {H:Hp} {a:Addr} {t:Bool} {kvs:List (D×D)} {k:D} {v:V} (rm:RM K M H) (e:M a=some (.dct t kvs)) (ok:pJ t k=true) (rk:RD K H k v) :
 ∃ o,DGet H a v o/\(∀ d,bW kvs k=some d -> ∃ w,o=some w/\RD K H d w)/\(bW kvs k=none->o=none):=by
 have ro:=rm a _ e
 cases t with
 | false =>
   obtain ⟨ps,j,pr⟩:=ro;obtain ⟨q,z⟩:=kO (show dX k=true from ok);obtain ⟨g1,g2⟩:=gj (RK:=RKey) RKey.inj RKey.fun z pr;refine ⟨bq ps q, ?_,g1,g2⟩;rw [j4 z rk];exact DGet.k j
 | true =>
   obtain ⟨ps,j,pr⟩:=ro;exact rE (.inl j) pr ok rk
theorem xB (j:X.A.units+1 < G0):IxR X (fun x y H Q => ∃ a v,x = .ref a/\DGet H a y (some v)/\Q v H):=by
 intro value slice pins s σ H x y v u Q I rx ry h hs;obtain ⟨a,w,rfl,g,q⟩:=h
 cases rx
 have hd:IsD H a:=by
  rcases g with ⟨kvs,k,e,_⟩ | ⟨kvs,k,b,e,_⟩
  ·exact .inl ⟨kvs,e⟩
  ·exact .inr ⟨kvs,e⟩
 obtain ⟨z,_⟩:=zy I hd;exact NL z PySem.F.slot_dict_getitem.lookup (r9 j I g ry fun w' s' I' r'=>⟨w,H,I',r',q⟩) hs
theorem BP (G:X.A.units+1 < G0):IxR X (l2 X.K wIx):=by
 refine IxR.of (ix_list.or (ix_tup.or (xB G))) fun v u H Q h => ?_;obtain ⟨x,y,M,rm,rx,ry,q⟩:=h
 cases x with
 | tup ds =>
   obtain ⟨i,d,rfl,e,q⟩:=q;obtain ⟨a,vs,rfl,j,rs⟩:=Od rx
   cases O7.mp ry
   obtain ⟨w,hw,rw'⟩:=kT rs e;exact .inr (.inl ⟨a,vs,i,w,rfl,rfl,j,hw,q w H Ext.refl rm rw'⟩)
 | con ds =>
   obtain ⟨i,d,rfl,e,q⟩:=q;obtain ⟨a,vs,rfl,j,rs⟩:=Oc.mp rx
   cases O7.mp ry
   obtain ⟨w,hw,rw'⟩:=kT rs e;exact .inl ⟨a,vs,i,w,rfl,rfl,j.sq,hw,q w H Ext.refl rm rw'⟩
 | ref a =>
   cases O8.mp rx
   rcases q with ⟨ds,i,d,z,rfl,B,q⟩ | ⟨t,kvs,d,z,F,B,q⟩ | ⟨kvs,d,z,F,B,q⟩
   ·cases O7.mp ry
    obtain ⟨vs,j,rs⟩:=rm _ _ z;obtain ⟨w,hw,rw'⟩:=kT rs B;exact .inl ⟨a,vs,i,w,rfl,rfl,SqL.of j,hw,q w H Ext.refl rm rw'⟩
   ·obtain ⟨o,g,g1,_⟩:=xA rm z F ry;obtain ⟨w,rfl,rw'⟩:=g1 d B;exact .inr (.inr ⟨a,w,rfl,g,q w H Ext.refl rm rw'⟩)
   ·obtain ⟨ob,ps,J,pr⟩:=rm _ _ z;obtain ⟨o,g,g1,_⟩:=rE (.inr ⟨ob,J⟩) pr F ry;obtain ⟨w,rfl,rw'⟩:=g1 d B;exact .inr (.inr ⟨a,w,rfl,g,q w H Ext.refl rm rw'⟩)
 | _=>exact q.elim
noncomputable def gm (M:Mem):D->Option Nat
 | .tup ds=>some ds.length
 | .con ds=>some ds.length
 | .ref a=>match M a with
  | some (.lst ds)=>some ds.length
  | _=>none
 | _=>none
noncomputable def dy:RAd:=fun xs M Q => ∃ x n,xs=[x]/\gm M x=some n/\Q (.int n) M
theorem kU:aR dy:=fun _ _ _ _ h ⟨x,n,e,l,q⟩=>⟨x,n,e,l,h _ _ q⟩
theorem RDs.one {K:Frag} {H:Hp} {d:D} {vs:List V} (h:RDs K H [d] vs):∃ v,vs=[v]/\RD K H d v:=by
 obtain ⟨v,r,rfl,h1,h2⟩:=Oa.mp h;rw [RDs.nil_iff.mp h2];exact ⟨v,rfl,h1⟩
theorem RDs.two {K:Frag} {H:Hp} {d e:D} {vs:List V} (h:RDs K H [d,e] vs):∃ v u,vs=[v,u]/\RD K H d v/\RD K H e u:=by
 obtain ⟨v,r,rfl,h1,h2⟩:=Oa.mp h;obtain ⟨u,rfl,j⟩:=RDs.one h2;exact ⟨v,u,rfl,h1,j⟩
theorem pQ:CallR X (.builtin "len") (lR X.K dy):=by
 refine CallR.of ua fun vs H Q h => ?_;obtain ⟨ds,M,rm,rs,x,n,rfl,l,q⟩:=h;obtain ⟨v,rfl,r⟩:=rs.one;refine ⟨v,n,rfl, ?_,q _ H Ext.refl rm (O7.mpr rfl)⟩
 cases x with
 | tup ds =>
   cases l
   obtain ⟨a,us,rfl,j,ru⟩:=Od r;exact .inr ⟨us,j,ru.length.symm⟩
 | con ds =>
   cases l
   obtain ⟨a,us,rfl,j,ru⟩:=Oc.mp r;exact .inl ⟨us,j.sq,ru.length.symm⟩
 | ref a =>
   cases O8.mp r
   simp only [gm] at l
   cases e:M a with
   | none=>rw [e] at l;cases l
   | some o =>
     rw [e] at l
     cases o with
     | dct _ _=>cases l
     | fdc _=>cases l
     | dcn _=>cases l
     | fdn _=>cases l
     | lst ds =>
       cases l
       obtain ⟨us,j,ru⟩:=rm _ _ e;exact .inl ⟨us,SqL.of j,ru.length.symm⟩
 | _=>cases l
noncomputable def kW:RAd:=fun xs M Q => ∃ i,xs=[.int i]/\Q (.int (if i < 0 then -i else i)) M
noncomputable def ki:RAd:=fun xs M Q => ∃ i j,xs=[.int i, .int j]/\Q (.int (if j < i then j else i)) M
noncomputable def j5:RAd:=fun xs M Q=>(∃ i,xs=[.int i]/\Q (.int i) M) ∨ ∃ k,xs=[.bl k]/\Q (.int (if k then 1 else 0)) M
theorem kX:aR kW:=fun _ _ _ _ h ⟨i,e,q⟩=>⟨i,e,h _ _ q⟩
theorem jz:aR ki:=fun _ _ _ _ h ⟨i,j,e,q⟩=>⟨i,j,e,h _ _ q⟩
theorem kY:aR j5:=fun _ _ _ _ h q=>q.elim (fun ⟨i,e,q⟩ => .inl ⟨i,e,h _ _ q⟩) fun ⟨i,e,q⟩ => .inr ⟨i,e,h _ _ q⟩
theorem pR:CallR X (.builtin "abs") (lR X.K kW):=by
 refine CallR.of u9 fun vs H Q h => ?_;obtain ⟨ds,M,rm,rs,i,rfl,q⟩:=h;obtain ⟨v,rfl,r⟩:=rs.one
 cases O7.mp r
 exact ⟨i,rfl,q _ H Ext.refl rm (O7.mpr rfl)⟩
theorem nG (z:X.calm=true):CallR X (.builtin "min") (lR X.K ki):=by
 refine CallR.of (qU z) fun vs H Q h => ?_;obtain ⟨ds,M,rm,rs,i,j,rfl,q⟩:=h;obtain ⟨v,u,rfl,B,F⟩:=rs.two
 cases O7.mp B
 cases O7.mp F
 exact ⟨i,j,rfl,q _ H Ext.refl rm (O7.mpr rfl)⟩
theorem pS:CallR X (.type "int") (lR X.K j5):=by
 refine CallR.of qV fun vs H Q h => ?_;obtain ⟨ds,M,rm,rs,⟨i,rfl,q⟩ | ⟨i,rfl,q⟩⟩:=h
 ·obtain ⟨v,rfl,r⟩:=rs.one
  cases O7.mp r
  exact .inl ⟨i,rfl,q _ H Ext.refl rm (O7.mpr rfl)⟩
 ·obtain ⟨v,rfl,r⟩:=rs.one
  cases O9.mp r
  exact .inr ⟨i,rfl,q _ H Ext.refl rm (O7.mpr rfl)⟩
noncomputable def aq (M:Mem):D->Option (List D)
 | .tup ds=>some ds
 | .con ds=>some ds
 | .ref a=>match M a with
  | some (.lst ds)=>some ds
  | _=>none
 | _=>none
theorem kZ {K:Frag} {M:Mem} {H:Hp} {x:D} {ds:List D} {v:V} (rm:RM K M H) (r:RD K H x v) (e:aq M x=some ds):∃ p vs,v = .ref p/\(SqL K H p vs∨SqT K H p vs)/\RDs K H ds vs:=by
 cases x with
 | tup es =>
   cases e
   obtain ⟨a,us,rfl,j,ru⟩:=Od r;exact ⟨a,us,rfl, .inr j,ru⟩
 | con es =>
   cases e
   obtain ⟨a,us,rfl,j,ru⟩:=Oc.mp r;exact ⟨a,us,rfl, .inl j.sq,ru⟩
 | ref a =>
   cases O8.mp r
   simp only [aq] at e
   cases e0:M a with
   | none=>rw [e0] at e;cases e
   | some o =>
     rw [e0] at e
     cases o with
     | dct _ _=>cases e
     | fdc _=>cases e
     | dcn _=>cases e
     | fdn _=>cases e
     | lst es =>
       cases e
       obtain ⟨us,j,ru⟩:=rm _ _ e0;exact ⟨a,us,rfl, .inl (SqL.of j),ru⟩
 | _=>cases e
noncomputable def pT:RAd:=fun xs M Q => ∃ x ds,xs=[x]/\aq M x=some ds /\ ∀ p,M p=none->Q (.ref p) (af M p (.lst ds))
noncomputable def lc:RAd:=fun xs M Q => ∃ x ds,xs=[x]/\aq M x=some ds/\Q (.tup ds) M
theorem jA:aR pT:=fun _ _ _ _ h ⟨x,ds,e,l,q⟩=>⟨x,ds,e,l,fun p n=>h _ _ (q p n)⟩
theorem i8:aR lc:=fun _ _ _ _ h ⟨x,ds,e,l,q⟩=>⟨x,ds,e,l,h _ _ q⟩
theorem nH:CallR X (.type "list") (lR X.K pT):=by
 refine CallR.of kB fun vs H Q h => ?_;obtain ⟨ds,M,rm,rs,x,es,rfl,l,q⟩:=h;obtain ⟨v,rfl,r⟩:=rs.one;obtain ⟨p,us,rfl,sq,ru⟩:=kZ rm r l;exact ⟨p,us,rfl,sq,fun l' n=>bQ rm ru q n⟩
theorem lf:CallR X (.type "tuple") (lR X.K lc):=by
 refine CallR.of jZ fun vs H Q h => ?_;obtain ⟨ds,M,rm,rs,x,es,rfl,l,q⟩:=h;obtain ⟨v,rfl,r⟩:=rs.one
 cases x with
 | tup ds' =>
   cases l
   obtain ⟨a,us,rfl,j,ru⟩:=Od r;exact ⟨a,us,rfl, .inr ⟨j,q _ H Ext.refl rm r⟩⟩
 | con ds' =>
   cases l
   obtain ⟨a,us,rfl,j,ru⟩:=Oc.mp r;exact ⟨a,us,rfl, .inl ⟨j.sq,fun l' n=>cS rm ru q n⟩⟩
 | ref a =>
   cases O8.mp r
   simp only [aq] at l
   cases e0:M a with
   | none=>rw [e0] at l;cases l
   | some o =>
     rw [e0] at l
     cases o with
     | dct _ _=>cases l
     | fdc _=>cases l
     | dcn _=>cases l
     | fdn _=>cases l
     | lst es' =>
       cases l
       obtain ⟨us,j,ru⟩:=rm _ _ e0;exact ⟨a,us,rfl, .inl ⟨SqL.of j,fun l' n=>cS rm ru q n⟩⟩
 | _=>cases l
end
end
section
section
variable {X:Cx}
theorem RDs.ints_eq {K:Frag} {H:Hp}:∀ {ns:List Int} {vs:List V},RDs K H (ns.map D.int) vs->vs=ns.map V.int
 | [],_,h=>RDs.nil_iff.mp h
 | n::ns,_,h=>by
   obtain ⟨v,r,rfl,h1,h2⟩:=Oa.mp h;rw [O7.mp h1,RDs.ints_eq h2];rfl
noncomputable def lg (M:Mem):D->Option Bool
 | .non=>some false
 | .bl b=>some b
 | .int i=>some (i != 0)
 | .tup ds=>some (!ds.isEmpty)
 | .con ds=>some (!ds.isEmpty)
 | .ref a=>match M a with
  | some (.lst ds)=>some (!ds.isEmpty)
  | _=>none
 | _=>none
noncomputable def lh (t:TEd):TTd:=fun ρ M Q=>t ρ M fun x M1 => ∃ b,lg M1 x=some b/\Q b M1
theorem uL {t:TEd} (h:ab t):aB (lh t):=fun ρ M Q Q' i q=>h _ _ _ _ (fun x z ⟨k,e,j⟩=>⟨k,e,i _ _ j⟩) q
theorem zJ {K:Frag} {M:Mem} {H:Hp} {x:D} {b:Bool} {v:V} (rm:RM K M H) (r:RD K H x v) (e:lg M x=some b):u7 K v H b:=by
 have emp:∀ {ds:List D} {vs:List V},RDs K H ds vs->(!ds.isEmpty) = !vs.isEmpty:=fun {ds vs} h=>by
  have l:=h.length
  cases ds <;> cases vs <;> first | rfl | (simp at l)
 cases x with
 | non=>cases e;cases Oe.mp r;rfl
 | bl k=>cases e;cases O9.mp r;rfl
 | int i=>cases e;cases O7.mp r;rfl
 | tup ds =>
   cases e
   obtain ⟨a,vs,rfl,j,rs⟩:=Od r;exact .inr (.inl ⟨vs,j,emp rs⟩)
 | con ds =>
   cases e
   obtain ⟨a,vs,rfl,j,rs⟩:=Oc.mp r;exact .inl ⟨vs,j.sq,emp rs⟩
 | ref a =>
   cases O8.mp r
   simp only [lg] at e
   cases e0:M a with
   | none=>rw [e0] at e;cases e
   | some o =>
     rw [e0] at e
     cases o with
     | dct _ _=>cases e
     | fdc _=>cases e
     | dcn _=>cases e
     | fdn _=>cases e
     | lst ds =>
       cases e
       obtain ⟨vs,j,rs⟩:=rm _ _ e0;exact .inl ⟨vs,SqL.of j,emp rs⟩
 | str _=>cases e
 | fn _=>cases e
variable {a b:Expr} {ta tb:TEd} {pos:Pos}
theorem zK (m:ab ta) (B:PE X a (lE X.K ta)) (he:∀ whole,isTrue a X.env whole=(do let v <- whole;Jd a.pos;holding [v] (truthy v))):PT X a (lT X.K (lh ta)):=by
 refine PT.imp (u8 B he) fun σ H Q h => ?_;obtain ⟨ρ,M,rs,rm,q⟩:=h;exact ⟨ρ,M,rs,rm,m _ _ _ _ (fun x J ⟨k,e,F⟩ v H1 G j z=>⟨k,zJ j z e,F H1 G j⟩) q⟩
noncomputable def i9 (t:TTd):TTd:=fun ρ M Q=>t ρ M fun c M1=>Q (!c) M1
theorem rF {t:TTd} (h:aB t):aB (i9 t):=fun ρ M Q Q' i q=>h _ _ _ _ (fun c z j=>i _ _ j) q
theorem zL {tA:TTd} (m:aB tA) (j:PT X a (lT X.K tA)):PT X (.UnaryOp .Not a pos) (lT X.K (i9 tA)):=by
 refine PT.imp (yY j) fun σ H Q h => ?_;obtain ⟨ρ,M,rs,rm,q⟩:=h;exact ⟨ρ,M,rs,rm,m _ _ _ _ (fun c B z=>z) q⟩
noncomputable def ic (t u:TTd):TTd:=fun ρ M Q=>t ρ M fun c M1=>if c=true then u ρ M1 Q else Q false M1
noncomputable def lj (t u:TTd):TTd:=fun ρ M Q=>t ρ M fun c M1=>if c=true then Q true M1 else u ρ M1 Q
theorem rG {t u:TTd} (h:aB t) (k:aB u):aB (ic t u):=fun ρ M Q Q' i q=>h _ _ _ _ (fun c z j=>by
 cases c with
 | true=>rw [if_pos rfl] at j ⊢;exact k _ _ _ _ i j
 | false=>rw [if_neg D2] at j ⊢;exact i _ _ j) q
theorem uM {t u:TTd} (h:aB t) (k:aB u):aB (lj t u):=fun ρ M Q Q' i q=>h _ _ _ _ (fun c z j=>by
 cases c with
 | true=>rw [if_pos rfl] at j ⊢;exact i _ _ j
 | false=>rw [if_neg D2] at j ⊢;exact k _ _ _ _ i j) q
theorem xC {tA:TTd} (j:PT X a (lT X.K tA)):PW X (.BoolOp .And [a] pos) (lT X.K tA):=wN j
theorem zM {tA:TTd} (j:PT X a (lT X.K tA)):PW X (.BoolOp .Or [a] pos) (lT X.K tA):=yW j
theorem zN {tA tB:TTd} {rest:List Expr} (mA:aB tA) (mB:aB tB) (F:PT X a (lT X.K tA)) (G:PW X (.BoolOp .And (b::rest) pos) (lT X.K tB)):PW X (.BoolOp .And (a::b::rest) pos) (lT X.K (ic tA tB)):=by
 refine PW.imp (yX F G) fun σ H Q h => ?_;obtain ⟨ρ,M,rs,rm,q⟩:=h;refine ⟨ρ,M,rs,rm,mA _ _ _ _ (fun c J z H1 B j => ?_) q⟩
 cases c with
 | true=>rw [if_pos rfl] at z ⊢;exact ⟨ρ,J,rs.mono (B.stab rm),j,mB _ _ _ _ (fun d M2 k=>k.ext B) z⟩
 | false=>rw [if_neg D2] at z ⊢;exact z H1 B j
theorem B3 {tA tB:TTd} {rest:List Expr} (mA:aB tA) (mB:aB tB) (F:PT X a (lT X.K tA)) (G:PW X (.BoolOp .Or (b::rest) pos) (lT X.K tB)):PW X (.BoolOp .Or (a::b::rest) pos) (lT X.K (lj tA tB)):=by
 refine PW.imp (AA F G) fun σ H Q h => ?_;obtain ⟨ρ,M,rs,rm,q⟩:=h;refine ⟨ρ,M,rs,rm,mA _ _ _ _ (fun c J z H1 B j => ?_) q⟩
 cases c with
 | true=>rw [if_pos rfl] at z ⊢;exact z H1 B j
 | false=>rw [if_neg D2] at z ⊢;exact ⟨ρ,J,rs.mono (B.stab rm),j,mB _ _ _ _ (fun d M2 k=>k.ext B) z⟩
noncomputable def ie (ta tb:TEd):TEd:=fun ρ M Q=>ta ρ M fun x M1 => ∃ c,x = .bl c/\if c=true then tb ρ M1 Q else Q (.bl false) M1
noncomputable def ll (ta tb:TEd):TEd:=fun ρ M Q=>ta ρ M fun x M1 => ∃ c,x = .bl c/\if c=true then Q (.bl true) M1 else tb ρ M1 Q
noncomputable def ig (ta:TEd):TEd:=fun ρ M Q=>ta ρ M fun x M1 => ∃ c,x = .bl c/\Q (.bl (!c)) M1
theorem rH (h:ab ta) (k:ab tb):ab (ie ta tb):=fun ρ M Q Q' i q=>h _ _ _ _ (fun x z ⟨c,e,j⟩=>⟨c,e,by
 cases c with
 | true=>rw [if_pos rfl] at j ⊢;exact k _ _ _ _ i j
 | false=>rw [if_neg D2] at j ⊢;exact i _ _ j⟩) q
theorem uN (h:ab ta) (k:ab tb):ab (ll ta tb):=fun ρ M Q Q' i q=>h _ _ _ _ (fun x z ⟨c,e,j⟩=>⟨c,e,by
 cases c with
 | true=>rw [if_pos rfl] at j ⊢;exact i _ _ j
 | false=>rw [if_neg D2] at j ⊢;exact k _ _ _ _ i j⟩) q
theorem rJ (h:ab ta):ab (ig ta):=fun ρ M Q Q' i q=>h _ _ _ _ (fun x z ⟨c,e,j⟩=>⟨c,e,i _ _ j⟩) q
theorem rK {op:BoolOp} {t:TEd} (h:PE X a (lE X.K t)):PE X (.BoolOp op [a] pos) (lE X.K t):=yZ h
theorem zO {rest:List Expr} (ma:ab ta) (mb:ab tb) (G:PE X a (lE X.K ta)) (J:PE X (.BoolOp .And (b::rest) pos) (lE X.K tb)):PE X (.BoolOp .And (a::b::rest) pos) (lE X.K (ie ta tb)):=by
 refine PE.imp (z9 G J) fun σ H Q h => ?_;obtain ⟨ρ,M,rs,rm,q⟩:=h;refine ⟨ρ,M,rs,rm,ma _ _ _ _ (fun x L ⟨c,e,z⟩ v H1 B j F => ?_) q⟩;subst e;refine ⟨c,O9.mp F, ?_⟩
 cases c with
 | true=>rw [if_pos rfl] at z ⊢;exact ⟨ρ,L,rs.mono (B.stab rm),j,mb _ _ _ _ (fun d M2 k=>k.ext B) z⟩
 | false=>rw [if_neg D2] at z ⊢;exact z _ H1 B j (O9.mpr rfl)
theorem B4 {rest:List Expr} (ma:ab ta) (mb:ab tb) (G:PE X a (lE X.K ta)) (J:PE X (.BoolOp .Or (b::rest) pos) (lE X.K tb)):PE X (.BoolOp .Or (a::b::rest) pos) (lE X.K (ll ta tb)):=by
 refine PE.imp (AD G J) fun σ H Q h => ?_;obtain ⟨ρ,M,rs,rm,q⟩:=h;refine ⟨ρ,M,rs,rm,ma _ _ _ _ (fun x L ⟨c,e,z⟩ v H1 B j F => ?_) q⟩;subst e;refine ⟨c,O9.mp F, ?_⟩
 cases c with
 | true=>rw [if_pos rfl] at z ⊢;exact z _ H1 B j (O9.mpr rfl)
 | false=>rw [if_neg D2] at z ⊢;exact ⟨ρ,L,rs.mono (B.stab rm),j,mb _ _ _ _ (fun d M2 k=>k.ext B) z⟩
theorem zP (ma:ab ta) (B:PE X a (lE X.K ta)):PE X (.UnaryOp .Not a pos) (lE X.K (ig ta)):=by
 refine PE.imp (za B) fun σ H Q h => ?_;obtain ⟨ρ,M,rs,rm,q⟩:=h;refine ⟨ρ,M,rs,rm,ma _ _ _ _ (fun x J ⟨c,e,F⟩ v H1 G j z => ?_) q⟩;subst e;exact ⟨c,O9.mp z,F _ H1 G j (O9.mpr rfl)⟩
noncomputable def wIf (t:TTd) (ta tb:TEd):TEd:=fun ρ M Q=>t ρ M fun c M1=>if c=true then ta ρ M1 Q else tb ρ M1 Q
theorem xD {t:TTd} (h:aB t) (z:ab ta) (B:ab tb):ab (wIf t ta tb):=fun ρ M Q Q' i q=>h _ _ _ _ (fun c F j=>by
 cases c with
 | true=>rw [if_pos rfl] at j ⊢;exact z _ _ _ _ i j
 | false=>rw [if_neg D2] at j ⊢;exact B _ _ _ _ i j) q
theorem B5 {c:Expr} {t:TTd} (mt:aB t) (ma:ab ta) (mb:ab tb) (G:PT X c (lT X.K t)) (J:PE X a (lE X.K ta)) (L:PE X b (lE X.K tb)):PE X (.IfExp c a b pos) (lE X.K (wIf t ta tb)):=by
 refine PE.imp (tW G J L) fun σ H Q h => ?_;obtain ⟨ρ,M,rs,rm,q⟩:=h;refine ⟨ρ,M,rs,rm,mt _ _ _ _ (fun x F z H1 B j => ?_) q⟩
 cases x with
 | true=>rw [if_pos rfl] at z ⊢;exact ⟨ρ,F,rs.mono (B.stab rm),j,ma _ _ _ _ (fun d M2 k=>k.ext B) z⟩
 | false=>rw [if_neg D2] at z ⊢;exact ⟨ρ,F,rs.mono (B.stab rm),j,mb _ _ _ _ (fun d M2 k=>k.ext B) z⟩
noncomputable def ci (xs:List D) (lo hi:Option Int):List D:=(xs.drop (HT.sIx xs.length 0 lo)).take (HT.sIx xs.length xs.length hi - HT.sIx xs.length 0 lo)
theorem lm {K:Frag} {H:Hp} {ds:List D} {vs:List V} (r:RDs K H ds vs) (lo hi:Option Int):RDs K H (ci ds lo hi) (eA vs lo hi):=by
 unfold ci eA;rw [r.length];exact (r.drop _).take _
noncomputable abbrev TOd:=am->Mem->(Option Int->Mem->Prop)->Prop
def bX (T:TOd):Prop := ∀ ρ M Q Q',(∀ d M',Q d M'->Q' d M')->T ρ M Q->T ρ M Q'
noncomputable def dD:TOd:=fun _ M Q=>Q none M
noncomputable def fe (t:TEd):TOd:=fun ρ M Q=>t ρ M fun x M1 => ∃ i,x = .int i/\Q (some i) M1
theorem nI:bX dD:=fun _ _ _ _ h q=>h _ _ q
theorem eD (h:ab ta):bX (fe ta):=fun ρ M Q Q' i q=>h _ _ _ _ (fun x z ⟨c,e,j⟩=>⟨c,e,i _ _ j⟩) q
noncomputable def lO (K:Frag) (T:TOd):TO:=fun σ H Q => ∃ ρ M,RS K H σ ρ /\ RM K M H/\T ρ M (fun o M' => ∀ H',Ext M H M' H'->RM K M' H'->Q o H')
theorem xE:PO X none (lO X.K dD):=fun pins s σ H Q I h=>by
 obtain ⟨ρ,M,rs,rm,q⟩:=h;exact x6 pins s σ H Q I (q H Ext.refl rm)
theorem oo {e:Expr} (m:ab ta) (h:PE X e (lE X.K ta)):PO X (some e) (lO X.K (fe ta)):=fun pins s σ H Q I hq=>by
 obtain ⟨ρ,M,rs,rm,q⟩:=hq;refine xa h pins s σ H Q I ⟨ρ,M,rs,rm,m _ _ _ _ (fun x G ⟨i,e,B⟩ v H1 F j z => ?_) q⟩;subst e;exact ⟨i,O7.mp z,B H1 F j⟩
noncomputable def eE:D->Option Int->Option Int->Mem->QD->Prop:=fun x lo hi M Q=>match x with
 | .tup ds=>Q (.tup (ci ds lo hi)) M
 | .ref a => ∃ ds,M a=some (.lst ds) /\ ∀ p,M p=none->Q (.ref p) (af M p (.lst (ci ds lo hi)))
 | .con ds => ∀ p,M p=none->Q (.ref p) (af M p (.lst (ci ds lo hi)))
 | _=>False
noncomputable def wSl (te:TEd) (tl th:TOd):TEd:=fun ρ M Q=>te ρ M fun x M1=>tl ρ M1 fun l M2=>th ρ M2 fun u M3=>eE x l u M3 Q
theorem pU {x:D} {lo hi:Option Int} {M:Mem} {Q Q':QD} (h:∀ d M',Q d M'->Q' d M') (q:eE x lo hi M Q):eE x lo hi M Q':=by
 cases x with
 | tup ds=>exact h _ _ q
 | ref a=>obtain ⟨ds,e,q⟩:=q;exact ⟨ds,e,fun p n=>h _ _ (q p n)⟩
 | con ds=>exact fun p n=>h _ _ (q p n)
 | _=>exact q.elim
theorem xF {tl th:TOd} (m:ab ta) (ml:bX tl) (mh:bX th):ab (wSl ta tl th):=fun ρ M Q Q' i q =>
 m _ _ _ _ (fun x F j=>ml _ _ _ _ (fun l M2 z=>mh _ _ _ _ (fun u G B=>pU i B) z) j) q
theorem B6 {e:Expr} {lo hi:Option Expr} {tl th:TOd} {p2:Pos} (m:ab ta) (ml:bX tl) (mh:bX th) (he:PE X e (lE X.K ta)) (hl:PO X lo (lO X.K tl)) (hu:PO X hi (lO X.K th)) :
 PE X (.Subscript e (.Slice lo hi none p2) pos) (lE X.K (wSl ta tl th)):=by
 refine PE.imp (uf (sl_tup.or (sl_list.or uk)) he hl hu) fun σ H Q h => ?_;obtain ⟨ρ,M,rs,rm,q⟩:=h;refine ⟨ρ,M,rs,rm,m _ _ _ _ (fun x M1 q1 v H1 O G U => ?_) q⟩;refine ⟨ρ,M1,rs.mono (O.stab rm),G,ml _ _ _ _ (fun l M2 q2 H2 Y L => ?_) q1⟩;refine ⟨ρ,M2,(rs.mono (O.stab rm)).mono (Y.stab G),L,mh _ _ _ _ (fun u M3 z H3 Z j => ?_) q2⟩;have B:=O.trans (Y.trans Z);have F:=(U.mono (Y.stab G)).mono (Z.stab L)
 cases x with
 | tup ds =>
   obtain ⟨a,vs,rfl,J,r⟩:=Od F
   by_cases hw:HT.sIx vs.length 0 l=0/\HT.sIx vs.length vs.length u=vs.length
   ·refine .inr (.inr ⟨a,vs,rfl,J,hw, ?_⟩);have e:ci ds l u=ds:=by
     unfold ci;rw [<- r.length,hw.1,hw.2,r.length];simp
    simp only [eE] at z;rw [e] at z;exact z.ext B _ H3 Ext.refl j F
   ·simp only [eE] at z;exact .inl ⟨a,vs,rfl,J,hw,fun p n=>cS j (lm r l u) (z.ext B) n⟩
 | ref a =>
   cases O8.mp F
   obtain ⟨ds,e,z⟩:=z;obtain ⟨vs,J,r⟩:=j _ _ e;exact .inr (.inl ⟨a,vs,rfl,SqL.of J,fun p n=>bQ j (lm r l u) (fun p' n'=>(z p' n').ext B) n⟩)
 | con ds =>
   obtain ⟨a,vs,rfl,J,r⟩:=Oc.mp F;exact .inr (.inl ⟨a,vs,rfl,J.sq,fun p n=>bQ j (lm r l u) (fun p' n'=>(z p' n').ext B) n⟩)
 | _=>exact z.elim
end
end
section
section
variable {X:Cx}
noncomputable def tyN (M:Mem):D->Option String
 | .non=>some "NoneType"
 | .bl _=>some "bool"
 | .int _=>some "int"
 | .str _=>some "str"
 | .tup _=>some "tuple"
 | .ref a=>match M a with
  | some (.lst _)=>some "list"
  | some (.dct _ _)=>some "dict"
  | _=>none
 | .con _=>none
 | .fn _=>none
noncomputable def de (T t:String):Bool:=t==T || (t == "bool" && T == "int")
theorem wn {K:Frag} {M:Mem} {H:Hp} {x:D} {t:String} {v:V} (rm:RM K M H) (r:RD K H x v) (e:tyN M x=some t):bF K H v (.type t):=by
 cases x with
 | non=>cases e;cases Oe.mp r;exact .non
 | bl k=>cases e;cases O9.mp r;exact .bl k
 | int i=>cases e;cases O7.mp r;exact .int i
 | str i=>cases e;cases Of.mp r;exact .str i
 | tup ds =>
   cases e
   obtain ⟨a,vs,rfl,j,rs⟩:=Od r;exact .tup j
 | con ds=>cases e
 | fn _=>cases e
 | ref a =>
   cases O8.mp r
   simp only [tyN] at e
   cases e0:M a with
   | none=>rw [e0] at e;cases e
   | some o =>
     rw [e0] at e
     cases o with
     | lst ds =>
       cases e
       obtain ⟨vs,j,rs⟩:=rm _ _ e0;exact .lst j
     | dct t kvs =>
       cases e
       have ro:=rm _ _ e0
       cases t with
       | false=>obtain ⟨ps,j,_⟩:=ro;exact .dK j
       | true=>obtain ⟨ps,j,_⟩:=ro;exact .dT j
     | fdc kvs=>cases e
     | dcn _=>cases e
     | fdn _=>cases e
noncomputable def bR:List String := ["NoneType", "bool", "int", "str", "tuple", "list", "dict"]
theorem j6 (K:Frag):∀ T∈["bool", "int", "str", "tuple", "list", "dict"], ∀ t∈bR,PySem.W.kitOne K (.type t) (.type T)=some (de T t):=by
 intro T j t q;simp only [bR,Eb,Eu,or_false] at j q
 rcases j with rfl | rfl | rfl | rfl | rfl | rfl <;> rcases q with rfl | rfl | rfl | rfl | rfl | rfl | rfl <;> rfl
noncomputable def ii (T:String) (ta:TEd):TEd:=fun ρ M Q=>ta ρ M fun x M1 => ∃ t,tyN M1 x=some t/\Q (.bl (de T t)) M1
theorem rL {T:String} {ta:TEd} (h:ab ta):ab (ii T ta):=fun ρ M Q Q' i q=>h _ _ _ _ (fun x z ⟨t,e,j⟩=>⟨t,e,i _ _ j⟩) q
theorem ot {M:Mem} {x:D} {t:String} (e:tyN M x=some t):t∈bR:=by
 cases x with
 | ref a =>
   simp only [tyN] at e
   cases e0:M a with
   | none=>rw [e0] at e;cases e
   | some o=>rw [e0] at e;cases o <;> cases e <;> simp [bR]
 | con _=>cases e
 | fn _=>cases e
 | _=>cases e;simp [bR]
theorem rM (T:String) (j:T∈["bool", "int", "str", "tuple", "list", "dict"]):CallR X (.builtin "isinstance") (fun vs H Q => ∃ v t,vs=[v, .ty T]/\bF X.K H v (.type t)/\t∈bR/\Q (.bl (de T t)) H):=by
 intro pins s σ H xs us Q I r h;obtain ⟨v,t,rfl,ty,z,q⟩:=h;obtain ⟨u,c,rfl,ru,rc⟩:=ph r
 cases rc
 exact qX I ru ty (j6 X.K T j t z) fun tk=>⟨.bl _,H,I.tok tk,rfl,q⟩
theorem xG {e:Expr} {ta:TEd} {T:String} {y:Str} {p p2 pos:Pos} (L:T∈["bool", "int", "str", "tuple", "list", "dict"]) (m:ab ta) (he:PE X e (lE X.K ta)) (O:Gl X "isinstance") (hm:X.mg "isinstance" = none)
 (z:Gl X y) (B:X.mg y=none) (U:Gs y=some (.type T)) (Y:y ≠ "__name__") (F:(y==("__debug__":Str))=false)
 (hs:Et [e, .Name y p2] X.env=(false,eval e X.env)::Et [.Name y p2] X.env) (G:(Hk pos (Et [.Name y p2] X.env)).any (·.1)=false) :
 PE X (.Call (.Name "isinstance" p) [e, .Name y p2] [] pos) (lE X.K (ii T ta)):=by
 have h2:PE X (.Name y p2) (tC (.ty T)):=iR z B U rfl Y F;refine PE.imp (bp (rM T L) O hm (by decide +kernel) (cg he (cg h2 gU rfl) hs) (by decide) (by decide) hs G) fun σ H Q h => ?_
 obtain ⟨ρ,M,rs,rm,q⟩:=h;exact ⟨ρ,M,rs,rm,m _ _ _ _ (fun x M1 ⟨t,e,Z⟩ v H1 x1 j J=>⟨v,t,rfl,wn j J e,ot e,Z _ H1 x1 j (O9.mpr rfl)⟩) q⟩
noncomputable def wBM (rd:D->List D->Mem->QD->Prop) (to:TEd) (t:TAd):TEd:=fun ρ M Q=>to ρ M fun x M1=>(∃ a xs,x = .ref a/\M1 a=some (.lst xs))/\t ρ M1 fun ds M2=>rd x ds M2 Q
def kj (rd:D->List D->Mem->QD->Prop):Prop := ∀ x ds M Q Q',(∀ d M',Q d M'->Q' d M')->rd x ds M Q->rd x ds M Q'
theorem xH {rd:D->List D->Mem->QD->Prop} {to:TEd} {t:TAd} (j:kj rd) (mo:ab to) (mt:b7 t):ab (wBM rd to t):=fun ρ M Q Q' i q =>
 mo _ _ _ _ (fun x F ⟨e,z⟩=>⟨e,mt _ _ _ _ (fun ds M2 B=>j _ _ _ _ _ i B) z⟩) q
theorem B7 {K:Frag} {M:Mem} {H:Hp} {x:D} {v:V} (rm:RM K M H) (r:RD K H x v) (h:∃ a xs,x = .ref a/\M a=some (.lst xs)):tyV K "list" v H:=by
 obtain ⟨a,xs,rfl,e⟩:=h
 cases O8.mp r
 obtain ⟨vs,j,_⟩:=rm _ _ e;exact .inl ⟨rfl,vs,SqL.of j⟩
theorem xI {K:Frag} {rd:D->List D->Mem->QD->Prop} {r:V->List V->Hp->VK->Prop} {to:TEd} {t:TAd} (L:kj rd) (mo:ab to) (mt:b7 t)
 (O:∀ v vs H Q,lMt K rd v vs H Q->r v vs H Q) (σ:St) (H:Hp) (Q:VK) (h:lE K (wBM rd to t) σ H Q):tBM K "list" r (lE K to) (lA K t) σ H Q:=by
 obtain ⟨ρ,M,rs,rm,q⟩:=h;refine ⟨ρ,M,rs,rm,mo _ _ _ _ (fun x U ⟨e,Y⟩ v H1 G j z=>⟨B7 j z e, ?_⟩) q⟩;refine ⟨ρ,U,rs.mono (G.stab rm),j,mt _ _ _ _ (fun ds M2 Z vs H2 J B F => ?_) Y⟩;exact O v vs H2 Q ⟨x,ds,M2,B,z.mono (J.stab j),F,L _ _ _ _ _ (fun d M' k=>k.ext (G.trans J)) Z⟩
noncomputable def j7:D->List D->Mem->QD->Prop:=fun x ds M Q => ∃ a xs y,x = .ref a/\ds=[y]/\M a=some (.lst xs)/\xs.length < D0/\Q .non (af M a (.lst (xs++[y])))
noncomputable def zQ:D->List D->Mem->QD->Prop:=fun x ds M Q => ∃ a xs,x = .ref a/\ds=[]/\M a=some (.lst xs)/\Q .non (af M a (.lst []))
theorem fT:kj j7:=fun _ _ _ _ _ h ⟨a,xs,y,j,B,F,z,q⟩=>⟨a,xs,y,j,B,F,z,h _ _ q⟩
theorem xJ {K:Frag} {M:Mem} {H:Hp} {Q:VK} {d:D} {v:V} {a:Addr} {o0:O} {ds:List D} {vs:List V} (rm:RM K M H) (m:M a=some o0) (rd:RDs K H ds vs) (r:RD K H d v) (q:KE' K M H Q d (af M a (.lst ds))) (w:fz (some o0)=false:=by rfl) :
 Q v (upd H a (.lst vs)):=by
 have st:Stab H (upd H a (.lst vs)):=rm.stabPut m w;exact q v _ (Ext.put m w) (rm.put m ⟨vs,ar,rd.mono st⟩ w) (r.mono st)
theorem uO {K:Frag} (v:V) (vs:List V) (H:Hp) (Q:VK) (h:lMt K j7 v vs H Q):o8 v vs H Q:=by
 obtain ⟨x,ds,M,rm,rx,rs,a,xs,y,rfl,rfl,e,z,q⟩:=h
 cases O8.mp rx
 obtain ⟨w,rfl,rw'⟩:=rs.one;obtain ⟨us,j,ru⟩:=rm _ _ e;exact ⟨a,us,w,rfl,rfl,j,by rw [ru.length];exact z,xJ rm e (ru.append (RDs.cons rw' RDs.nil)) (Oe.mpr rfl) q⟩
noncomputable abbrev BT:=D->am->Option am
noncomputable abbrev BTs:=List D->am->Option am
noncomputable def bn (i:Nat):BT:=fun d ρ => some (ρ.set i (some d))
noncomputable def gn:BTs:=fun ds ρ => match ds with | [] => some ρ | _=>none
noncomputable def bY (b:BT) (bs:BTs):BTs:=fun ds ρ => match ds with | d::r=>(b d ρ).bind fun ρ'=>bs r ρ' | [] => none
noncomputable def pV (bs:BTs):BT:=fun d ρ => match d with | .tup ds=>bs ds ρ | _=>none
noncomputable def lG (K:Frag) (b:BT):TG:=fun v σ H Q => ∃ d ρ ρ',RD K H d v/\RS K H σ ρ /\ b d ρ = some ρ' /\ ∀ σ',RS K H σ' ρ'->Q σ' H
noncomputable def lGs (K:Frag) (b:BTs):TGs:=fun vs σ H Q => ∃ ds ρ ρ',RDs K H ds vs/\RS K H σ ρ /\ b ds ρ = some ρ' /\ ∀ σ',RS K H σ' ρ'->Q σ' H
theorem PG.imp {e:Expr} {t t':TG} (h:PG X e t) (i:∀ v σ H Q,t' v σ H Q->t v σ H Q):PG X e t':=fun pins s σ H v u Q I r q=>h pins s σ H v u Q I r (i _ _ _ _ q)
theorem PGs.imp {e:List Expr} {t t':TGs} (h:PGs X e t) (i:∀ v σ H Q,t' v σ H Q->t v σ H Q):PGs X e t':=fun pins s σ H v u Q I r q=>h pins s σ H v u Q I r (i _ _ _ _ q)
theorem xK {i:Nat} {x:Str} {pos:Pos} (j:X.N.Nodup) (hi:X.N[i]? = some x) (hx:Loc X.env.scope x) (hf:X.fn x=true∨X.env.scope.names.lookup x=some .local):PG X (.Name x pos) (lG X.K (bn i)) :=
 PG.imp (nX j hi hx hf) fun v σ H Q ⟨d, ρ, ρ',r,rs,e,q⟩=>by
  cases e
  exact q _ (rs.set i r)
theorem xL:PGs X [] (lGs X.K gn):=PGs.imp wU fun vs σ H Q ⟨ds, ρ, ρ',r,rs,e,q⟩=>by
 cases ds with
 | nil=>cases e;exact ⟨RDs.nil_iff.mp r,q σ rs⟩
 | cons _ _=>cases e
theorem uP {e:Expr} {es:List Expr} {b:BT} {bs:BTs} (h1:PG X e (lG X.K b)) (h2:PGs X es (lGs X.K bs)) (hs:(G8 (e::es) X.env).map (·.2)=assign e X.env::(G8 es X.env).map (·.2)) :
 PGs X (e::es) (lGs X.K (bY b bs)):=PGs.imp (tZ h1 h2 hs) fun vs σ H Q ⟨ds, ρ, ρ',r,rs,e,q⟩=>by
 cases ds with
 | nil=>cases e
 | cons d ds =>
   obtain ⟨v,vr,rfl,z,B⟩:=Oa.mp r;simp only [bY] at e
   cases j:b d ρ with
   | none=>rw [j] at e;cases e
   | some ρ1 =>
     rw [j] at e;exact ⟨v,vr,rfl,d, ρ, ρ1,z,rs,j,fun σ' rs'=>⟨ds, ρ1, ρ',B,rs',e,q⟩⟩
theorem zR {es:List Expr} {k:Nat} {bs:BTs} {n:Nat} {pos:Pos} (z:X.calm=true) (hlen:∀ ds ρ ρ',bs ds ρ = some ρ'->ds.length=n) (h:PGs X es (lGs X.K bs)) (B:(G8 es X.env).length=n) (j:(G8 es X.env).findIdx? (·.1)=none) :
 PG X (.Tuple es k pos) (lG X.K (pV bs)):=PG.imp (zg z h B j) fun v σ H Q ⟨d, ρ, ρ',r,rs,e,q⟩=>by
 cases d with
 | tup ds =>
   obtain ⟨a,vs,rfl,F,rv⟩:=Od r;exact ⟨a,vs,rfl,F,by rw [rv.length];exact hlen _ _ _ e,ds, ρ, ρ',rv,rs,e,q⟩
 | _=>cases e
noncomputable abbrev TId:=am->Mem->(List D->(Mem->Prop)->Mem->Prop)->Prop
def bK (T:TId):Prop := ∀ ρ M Q Q',(∀ xs c M',Q xs c M'->Q' xs c M')->T ρ M Q->T ρ M Q'
def Yl (H H':Hp):Prop:=H'=H ∨ ∃ q vs,H q=none/\H'=upd H q (.tup vs)
def eF (K:Frag) (H1:Hp) (xs:List D) (chk:Mem->Prop) (J:It):Prop := ∀ M H,Stab H1 H->RM K M H->chk M -> ∀ i,(xs.length<=i->J.stop i H)/\(i < xs.length->J.go i H /\
 ∀ x H',J.yld i H x H'->Yl H H' /\ ∃ d,xs[i]? = some d/\RD K H' d x)
noncomputable def lI (K:Frag) (T:TId):TI:=fun σ H R => ∃ ρ M,RS K H σ ρ /\ RM K M H/\T ρ M (fun xs chk M1 => ∀ J H1,Ext M H M1 H1->RM K M1 H1->eF K H1 xs chk J->R J H1)
theorem PI.imp {tg e:Expr} {t t':TI} (h:PI X tg e t) (i:∀ σ H Q,t' σ H Q->t σ H Q):PI X tg e t':=fun pins s σ H Q I q=>h pins s σ H Q I (i _ _ _ q)
theorem Yl.ext {K:Frag} {M:Mem} {H H':Hp} (rm:RM K M H) (y:Yl H H'):Ext M H M H'/\RM K M H':=by
 rcases y with rfl | ⟨q,vs,n,rfl⟩
 ·exact ⟨Ext.refl,rm⟩
 ·exact ⟨Og n,rm.new n⟩
noncomputable def BQ (K:Frag) (tl:TE):TI:=fun σ H R=>tl σ H fun x H1 => ∃ a,x = .ref a/\(((∃ xs,SqL K H1 a xs)/\R (Itl K a) H1)∨((∃ xs,SqT K H1 a xs)/\R (Itt K a) H1))
theorem zS {tg l:Expr} {tl:TE} (F:PE X l tl):PI X tg l (BQ X.K tl):=by
 intro pins s σ H R I h;refine thn (F pins s σ H _ I h) fun v s1 ⟨x,H1,j,G,J⟩ => ?_;obtain ⟨a,e,q⟩:=J;subst e
 cases G
 rcases q with ⟨⟨xs,z⟩,q⟩ | ⟨⟨xs,z⟩,q⟩
 ·obtain ⟨its,rv,p,hz⟩:=j.list z;refine Gk p.isList ?_;refine ⟨s1.heap.objs.size,[s1.heap.objs.size],_,_,H1,rfl,j.kept (t':=s1.toks) fun b o e=>g0 _ e,qR a _,⟨_,D1 _ rfl,rfl,rfl⟩,fun b B => ?_,q⟩;have e:b=s1.heap.objs.size:=by simpa using B
  subst e;exact j.fpOk (Ec _) (j.hok.fresh (Ec _))
 ·obtain ⟨its,rv,p,hz⟩:=j.tuple z;refine FV (show s1.heap.IsTuple a its.toArray from p) ?_;refine ⟨s1.heap.objs.size,[s1.heap.objs.size],_,_,H1,rfl,j.kept (t':=s1.toks) fun b o e=>g0 _ e,oZ a _,⟨_,D1 _ rfl,rfl,rfl⟩,fun b B => ?_,q⟩;have e:b=s1.heap.objs.size:=by simpa using B
  subst e;exact j.fpOk (Ec _) (j.hok.fresh (Ec _))
noncomputable def ln (ta:TEd):TId:=fun ρ M R=>ta ρ M fun x M1 => ∃ ds,aq M1 x=some ds/\R ds (fun M=>aq M x=some ds) M1
theorem uQ {ta:TEd} (h:ab ta):bK (ln ta):=fun ρ M Q Q' i q=>h _ _ _ _ (fun x z ⟨ds,e,j⟩=>⟨ds,e,i _ _ _ j⟩) q
theorem rN {K:Frag} {H1:Hp} {a:Addr} {ds:List D} {chk:Mem->Prop} (h:∀ M H,Stab H1 H->RM K M H->chk M -> ∃ vs,SqL K H a vs/\RDs K H ds vs):eF K H1 ds chk (Itl K a):=fun M H st rm c i=>by
 obtain ⟨vs,sq,r⟩:=h M H st rm c;have l:=r.length;refine ⟨fun hi=>⟨vs,sq,by lia⟩,fun hi=>⟨⟨vs,vs[i]'(by lia),sq,h7 (by lia)⟩,fun x H' y => ?_⟩⟩
 obtain ⟨e,y⟩:=y;subst e;exact ⟨.inl rfl,r.getV (y vs sq)⟩
theorem zT {K:Frag} {H1:Hp} {a:Addr} {ds:List D} {chk:Mem->Prop} (h:∀ M H,Stab H1 H->RM K M H->chk M -> ∃ vs,SqT K H a vs/\RDs K H ds vs):eF K H1 ds chk (Itt K a):=fun M H st rm c i=>by
 obtain ⟨vs,sq,r⟩:=h M H st rm c;have l:=r.length;refine ⟨fun hi=>⟨vs,sq,by lia⟩,fun hi=>⟨⟨vs,vs[i]'(by lia),sq,h7 (by lia)⟩,fun x H' y => ?_⟩⟩
 obtain ⟨e,y⟩:=y;subst e;exact ⟨.inl rfl,r.getV (y vs sq)⟩
theorem zU {tg l:Expr} {ta:TEd} (m:ab ta) (G:PE X l (lE X.K ta)):PI X tg l (lI X.K (ln ta)):=by
 refine PI.imp (zS G) fun σ H R h => ?_;obtain ⟨ρ,M,rs,rm,q⟩:=h;refine ⟨ρ,M,rs,rm,m _ _ _ _ (fun x L ⟨ds,e,B⟩ v H1 F j rd1 => ?_) q⟩
 cases x with
 | tup es =>
   cases e
   obtain ⟨a,vs,rfl,z,rv⟩:=Od rd1;exact ⟨a,rfl, .inr ⟨⟨vs,z⟩,B _ H1 F j (zT fun M' H' st _ _=>⟨vs,st.sqT z,rv.mono st⟩)⟩⟩
 | con es =>
   cases e
   obtain ⟨a,vs,rfl,z,rv⟩:=Oc.mp rd1;exact ⟨a,rfl, .inl ⟨⟨vs,z.sq⟩,B _ H1 F j (rN fun M' H' st _ _=>⟨vs,(st.sqF z).sq,rv.mono st⟩)⟩⟩
 | ref a =>
   cases O8.mp rd1
   have get:∀ {M':Mem} {es:List D},aq M' (.ref a)=some es->M' a=some (.lst es):=fun {M' es} e=>by
    simp only [aq] at e
    cases e0:M' a with
    | none=>rw [e0] at e;cases e
    | some o =>
      rw [e0] at e
      cases o with
      | dct _ _=>cases e
      | fdc _=>cases e
      | dcn _=>cases e
      | fdn _=>cases e
      | lst es'=>cases e;rfl
   obtain ⟨vs,z,rv⟩:=j _ _ (get e);exact ⟨a,rfl, .inl ⟨⟨vs,SqL.of z⟩,B _ H1 F j (rN fun M' H' st rm' c=>by
    obtain ⟨us,J,ru⟩:=rm' _ _ (get c);exact ⟨us,SqL.of J,ru⟩)⟩⟩
 | _=>cases e
noncomputable def b8 (lo:Int) (n:Nat):List D:=(ED n).map fun i => .int (lo+(i:Nat))
theorem zV {K:Frag} {H1:Hp} {lo:Int} {n:Nat}:eF K H1 (b8 lo n) (fun _=>True) (Itr lo n):=fun M H st rm c i=>by
 have l:(b8 lo n).length=n:=by simp [b8]
 refine ⟨fun hi=>by show n<=i;lia,fun hi=>⟨by show i < n;lia,fun x H' y => ?_⟩⟩
 obtain ⟨e,y⟩:=y;subst e y;refine ⟨.inl rfl, .int (lo+i), ?_,O7.mpr rfl⟩;simp only [b8,Eo,Lm (show i < n by lia),HV]
noncomputable def ik (ta:TAd):TId:=fun ρ M R=>ta ρ M fun ds M1 => ∃ j:Int,ds=[.int j] /\ -(2 ^ 62)<=j/\j < 2 ^ 62/\R (b8 0 j.toNat) (fun _=>True) M1
theorem rO {ta:TAd} (h:b7 ta):bK (ik ta):=fun ρ M Q Q' i q=>h _ _ _ _ (fun x B ⟨j,e,a,b,z⟩=>⟨j,e,a,b,i _ _ _ z⟩) q
theorem xM {tg a:Expr} {ta:TAd} {p pos:Pos} (m:b7 ta) (B:Gl X "range") (hm:X.mg "range" = none) (F:PA X [a] (lA X.K ta)) (hs:Et [a] X.env=[(false,eval a X.env)]):PI X tg (.Call (.Name "range" p) [a] [] pos) (lI X.K (ik ta)):=by
 refine PI.imp (qS B hm F hs) fun σ H R h => ?_;obtain ⟨ρ,M,rs,rm,q⟩:=h;refine ⟨ρ,M,rs,rm,m _ _ _ _ (fun ds U ⟨j,e,G,J,L⟩ vs H1 O z rd1 => ?_) q⟩;subst e;obtain ⟨v,rfl,r⟩:=rd1.one
 cases O7.mp r
 exact ⟨j,rfl,G,J,L _ H1 O z zV⟩
end
end
section
section
variable {X:Cx}
noncomputable def isT:D->Bool | .tup _=>true | _=>false
theorem dE {K:Frag} {M:Mem} {H:Hp} {x:D} {ds:List D} {v:V} (rm:RM K M H) (r:RD K H x v) (e:aq M x=some ds):∃ p vs,v = .ref p/\SqV K (isT x) H p vs/\RDs K H ds vs:=by
 cases x with
 | tup es =>
   cases e
   obtain ⟨a,vs,rfl,j,rv⟩:=Od r;exact ⟨a,vs,rfl,j,rv⟩
 | con es =>
   cases e
   obtain ⟨a,vs,rfl,j,rv⟩:=Oc.mp r;exact ⟨a,vs,rfl,j.sq,rv⟩
 | ref a =>
   cases O8.mp r
   simp only [aq] at e
   cases e0:M a with
   | none=>rw [e0] at e;cases e
   | some o =>
     rw [e0] at e
     cases o with
     | dct _ _=>cases e
     | fdc _=>cases e
     | dcn _=>cases e
     | fdn _=>cases e
     | lst es =>
       cases e
       obtain ⟨vs,j,rv⟩:=rm _ _ e0;exact ⟨a,vs,rfl,SqL.of j,rv⟩
 | _=>cases e
noncomputable def il (x y:D):D := .tup [x,y]
noncomputable def lq (ta tb:TEd):TId:=fun ρ M R=>aF ta (aF tb bm) ρ M fun ds M1 => ∃ x y xs ys,ds=[x,y]/\aq M1 x=some xs/\aq M1 y=some ys/\R (HC il xs ys) (fun M=>aq M x=some xs/\aq M y=some ys) M1
theorem uR {ta tb:TEd} (j:ab ta) (z:ab tb):bK (lq ta tb):=fun ρ M Q Q' i q=>aE j (aE z aD) _ _ _ _ (fun ds J ⟨x,y,xs,ys,e,B,F,G⟩=>⟨x,y,xs,ys,e,B,F,i _ _ _ G⟩) q
theorem lu {H:Hp} {p:Addr} {o:HO} (n:H p=none):Stab H (upd H p o):=⟨fun a xs e=>by rw [ak (fun z=>by rw [z,n] at e;cases e)];exact e,fun a o u e=>by rw [ak (fun z=>by rw [z,n] at e;cases e)];exact e⟩
theorem zW {K:Frag} {H1:Hp} {x y:D} {xs ys:List D} {a b:Addr} (rx:RD K H1 x (.ref a)) (ry:RD K H1 y (.ref b)):eF K H1 (HC il xs ys) (fun M=>aq M x=some xs/\aq M y=some ys) (Itz K (isT x) (isT y) a b):=fun M H st rm c i=>by
 obtain ⟨Y,vs,L,j,G⟩:=dE rm (rx.mono st) c.1;obtain ⟨p2,us,O,q,J⟩:=dE rm (ry.mono st) c.2
 cases L
 cases O
 have l1:=G.length;have l2:=J.length;have lz:(HC il xs ys).length=min xs.length ys.length:=List.length_zipWith;refine ⟨fun hi=>⟨vs,us,j,q,by lia⟩,fun hi=>⟨⟨vs,us,vs[i]'(by lia),us[i]'(by lia),j,q,h7 (by lia),h7 (by lia)⟩,fun v H' U => ?_⟩⟩
 obtain ⟨p,v1,v2,n,rfl,rfl,g⟩:=U;obtain ⟨g1,g2⟩:=g vs us j q;obtain ⟨d1,z,B⟩:=G.getV g1;obtain ⟨d2,hd2,F⟩:=J.getV g2;have sb:=lu (o := .tup [v1,v2]) n;refine ⟨.inr ⟨p,[v1,v2],n,rfl⟩, .tup [d1,d2], ?_,Oh ⟨p,[v1,v2],rfl,ar,RDs.cons (B.mono sb) (RDs.cons (F.mono sb) RDs.nil)⟩⟩;rw [List.getElem?_zipWith,z,hd2];rfl
theorem zX {elts:List Expr} {cx} {pos p pos':Pos} {a b:Expr} {ta tb:TEd} (ma:ab ta) (mb:ab tb) (G:Gl X "zip") (hm:X.mg "zip" = none) (J:PA X [a,b] (lA X.K (aF ta (aF tb bm)))) (hs:Et [a,b] X.env=[(false,eval a X.env),(false,eval b X.env)]) (z:Et [b] X.env=[(false,eval b X.env)]) :
 PI X (.Tuple elts cx pos) (.Call (.Name "zip" p) [a,b] [] pos') (lI X.K (lq ta tb)):=by
 refine PI.imp (zA G hm J hs z) fun σ H R h => ?_;obtain ⟨ρ,M,rs,rm,q⟩:=h;refine ⟨ρ,M,rs,rm,aE ma (aE mb aD) _ _ _ _ (fun ds M1 ⟨x,y,xs,ys,e,L,O,U⟩ vs H1 Y j rd1 => ?_) q⟩;subst e;obtain ⟨v,u,rfl,B,F⟩:=rd1.two;obtain ⟨Z,vs,rfl,s1,_⟩:=dE j B L;obtain ⟨p2,us,rfl,s2,_⟩:=dE j F O;exact ⟨Z,p2,isT x,isT y,vs,us,rfl,s1,s2,U _ H1 Y j (zW B F)⟩
end
end
section
section
variable {X:Cx}
noncomputable def dl (xs:List D):List D:=xs.mapIdx fun i x => .tup [.int (i:Nat),x]
noncomputable def im (ta:TEd):TId:=fun ρ M R=>ta ρ M fun x M1 => ∃ xs,aq M1 x=some xs/\R (dl xs) (fun M=>aq M x=some xs) M1
theorem rP {ta:TEd} (h:ab ta):bK (im ta):=fun ρ M Q Q' i q=>h _ _ _ _ (fun x z ⟨ds,e,j⟩=>⟨ds,e,i _ _ _ j⟩) q
theorem zY {K:Frag} {H1:Hp} {x:D} {xs:List D} {a:Addr} (rx:RD K H1 x (.ref a)):eF K H1 (dl xs) (fun M=>aq M x=some xs) (Ite K (isT x) a):=fun M H st rm c i=>by
 obtain ⟨J,vs,F,j,B⟩:=dE rm (rx.mono st) c
 cases F
 have l1:=B.length;have lz:(dl xs).length=xs.length:=by simp [dl]
 refine ⟨fun hi=>⟨vs,j,by lia⟩,fun hi=>⟨⟨vs,vs[i]'(by lia),j,h7 (by lia)⟩,fun v H' G => ?_⟩⟩
 obtain ⟨p,v1,n,rfl,rfl,g⟩:=G;obtain ⟨d1,q,z⟩:=B.getV (g vs j);have sb:=lu (o := .tup [.int (i:Nat),v1]) n;refine ⟨.inr ⟨p,[.int (i:Nat),v1],n,rfl⟩, .tup [.int (i:Nat),d1], ?_,Oh ⟨p,[.int (i:Nat),v1],rfl,ar,RDs.cons (O7.mpr rfl) (RDs.cons (z.mono sb) RDs.nil)⟩⟩;simp [dl,GJ,q]
theorem xN {elts:List Expr} {cx} {pos p pos':Pos} {a:Expr} {ta:TEd} (ma:ab ta) (B:Gl X "enumerate") (hm:X.mg "enumerate" = none) (F:PA X [a] (lA X.K (aF ta bm))) (hs:Et [a] X.env=[(false,eval a X.env)]) :
 PI X (.Tuple elts cx pos) (.Call (.Name "enumerate" p) [a] [] pos') (lI X.K (im ta)):=by
 refine PI.imp (xf B hm F hs) fun σ H R h => ?_;obtain ⟨ρ,M,rs,rm,q⟩:=h;refine ⟨ρ,M,rs,rm,ma _ _ _ _ (fun x U ⟨xs,G,J⟩ vs H1 L j rd1 => ?_) q⟩;obtain ⟨v,rfl,z⟩:=rd1.one;obtain ⟨O,us,rfl,s1,_⟩:=dE j z G;exact ⟨O,isT x,us,rfl,s1,J _ H1 L j (zY z)⟩
end
end
section
noncomputable abbrev NC:=am->Mem->List D->Prop
noncomputable abbrev TCd:=am->Mem->List D->NC->Prop
def bC (T:TCd):Prop := ∀ ρ M acc N N',(∀ ρ' M' acc',N ρ' M' acc'->N' ρ' M' acc')->T ρ M acc N->T ρ M acc N'
structure ExtP (p:Addr) (M:Mem) (H:Hp) (M':Mem) (H':Hp):Prop where
 kp:∀ a o,a≠p->fz (M a)=true->H a=some o->H' a=some o
 nw:∀ a o,fz (M a)=true->H a=some o->M' a=M a
section
variable {K:Frag} {M M' M'':Mem} {H H' H'':Hp} {p:Addr}
theorem ExtP.new (x:ExtP p M H M' H') (a:Addr) (o:HO) (n:M a=none) (e:H a=some o):M' a=none:=(x.nw a o (by rw [n];rfl) e).trans n
theorem Ext.toP (x:Ext M H M' H'):ExtP p M H M' H':=⟨fun a o _=>x.kp a o,x.nw⟩
theorem ExtP.refl:ExtP p M H M H:=⟨fun _ _ _ _ h=>h,fun _ _ _ _=>rfl⟩
theorem ExtP.trans {vs:List V} (a:ExtP p M H M' H') (q:H p=some (.lst vs)) (j:∃ vs',H' p=some (.lst vs')) (b:ExtP p M' H' M'' H''):ExtP p M H M'' H'' :=
 ⟨fun c o ne n h=>b.kp c o ne (by rw [a.nw c o n h];exact n) (a.kp c o ne n h),fun c o n h=>by
   have n':fz (M' c)=true:=by rw [a.nw c o n h];exact n
   refine Eq.trans ?_ (a.nw c o n h)
   by_cases z:c=p
   ·subst z;obtain ⟨vs',e⟩:=j;exact b.nw c _ n' e
   ·exact b.nw c o n' (a.kp c o z n h)⟩
theorem ExtP.stab {vs:List V} (r:RM K M H) (j:H p=some (.lst vs)) (x:ExtP p M H M' H'):Stab H H' where
 tup:=fun a xs e=>x.kp a _ (fun z=>by subst z;rw [j] at e;cases e) (by rw [r.fzT e];rfl) e
 frz:=fun a o u e=>x.kp a _ (fun z=>by subst z;rw [j] at e;cases e) (r.fzF e) e
theorem lw {vs:List V} {ho:HO} (j:H p=some (.lst vs)):Stab H (upd H p ho) :=
 ⟨fun a xs e=>by rw [ak (fun z=>by subst z;rw [j] at e;cases e)];exact e,fun a o u e=>by rw [ak (fun z=>by subst z;rw [j] at e;cases e)];exact e⟩
theorem RM.side {vs:List V} {ho:HO} (r:RM K M H) (n:M p=none) (j:H p=some (.lst vs)):RM K M (upd H p ho):=fun a o e=>by
 have ne:a≠p:=fun z=>by subst z;rw [n] at e;cases e
 exact (r a o e).mono (lw j) fun B q=>by rw [ak ne];exact q
end
def ff (K:Frag) (H:Hp) (p:Addr) (acc:List D):Prop := ∃ vs,H p=some (.lst vs)/\RDs K H acc vs
noncomputable def KC (K:Frag) (p:Addr) (M:Mem) (H:Hp) (N:St->Hp->Prop):NC:=fun ρ' M' acc' => ∀ σ' H',ExtP p M H M' H'->RS K H' σ' ρ'->RM K M' H'->ff K H' p acc'->N σ' H'
noncomputable def lC (K:Frag) (p:Addr) (T:TCd):TC:=fun σ H N => ∃ ρ M acc,RS K H σ ρ /\ RM K M H/\M p=none/\ff K H p acc/\T ρ M acc (KC K p M H N)
theorem KC.ext {K:Frag} {p:Addr} {M M2 M':Mem} {H H2:Hp} {N:St->Hp->Prop} {ρ:am} {acc:List D} {vs:List V} (q:H p=some (.lst vs)) (j:∃ vs',H2 p=some (.lst vs')) (x:ExtP p M H M2 H2) (h:KC K p M H N ρ M' acc):KC K p M2 H2 N ρ M' acc :=
 fun σ' H' y=>h σ' H' (x.trans q j y)
noncomputable def bM (te:TEd):TCd:=fun ρ M acc N=>te ρ M fun x M1=>acc.length < D0/\N ρ M1 (acc++[x])
noncomputable def b6:List TTd->TCd->TCd
 | [],tb=>tb
 | t::r,tb=>fun ρ M acc N=>t ρ M fun b M1=>if b=true then b6 r tb ρ M1 acc N else N ρ M1 acc
noncomputable def aY (b:BT) (tb:TCd) (chk:Mem->Prop) (N:NC):List D->NC
 | [] => fun ρ M acc=>chk M/\N ρ M acc
 | x::xs=>fun ρ M acc=>chk M /\ ∃ ρ',b x ρ = some ρ'/\tb ρ' M acc (aY b tb chk N xs)
noncomputable def cT (src:TId) (b:BT) (tb:TCd):TCd:=fun ρ M acc N=>src ρ M fun xs chk M1=>aY b tb chk N xs ρ M1 acc
noncomputable def fg (fr:List (Option Nat)) (src:TId) (b:BT) (tb:TCd):TEd:=fun ρ M Q=>src ρ M fun xs chk M1=>aY b tb chk (fun _ M' acc => ∀ p,M' p=none->Q (.ref p) (af M' p (.lst acc))) xs (iX fr ρ) M1 []
theorem bb {te:TEd} (h:ab te):bC (bM te):=fun ρ M acc N N' i q=>h _ _ _ _ (fun x B ⟨z,j⟩=>⟨z,i _ _ _ j⟩) q
theorem aG {tb:TCd} (z:bC tb):∀ {ts:List TTd},(∀ t∈ts,aB t)->bC (b6 ts tb)
 | [],_=>z
 | t::r,h=>fun ρ M acc N N' i q=>h t Fl _ _ _ _ (fun b F j=>by
   cases b with
   | true=>rw [if_pos rfl] at j ⊢;exact aG z (fun t' B=>h t' (Ez _ B)) _ _ _ _ _ i j
   | false=>rw [if_neg D2] at j ⊢;exact i _ _ _ j) q
theorem eG {b:BT} {tb:TCd} (z:bC tb) {chk:Mem->Prop} {N N':NC} (i:∀ ρ' M' acc',N ρ' M' acc'->N' ρ' M' acc'):∀ (xs:List D) (ρ:am) (M:Mem) (acc:List D),aY b tb chk N xs ρ M acc->aY b tb chk N' xs ρ M acc
 | [], ρ,M,acc,h=>⟨h.1,i _ _ _ h.2⟩
 | x::xs, ρ,M,acc,⟨c, ρ',e,q⟩=>⟨c, ρ',e,z _ _ _ _ _ (fun ρ2 M2 j B=>eG z i xs ρ2 M2 j B) q⟩
theorem fU {src:TId} {b:BT} {tb:TCd} (hs:bK src) (j:bC tb):bC (cT src b tb):=fun ρ M acc N N' i q=>hs _ _ _ _ (fun xs c B z=>eG j i xs _ _ _ z) q
theorem jB {fr:List (Option Nat)} {src:TId} {b:BT} {tb:TCd} (hs:bK src) (j:bC tb):ab (fg fr src b tb):=fun ρ M Q Q' i q =>
 hs _ _ _ _ (fun xs c F z=>eG j (fun _ M' acc B p n=>i _ _ (B p n)) xs _ _ _ z) q
section
variable {K:Frag} {p:Addr}
theorem eI {te:TEd} (m:ab te) (σ:St) (H:Hp) (N:St->Hp->Prop) (h:lC K p (bM te) σ H N):wg p (lE K te) σ H N:=by
 obtain ⟨ρ,M,acc,rs,rm,n,⟨vs,L,ra⟩,q⟩:=h;refine ⟨ρ,M,rs,rm,m _ _ _ _ (fun x Y ⟨z,O⟩ v H1 F G J => ?_) q⟩;have j:=F.keep p _ n L;have U:=F.new p _ n L;have st:=F.stab rm;have B:Stab H1 (upd H1 p (.lst (vs++[v]))):=lw j;refine ⟨vs,j,by rw [ra.length];exact z,O σ _ ⟨fun a o ne m' e => ?_,F.nw⟩ ((rs.mono st).mono B) (G.side U j) ⟨vs++[v],ar,((ra.mono st).mono B).append (RDs.cons (J.mono B) RDs.nil)⟩⟩
 rw [ak ne];exact F.kp a o m' e
theorem io {tb:TCd} (mb:bC tb):∀ {ts:List TTd},(∀ t∈ts,aB t) -> ∀ (σ:St) (H:Hp) (N:St->Hp->Prop),lC K p (b6 ts tb) σ H N->gZ (ts.map (lT K)) (lC K p tb) σ H N
 | [],_, σ,H,N,h=>h
 | t::r,hm, σ,H,N,h=>by
   obtain ⟨ρ,M,acc,rs,rm,n,⟨vs,G,ra⟩,q⟩:=h;refine ⟨ρ,M,rs,rm,hm t Fl _ _ _ _ (fun b L F H1 z B => ?_) q⟩;have j:=z.keep p _ n G;have O:=z.new p _ n G;have st:=z.stab rm
   cases b with
   | false =>
     rw [if_neg D2] at F;dsimp only;rw [if_neg D2];exact F σ H1 z.toP (rs.mono st) B ⟨vs,j,ra.mono st⟩
   | true =>
     rw [if_pos rfl] at F;dsimp only;rw [if_pos rfl];exact io mb (fun t' J=>hm t' (Ez _ J)) σ H1 N ⟨ρ,L,acc,rs.mono st,B,O,⟨vs,j,ra.mono st⟩,
      aG mb (fun t' J=>hm t' (Ez _ J)) _ _ _ _ _ (fun ρ' M' acc' k=>k.ext G ⟨vs,j⟩ z.toP) F⟩
theorem jC {b:BT} {tb:TCd} (mb:bC tb) {xs:List D} {chk:Mem->Prop} {J:It} {H1:Hp} {B:Mem} {Nd:NC} {N:St->Hp->Prop} {σ:St} {ρ:am} {acc:List D} (it:eF K H1 xs chk J) (rs:RS K H1 σ ρ) (rm:RM K B H1) (n:B p=none)
 (ac:ff K H1 p acc) (q:aY b tb chk Nd xs ρ B acc) (hN:∀ ρ' M' acc' σ' H',ExtP p B H1 M' H'->RS K H' σ' ρ'->RM K M' H'->ff K H' p acc'->Nd ρ' M' acc'->N σ' H') :
 bU J (lG K b) (lC K p tb) N σ H1:=by
 obtain ⟨BY,F,_⟩:=id ac;refine ⟨fun i m σ H=>m=xs.length - i/\i<=xs.length /\ ∃ ρ M acc,RS K H σ ρ /\ RM K M H/\M p=none/\ff K H p acc/\ExtP p B H1 M H/\aY b tb chk Nd (xs.drop i) ρ M acc,⟨xs.length,by simp,Gc _, ρ,B,acc,rs,rm,n,ac,ExtP.refl,q⟩, ?_⟩
 rintro i m σ H ⟨rfl,hi, ρ,M,acc,rs,j,n,ac,x,q⟩;have st:=x.stab rm F;obtain ⟨vs,hp,ra⟩:=id ac
 by_cases z:i < xs.length
 ·rw [F7 z] at q;obtain ⟨c, ρ',hb,q⟩:=q;obtain ⟨go,yl⟩:=(it M H st j c i).2 z;refine .inr ⟨go,fun σ' H' => ∃ m',m' < xs.length - i/\(m'=xs.length - (i+1)/\i+1<=xs.length /\ ∃ ρ M acc,RS K H' σ' ρ /\ RM K M H'/\M p=none/\ff K H' p acc/\ExtP p B H1 M H'/\aY b tb chk Nd (xs.drop (i+1)) ρ M acc),fun σ' H' h=>h,fun x' H' y => ?_⟩;obtain ⟨yy,d,hd,rd⟩:=yl x' H' y;rw [h7 z] at hd
  cases hd
  obtain ⟨xy,rmy⟩:=yy.ext j;have sty:=xy.stab j;have G:=xy.keep p _ n hp;refine ⟨_, ρ, ρ',rd,rs.mono sty,hb,fun σ2 O => ?_⟩;refine ⟨ρ',M,acc,O,rmy,n,⟨vs,G,ra.mono sty⟩,mb _ _ _ _ _ (fun ρ3 M3 L q3 σ3 H3 x3 U Y Z => ?_) q⟩;have n3:M3 p=none:=x3.new p _ n G;exact ⟨xs.length - (i+1),by lia,rfl,z, ρ3,M3,L,U,Y,n3,Z,(x.trans F ⟨vs,hp⟩ xy.toP).trans F ⟨vs,G⟩ x3,q3⟩
 ·have e:i=xs.length:=by lia
  subst e;rw [MX] at q;exact .inl ⟨(it M H st j q.1 _).1 (Ec _),hN ρ M acc σ H x rs j ac q.2⟩
theorem fV {src:TId} {b:BT} {tb:TCd} (ms:bK src) (mb:bC tb) (σ:St) (H:Hp) (N:St->Hp->Prop) (h:lC K p (cT src b tb) σ H N):(lI K src) σ H fun J H1=>bU J (lG K b) (lC K p tb) N σ H1:=by
 obtain ⟨ρ,M,acc,rs,rm,n,⟨vs,B,ra⟩,q⟩:=h;refine ⟨ρ,M,rs,rm,ms _ _ _ _ (fun xs chk O G J H1 z F it => ?_) q⟩;have j:=z.keep p _ n B;have L:=z.new p _ n B;have st:=z.stab rm;exact jC mb it (rs.mono st) F L ⟨vs,j,ra.mono st⟩ G fun ρ' M' acc' σ' H' x2 rs' rm' ac' k=>k σ' H' (z.toP.trans B ⟨vs,j⟩ x2) rs' rm' ac'
theorem dm {fr:List (Option Nat)} {src:TId} {b:BT} {tb:TCd} (ms:bK src) (mb:bC tb) (σ:St) (H:Hp) (Q:VK) (h:lE K (fg fr src b tb) σ H Q):pG (lI K src) (lG K b) (fun p=>lC K p tb) fr σ H Q:=by
 obtain ⟨ρ,M,rs,rm,q⟩:=h;refine ⟨ρ,M,rs,rm,ms _ _ _ _ (fun xs chk G U J H1 F j it p n => ?_) q⟩;have st:=F.stab rm;have xn:Ext G H1 G (upd H1 p (.lst [])):=Og n;have stn:=xn.stab j;have O:G p=none:=j.out n;refine jC (p:=p) mb (xs:=xs) (chk:=chk) (fun M' H' st'=>it M' H' ⟨fun a xs e=>st'.tup _ _ (stn.tup _ _ e),fun a o u e=>st'.frz _ _ _ (stn.frz _ _ _ e)⟩) (((rs.mono st).mono stn).inh fr) (j.new n) O ⟨[],ar,RDs.nil⟩ U fun ρ' M' acc' σ' H' L rs' rm' ac' k => ?_;obtain ⟨vs,Y,ra⟩:=ac';have n':M' p=none:=L.new p _ O ar;refine k p n' (.ref p) H' ⟨fun a o m e => ?_,fun a o m e => ?_⟩ (fun a o e => ?_) (O8.mpr rfl)
 ·have B:=F.kp a o m e;have ne:a≠p:=fun z=>by subst z;rw [n] at B;cases B
  exact L.kp a o ne (by rw [F.nw a o m e];exact m) (by rw [ak ne];exact B)
 ·have B:=F.kp a o m e;have ne:a≠p:=fun z=>by subst z;rw [n] at B;cases B
  rw [ah ne];exact (L.nw a o (by rw [F.nw a o m e];exact m) (by rw [ak ne];exact B)).trans (F.nw a o m e)
 ·by_cases z:a=p
  ·subst z;rw [ad] at e;cases e;exact ⟨vs,Y,ra⟩
  ·rw [ah z] at e;exact rm' a o e
end
end
section
noncomputable def fh:TSd:=fun D ρ M=>D.nx ρ M
noncomputable def lB (t u:TSd):TSd:=fun D ρ M=>t { D with nx:=u D } ρ M
noncomputable def eJ:TSd:=fun D ρ M=>D.bk ρ M
noncomputable def iq:TSd:=fun D ρ M=>D.ct ρ M
noncomputable def iu (te:TEd):TSd:=fun D ρ M=>te ρ M fun _ M1=>D.nx ρ M1
noncomputable def lD (te:TEd):TSd:=fun D ρ M=>te ρ M D.rt
noncomputable def sIf (c:TTd) (t u:TSd):TSd:=fun D ρ M=>c ρ M fun b M1=>if b=true then t D ρ M1 else u D ρ M1
noncomputable def gp (te:TEd) (b:BT):TSd:=fun D ρ M=>te ρ M fun x M1 => ∃ ρ',b x ρ = some ρ'/\D.nx ρ' M1
noncomputable def lF (ta:TAd) (bs:BTs):TSd:=fun D ρ M=>ta ρ M fun xs M1 => ∃ ρ',bs xs ρ = some ρ'/\D.nx ρ' M1
noncomputable def bf (b:BT) (tb:TSd) (chk:Mem->Prop) (D:bA):List Mi.D->am->Mem->Prop
 | [] => fun ρ M=>chk M/\D.nx ρ M
 | x::xs=>fun ρ M=>chk M /\ ∃ ρ',b x ρ = some ρ'/\tb { D with nx:=bf b tb chk D xs,ct:=bf b tb chk D xs,bk:=D.nx } ρ' M
noncomputable def lH (src:TId) (b:BT) (tb:TSd):TSd:=fun D ρ M=>src ρ M fun xs chk M1=>bf b tb chk D xs ρ M1
noncomputable def aH (c:TTd) (tb:TSd) (D:bA):Nat->am->Mem->Prop
 | 0=>fun _ _=>False
 | n+1=>fun ρ M=>c ρ M fun b M1=>if b=true then tb { D with nx:=aH c tb D n,ct:=aH c tb D n,bk:=D.nx } ρ M1 else D.nx ρ M1
noncomputable def eK (c:TTd) (tb:TSd):TSd:=fun D ρ M => ∃ n,aH c tb D n ρ M
theorem jD:ax fh:=fun _ _ _ _ h q=>h.nx _ _ q
theorem pW:ax eJ:=fun _ _ _ _ h q=>h.bk _ _ q
theorem rQ:ax iq:=fun _ _ _ _ h q=>h.ct _ _ q
theorem rR {t u:TSd} (j:ax t) (z:ax u):ax (lB t u):=fun a b ρ M h q=>j { a with nx:=u a } { b with nx:=u b } _ _ ⟨fun ρ' M' q'=>z _ _ _ _ h q',h.rt,h.bk,h.ct⟩ q
theorem rS {te:TEd} (h:ab te):ax (iu te):=fun a b ρ M i q=>h _ _ _ _ (fun _ z j=>i.nx _ _ j) q
theorem uS {te:TEd} (h:ab te):ax (lD te):=fun a b ρ M i q=>h _ _ _ _ (fun d z j=>i.rt _ _ j) q
theorem uT {c:TTd} {t u:TSd} (z:aB c) (B:ax t) (F:ax u):ax (sIf c t u):=fun a b ρ M i q=>z _ _ _ _ (fun k G j=>by
 cases k with
 | true=>rw [if_pos rfl] at j ⊢;exact B _ _ _ _ i j
 | false=>rw [if_neg D2] at j ⊢;exact F _ _ _ _ i j) q
theorem uU {te:TEd} {bt:BT} (h:ab te):ax (gp te bt):=fun a b ρ M i q=>h _ _ _ _ (fun d z ⟨ρ',e,j⟩=>⟨ρ',e,i.nx _ _ j⟩) q
theorem uV {ta:TAd} {bs:BTs} (h:b7 ta):ax (lF ta bs):=fun a b ρ M i q=>h _ _ _ _ (fun d z ⟨ρ',e,j⟩=>⟨ρ',e,i.nx _ _ j⟩) q
theorem eL {bt:BT} {tb:TSd} (j:ax tb) {chk:Mem->Prop} {a b:bA} (i:LeD a b):∀ (xs:List D) (ρ:am) (M:Mem),bf bt tb chk a xs ρ M->bf bt tb chk b xs ρ M
 | [], ρ,M,h=>⟨h.1,i.nx _ _ h.2⟩
 | x::xs, ρ,M,⟨c, ρ',e,q⟩=>⟨c, ρ',e,j { a with nx:=bf bt tb chk a xs,ct:=bf bt tb chk a xs,bk:=a.nx } { b with nx:=bf bt tb chk b xs,ct:=bf bt tb chk b xs,bk:=b.nx } _ _ ⟨fun ρ2 M2 z=>eL j i xs ρ2 M2 z,i.rt,i.nx,fun ρ2 M2 z=>eL j i xs ρ2 M2 z⟩ q⟩
theorem uW {src:TId} {bt:BT} {tb:TSd} (hs:bK src) (j:ax tb):ax (lH src bt tb):=fun a b ρ M i q=>hs _ _ _ _ (fun xs c B z=>eL j i xs _ _ z) q
theorem dz {c:TTd} {tb:TSd} (q:aB c) (z:ax tb) {a b:bA} (i:LeD a b):∀ (n:Nat) (ρ:am) (M:Mem),aH c tb a n ρ M->aH c tb b n ρ M
 | 0, ρ,M,h=>h
 | n+1, ρ,M,h=>q _ _ _ _ (fun k F j=>by
   cases k with
   | true=>rw [if_pos rfl] at j ⊢;exact z { a with nx:=aH c tb a n,ct:=aH c tb a n,bk:=a.nx } { b with nx:=aH c tb b n,ct:=aH c tb b n,bk:=b.nx } _ _ ⟨fun ρ2 M2 B=>dz q z i n ρ2 M2 B,i.rt,i.nx,fun ρ2 M2 B=>dz q z i n ρ2 M2 B⟩ j
   | false=>rw [if_neg D2] at j ⊢;exact i.nx _ _ j) h
theorem pX {c:TTd} {tb:TSd} (j:aB c) (z:ax tb):ax (eK c tb):=fun a b ρ M i ⟨n,q⟩=>⟨n,dz j z i n _ _ q⟩
section
variable {K:Frag}
theorem jE (D:bd) (σ:St) (H:Hp) (h:lS K fh D σ H):oT D σ H:=by
 obtain ⟨ρ,M,A,rs,rm,l,q⟩:=h;exact l.nx ρ M σ H Ext.refl rs rm q
theorem pY (D:bd) (σ:St) (H:Hp) (h:lS K eJ D σ H):qO D σ H:=by
 obtain ⟨ρ,M,A,rs,rm,l,q⟩:=h;exact l.bk ρ M σ H Ext.refl rs rm q
theorem rT (D:bd) (σ:St) (H:Hp) (h:lS K iq D σ H):w6 D σ H:=by
 obtain ⟨ρ,M,A,rs,rm,l,q⟩:=h;exact l.ct ρ M σ H Ext.refl rs rm q
theorem uX {t u:TSd} (mt:ax t) (mu:ax u) (D:bd) (σ:St) (H:Hp) (h:lS K (lB t u) D σ H):zb (lS K t) (lS K u) D σ H:=by
 obtain ⟨ρ,M,A,rs,rm,l,q⟩:=h;exact ⟨ρ,M, { A with nx:=u A },rs,rm,⟨fun ρ' M' σ' H' x rs' rm' q'=>⟨ρ',M',A,rs',rm',l.ext x,q'⟩,l.rt,l.bk,l.ct⟩,q⟩
theorem rV {te:TEd} (m:ab te) (D:bd) (σ:St) (H:Hp) (h:lS K (iu te) D σ H):w8 (lE K te) D σ H:=by
 obtain ⟨ρ,M,A,rs,rm,l,q⟩:=h;exact ⟨ρ,M,rs,rm,m _ _ _ _ (fun d B F v H1 z j G=>l.nx ρ B σ H1 z (rs.mono (z.stab rm)) j F) q⟩
theorem uY {te:TEd} (m:ab te) (D:bd) (σ:St) (H:Hp) (h:lS K (lD te) D σ H):zc (lE K te) D σ H:=by
 obtain ⟨ρ,M,A,rs,rm,l,q⟩:=h;exact ⟨ρ,M,rs,rm,m _ _ _ _ (fun d B F v H1 G j z=>l.rt d B v H1 G j z F) q⟩
theorem xO {c:TTd} {t u:TSd} (mc:aB c) (D:bd) (σ:St) (H:Hp) (h:lS K (sIf c t u) D σ H):zf (lT K c) (lS K t) (lS K u) D σ H:=by
 obtain ⟨ρ,M,A,rs,rm,l,q⟩:=h;refine ⟨ρ,M,rs,rm,mc _ _ _ _ (fun k F z H1 B j => ?_) q⟩
 cases k with
 | true=>rw [if_pos rfl] at z ⊢;exact ⟨ρ,F,A,rs.mono (B.stab rm),j,l.ext B,z⟩
 | false=>rw [if_neg D2] at z ⊢;exact ⟨ρ,F,A,rs.mono (B.stab rm),j,l.ext B,z⟩
theorem uZ {te:TEd} {b:BT} (m:ab te) (D:bd) (σ:St) (H:Hp) (h:lS K (gp te b) D σ H):oV (lE K te) (lG K b) D σ H:=by
 obtain ⟨ρ,M,A,rs,rm,l,q⟩:=h;refine ⟨ρ,M,rs,rm,m _ _ _ _ (fun d F ⟨ρ',e,G⟩ v H1 B j z => ?_) q⟩;exact ⟨d, ρ, ρ',z,rs.mono (B.stab rm),e,fun σ' rs'=>l.nx ρ' F σ' H1 B rs' j G⟩
theorem jF {te:TEd} {i:Nat} (m:ab te) (D:bd) (σ:St) (H:Hp) (h:lS K (gp te (bn i)) D σ H):oV (lE K te) (gQ i) D σ H:=by
 obtain ⟨ρ,M,A,rs,rm,l,q⟩:=h;refine ⟨ρ,M,rs,rm,m _ _ _ _ (fun d z ⟨ρ',e,B⟩ v H1 j rm1 rd1 => ?_) q⟩
 cases e
 exact l.nx _ z _ H1 j ((rs.mono (j.stab rm)).set i rd1) rm1 B
theorem v3 {src:TId} {b:BT} {tb:TSd} (ms:bK src) (mb:ax tb) (D:bd) (σ:St) (H:Hp) (h:lS K (lH src b tb) D σ H):zj (lI K src) (lG K b) (lS K tb) D σ H:=by
 obtain ⟨ρ,M,A,rs,rm,l,q⟩:=h;refine ⟨ρ,M,rs,rm,ms _ _ _ _ (fun xs chk M1 q1 J H1 x1 G it => ?_) q⟩;refine ⟨fun i m σ H'=>m=xs.length - i/\i<=xs.length /\ ∃ ρ M2,RS K H' σ ρ /\ RM K M2 H'/\Ext M1 H1 M2 H'/\bf b tb chk A (xs.drop i) ρ M2,⟨xs.length,by simp,Gc _, ρ,M1,rs.mono (x1.stab rm),G,Ext.refl,q1⟩, ?_⟩
 rintro i m σ2 H2 ⟨rfl,hi, ρ2,M2,L,j,x2,O⟩;have U:=x2.stab G
 by_cases B:i < xs.length
 ·rw [F7 B] at O;obtain ⟨c, ρ',hb,q3⟩:=O;obtain ⟨go,yl⟩:=(it M2 H2 U j c i).2 B;refine .inr ⟨go,fun σ' H' => ∃ m',m' < xs.length - i/\(m'=xs.length - (i+1)/\i+1<=xs.length /\ ∃ ρ M,RS K H' σ' ρ /\ RM K M H'/\Ext M1 H1 M H'/\bf b tb chk A (xs.drop (i+1)) ρ M),fun σ' H' h=>h,fun x' H' y => ?_⟩;obtain ⟨yy,d,hd,rd⟩:=yl x' H' y;rw [h7 B] at hd
  cases hd
  obtain ⟨xy,rmy⟩:=yy.ext j;have Y:=x1.trans (x2.trans xy);refine ⟨_, ρ2, ρ',rd,L.mono (xy.stab j),hb,fun σ3 BY => ?_⟩;have nx:∀ ρ5 F σ5 z,Ext M2 H' F z->RS K z σ5 ρ5->RM K F z->bf b tb chk A (xs.drop (i+1)) ρ5 F -> ∃ m',m' < xs.length - i/\(m'=xs.length - (i+1)/\i+1<=xs.length /\ ∃ ρ M,RS K z σ5 ρ /\ RM K M z/\Ext M1 H1 M z/\bf b tb chk A (xs.drop (i+1)) ρ M) :=
   fun ρ5 F σ5 z Z BZ C0 q5=>⟨xs.length - (i+1),by lia,rfl,B, ρ5,F,BZ,C0,(x2.trans xy).trans Z,q5⟩
  refine ⟨ρ',M2, { A with nx:=bf b tb chk A (xs.drop (i+1)),ct:=bf b tb chk A (xs.drop (i+1)),bk:=A.nx },BY,rmy,⟨nx,fun d F v z Z=>l.rt d F v z (Y.trans Z),fun ρ5 F σ5 z Z=>l.nx ρ5 F σ5 z (Y.trans Z),nx⟩,q3⟩
 ·have e:i=xs.length:=by lia
  subst e;rw [MX] at O;exact .inl ⟨(it M2 H2 U j O.1 _).1 (Ec _),l.nx ρ2 M2 σ2 H2 (x1.trans x2) L j O.2⟩
theorem pZ {c:TTd} {tb:TSd} (mc:aB c) (mb:ax tb) (D:bd) (σ:St) (H:Hp) (h:lS K (eK c tb) D σ H):qQ (lT K c) (lS K tb) D σ H:=by
 obtain ⟨ρ,M,A,rs,rm,l,n,q⟩:=h;refine ⟨fun m σ' H' => ∃ ρ' M',RS K H' σ' ρ'/\RM K M' H'/\Ext M H M' H'/\aH c tb A m ρ' M',⟨n, ρ,M,rs,rm,Ext.refl,q⟩, ?_⟩;rintro m σ1 H1 ⟨ρ1,M1,J,L,x1,q1⟩
 cases m with
 | zero=>exact q1.elim
 | succ m =>
   refine ⟨ρ1,M1,J,L,mc _ _ _ _ (fun k M2 Z H2 x2 O => ?_) q1⟩;have j:=x1.trans x2;have U:=J.mono (x2.stab L)
   cases k with
   | false=>rw [if_neg D2] at Z;dsimp only;rw [if_neg D2];exact l.nx ρ1 M2 σ1 H2 j U O Z
   | true =>
     rw [if_pos rfl] at Z;dsimp only;rw [if_pos rfl];refine ⟨fun σ' H' => ∃ ρ' M',RS K H' σ' ρ'/\RM K M' H'/\Ext M H M' H'/\aH c tb A m ρ' M',fun σ' H' h=>⟨m,MY m,h⟩, ρ1,M2, { A with nx:=aH c tb A m,ct:=aH c tb A m,bk:=A.nx },U,O,⟨?_,fun d z v Y B=>l.rt d z v Y (j.trans B),fun ρ5 z σ5 Y B=>l.nx ρ5 z σ5 Y (j.trans B), ?_⟩,Z⟩
     ·exact fun ρ5 z σ5 Y B F G q5=>⟨ρ5,z,F,G,j.trans B,q5⟩
     ·exact fun ρ5 z σ5 Y B F G q5=>⟨ρ5,z,F,G,j.trans B,q5⟩
end
noncomputable def iw:D->D->D->Mem->(Mem->Prop)->Prop:=fun o i v M Q => ∃ a,o = .ref a /\
 ((∃ xs k j,i = .int k/\M a=some (.lst xs)/\ixN xs.length k=some j/\Q (af M a (.lst (xs.set j v)))) ∨
  ∃ t kvs,M a=some (.dct t kvs)/\pJ t i=true/\kvs.length < D0/\Q (af M a (.dct t (kN kvs i v))))
noncomputable def lJ (te to ti:TEd):TSd:=fun D ρ M=>te ρ M fun v M1=>to ρ M1 fun o M2=>ti ρ M2 fun i M3=>iw o i v M3 fun M4=>D.nx ρ M4
theorem rW {o i v:D} {M:Mem} {Q Q':Mem->Prop} (h:∀ M',Q M'->Q' M') (q:iw o i v M Q):iw o i v M Q':=by
 obtain ⟨a,e,⟨xs,k,j,z,B,F,q⟩ | ⟨t,kvs,z,B,F,q⟩⟩:=q
 ·exact ⟨a,e, .inl ⟨xs,k,j,z,B,F,h _ q⟩⟩
 ·exact ⟨a,e, .inr ⟨t,kvs,z,B,F,h _ q⟩⟩
theorem v4 {te to ti:TEd} (he:ab te) (ho:ab to) (hi:ab ti):ax (lJ te to ti):=fun a b ρ M i q =>
 he _ _ _ _ (fun v F j=>ho _ _ _ _ (fun o M2 z=>hi _ _ _ _ (fun k G B=>rW (fun M' q'=>i.nx _ _ q') B) z) j) q
section
variable {X:Cx} {K:Frag}
theorem v5 (j:X.A.units+1 < G0):PSet X (fun o i v H Q => ∃ a H',o = .ref a/\DPut H a i v H'/\Q H'):=by
 intro pins s σ H o i v ov iv u Q I ro ri rv h;obtain ⟨a,H',rfl,g,q⟩:=h
 cases ro
 exact rf j I g ri rv fun s' I'=>⟨H',I',q⟩
theorem PSet.or {t t':oU} (h:PSet X t) (h':PSet X t'):PSet X (fun o i v H Q=>t o i v H Q∨t' o i v H Q):=by
 intro pins s σ H o i v ov iv u Q I ro ri rv q
 rcases q with q | q
 ·exact h pins s σ H o i v ov iv u Q I ro ri rv q
 ·exact h' pins s σ H o i v ov iv u Q I ro ri rv q
section
variable {κ:Type} [DecidableEq κ] {H:Hp} {RK:D -> κ -> Prop} (inj:∀ {d e:D} {k : κ},RK d k->RK e k->d=e) (fn:∀ {d:D} {k k' : κ},RK d k->RK d k'->k=k')
include inj fn
theorem ou {k:D} {q : κ} (j:RK k q):∀ {kvs:List (D×D)} {ps:List (κ × V)},FG (fun p r=>RK p.1 r.1/\RD K H p.2 r.2) kvs ps ->
 (kvs.any fun p=>decide (p.1=k))=(ps.any fun p=>decide (p.1=q))
 | _,_, .nil=>rfl
 | _,_, .cons (a:=p) (b:=r) hr t=>by
   rw [IM,IM,ou j t];congr 1
   by_cases e:p.1=k
   ·have e':r.1=q:=by have h1:=hr.1;rw [e] at h1;exact fn h1 j
    rw [decide_eq_true e,decide_eq_true e']
   ·have e' : ¬ r.1=q:=fun z=>e (by have h1:=hr.1;rw [z] at h1;exact inj h1 j)
    rw [decide_eq_false e,decide_eq_false e']
theorem ow {k:D} {q : κ} (B:RK k q) {d:D} {v:V} (F:RD K H d v):∀ {kvs:List (D×D)} {ps:List (κ × V)},FG (fun p r=>RK p.1 r.1/\RD K H p.2 r.2) kvs ps ->
 FG (fun p r=>RK p.1 r.1/\RD K H p.2 r.2) (kvs.map fun p=>if p.1=k then (p.1,d) else p) (ps.map fun p=>if p.1=q then (p.1,v) else p)
 | _,_, .nil => .nil
 | _,_, .cons (a:=p) (b:=r) j t=>by
   refine .cons ?_ (ow B F t)
   by_cases e:p.1=k
   ·have e':r.1=q:=by have h1:=j.1;rw [e] at h1;exact fn h1 B
    dsimp only;rw [if_pos e,if_pos e'];exact ⟨j.1,F⟩
   ·have e' : ¬ r.1=q:=fun z=>e (by have h1:=j.1;rw [z] at h1;exact inj h1 B)
    dsimp only;rw [if_neg e,if_neg e'];exact j
theorem lK {k:D} {q : κ} (j:RK k q) {d:D} {v:V} (z:RD K H d v) {kvs:List (D×D)} {ps:List (κ × V)} (r:FG (fun p r=>RK p.1 r.1/\RD K H p.2 r.2) kvs ps) :
 FG (fun p r=>RK p.1 r.1/\RD K H p.2 r.2) (kN kvs k d) (bH ps q v):=by
 unfold kN bH;rw [ou (K:=K) (H:=H) (RK:=RK) inj fn j r]
 by_cases e:(ps.any fun p=>decide (p.1=q))=true
 ·rw [if_pos e,if_pos e];exact ow (RK:=RK) inj fn j z r
 ·rw [if_neg e,if_neg e];exact r.snoc ⟨j,z⟩
end
theorem v6 {M:Mem} {H:Hp} {o i v:D} {ov iv vv:V} {Qd:Mem->Prop} {Q:Hp->Prop} (rm:RM K M H) (ro:RD K H o ov) (ri:RD K H i iv) (rv:RD K H v vv) (h:iw o i v M Qd) (O:∀ M' H',Ext M H M' H'->RM K M' H'->Qd M'->Q H') :
 wd ov iv vv H Q ∨ ∃ a H',ov = .ref a/\DPut H a iv vv H'/\Q H':=by
 obtain ⟨a,rfl,⟨xs,k,j,rfl,B,L,q⟩ | ⟨t,kvs,F,B,L,q⟩⟩:=h
 ·cases O8.mp ro
  cases O7.mp ri
  obtain ⟨vs,Z,rs⟩:=rm _ _ B;have st:Stab H (upd H a (.lst (vs.set j vv))):=rm.stabPut B;exact .inl ⟨a,vs,k,j,rfl,rfl,Z,by rw [rs.length];exact L,O _ _ (Ext.put B) (rm.put (o := .lst (xs.set j v)) B ⟨_,ar,(rs.set j rv).mono st⟩) q⟩
 ·cases O8.mp ro
  have ro':=rm _ _ F
  cases t with
  | false =>
    obtain ⟨ps,U,pr⟩:=ro';obtain ⟨kq,J⟩:=kO (show dX i=true from B);have st:Stab H (upd H a (.dK (bH ps kq vv))):=rm.stabPut F;have G:=lK (RK:=RKey) RKey.inj RKey.fun J rv pr;rw [j4 J ri];refine .inr ⟨a,_,rfl,DPut.k U (by rw [<- Gw pr];exact L),O _ _ (Ext.put F) (rm.put (o := .dct false (kN kvs i v)) F ⟨_,ar,Ob G fun _ _ z=>⟨z.1,z.2.mono st⟩⟩) q⟩
  | true =>
    obtain ⟨ps,U,pr⟩:=ro';obtain ⟨kq,J⟩:=oh (show da i=true from B);have st:Stab H (upd H a (.dT (bH ps kq vv))):=rm.stabPut F;have G:=lK (RK:=RKeys) RKeys.inj RKeys.fun J rv pr
    cases i <;> first
     | exact J.elim
     | (obtain ⟨b,us,rfl,Y,ru⟩:=Oo (oi B) ri
        rw [gi J ru] at Y;exact .inr ⟨a,_,rfl,DPut.t U Y (by rw [<- Gw pr];exact L),O _ _ (Ext.put F) (rm.put (o := .dct true (kN kvs _ v)) F ⟨_,ar,Ob G fun _ _ z=>⟨z.1,z.2.mono st⟩⟩) q⟩)
theorem zZ {o i e:Expr} {te to ti:TEd} {pos tpos:Pos} (hu:X.A.units+1 < G0) (me:ab te) (mo:ab to) (mi:ab ti) (he:PE X e (lE X.K te)) (ho:PE X o (lE X.K to)) (hi:PE X i (lE X.K ti))
 (hs:Hi [.Subscript o i tpos] e pos.line X.env=pure false) (hw:Gx [.Subscript o i tpos] e X.env=pure none)
 (ha:∀ v,assign (.Subscript o i tpos) X.env v=(do
   let ov <- holding [v] (eval o X.env)
   let iv <- holding [v,ov] (eval i X.env)
   Jd tpos
   holding [v,ov,iv] (LW ov iv v)
   release [v,ov,iv] [])):PS X (.Assign [.Subscript o i tpos] e pos) (lS X.K (lJ te to ti)):=by
 refine PS.imp (kx he (qP ho hi (PSet.or ug (v5 hu)) ha) hs hw rfl) fun D σ H h => ?_;obtain ⟨ρ,M,A,rs,rm,l,q⟩:=h;refine ⟨ρ,M,rs,rm,me _ _ _ _ (fun v M1 q1 vv H1 F j G => ?_) q⟩;refine ⟨ρ,M1,rs.mono (F.stab rm),j,mo _ _ _ _ (fun ov M2 q2 vo H2 J z L => ?_) q1⟩;refine ⟨ρ,M2,(rs.mono (F.stab rm)).mono (J.stab j),z,mi _ _ _ _ (fun iv M3 q3 vi H3 O U Y => ?_) q2⟩;have B:=F.trans (J.trans O);exact v6 U (L.mono (O.stab z)) Y ((G.mono (J.stab j)).mono (O.stab z)) q3 fun M' H' x4 Z q4=>l.nx ρ M' σ H' (B.trans x4) (rs.mono ((B.trans x4).stab rm)) Z q4
end
end
end Mi
end L2
namespace L2
open PySem PySem.Spec PyProof.Rows
namespace Mi
variable {K:Frag}
theorem rX {ta:TAd} {i j:Nat} (m:b7 ta) (D:bd) (σ:St) (H:Hp) (h:lS K (lF ta (bY (bn i) (bY (bn j) gn))) D σ H):zh i j (lA K ta) D σ H:=by
 obtain ⟨ρ,M,A,rs,rm,l,q⟩:=h;refine ⟨ρ,M,rs,rm,m _ _ _ _ (fun ds G ⟨ρ',e,J⟩ vs H1 F B z => ?_) q⟩
 match ds,e,z with
 | [d1,d2],e,z =>
  obtain ⟨v,u,rfl,L,O⟩:=z.two;simp only [bY,bn,gn,IF,Mq] at e;subst e;exact ⟨v,u,rfl,l.nx _ G _ H1 F (((rs.mono (F.stab rm)).set i L).set j O) B J⟩
end Mi
end L2
namespace L2
open PySem PySem.Spec PyProof.Rows
namespace Mi
end Mi
end L2
namespace L2
namespace Mi
open PySem PySem.Spec PyProof.Rows
section
section
variable {X:Cx}
noncomputable def isD:D->D->Option Bool
 | x, .non=>some (match x with | .non=>true | _=>false)
 | x, .bl b=>some (match x with | .bl c=>c==b | _=>false)
 | _,_=>none
noncomputable def wIs:R2d:=fun x y M Q => ∃ k,isD x y=some k/\Q (.bl k) M
noncomputable def q8:R2d:=fun x y M Q => ∃ k,isD x y=some k/\Q (.bl (!k)) M
theorem xP:aJ wIs:=fun _ _ _ _ _ h ⟨k,e,q⟩=>⟨k,e,h _ _ q⟩
theorem v7:aJ q8:=fun _ _ _ _ _ h ⟨k,e,q⟩=>⟨k,e,h _ _ q⟩
theorem xQ {M:Ib} {A:EK} {E:e7->g6->Prop} {s:g6} {Q:e7->g6->Prop} {v:e7} {b:Bool} (j:∀ id,v ≠ .builtin id) (h:Q (.bool (v == .bool b)) s):Ee M A (Ft .Is v (.bool b)) Q E s:=by
 cases v <;> first | exact gV h | exact absurd rfl (j _)
theorem v8 {M:Ib} {A:EK} {E:e7->g6->Prop} {s:g6} {Q:e7->g6->Prop} {v:e7} {b:Bool} (j:∀ id,v ≠ .builtin id) (h:Q (.bool (!(v == .bool b))) s):Ee M A (Ft .IsNot v (.bool b)) Q E s:=by
 cases v <;> first | exact gV h | exact absurd rfl (j _)
theorem rY {K:Frag} {H:Hp} {x y:D} {v w:V} {u t:e7} {k:Bool} (e:isD x y=some k) (rx:RD K H x v) (ry:RD K H y w) (ru:RelV v u) (rt:RelV w t):(t = .none/\(u == .none)=k) ∨ ∃ b,t = .bool b/\(u == .bool b)=k /\ ∀ id,u ≠ .builtin id:=by
 cases y with
 | non =>
   cases Oe.mp ry
   cases rt
   refine .inl ⟨rfl, ?_⟩
   cases x with
   | non=>cases Oe.mp rx;cases ru;cases e;rfl
   | bl c=>cases O9.mp rx;cases ru;cases e;rfl
   | int i=>cases O7.mp rx;obtain ⟨tk,rfl⟩:=ru;cases e;rfl
   | str z=>cases Of.mp rx;obtain ⟨tk,rfl⟩:=ru;cases e;rfl
   | tup ds=>obtain ⟨a,vs,rfl,_⟩:=Od rx;cases ru;cases e;rfl
   | con ds=>obtain ⟨a,vs,rfl,_⟩:=Oc.mp rx;cases ru;cases e;rfl
   | ref a=>cases O8.mp rx;cases ru;cases e;rfl
   | fn z=>obtain ⟨a,rfl,_⟩:=Ou.mp rx;cases ru;cases e;rfl
 | bl b =>
   cases O9.mp ry
   cases rt
   refine .inr ⟨b,rfl, ?_⟩
   cases x with
   | non=>cases Oe.mp rx;cases ru;cases e;exact ⟨rfl,fun _ z=>by cases z⟩
   | bl c=>cases O9.mp rx;cases ru;cases e;exact ⟨by cases b <;> cases c <;> rfl,fun _ z=>by cases z⟩
   | int i=>cases O7.mp rx;obtain ⟨tk,rfl⟩:=ru;cases e;exact ⟨rfl,fun _ z=>by cases z⟩
   | str z=>cases Of.mp rx;obtain ⟨tk,rfl⟩:=ru;cases e;exact ⟨rfl,fun _ z=>by cases z⟩
   | tup ds=>obtain ⟨a,vs,rfl,_⟩:=Od rx;cases ru;cases e;exact ⟨rfl,fun _ z=>by cases z⟩
   | con ds=>obtain ⟨a,vs,rfl,_⟩:=Oc.mp rx;cases ru;cases e;exact ⟨rfl,fun _ z=>by cases z⟩
   | ref a=>cases O8.mp rx;cases ru;cases e;exact ⟨rfl,fun _ z=>by cases z⟩
   | fn z=>obtain ⟨a,rfl,_⟩:=Ou.mp rx;cases ru;cases e;exact ⟨rfl,fun _ z=>by cases z⟩
 | _=>cases e
theorem xR:OpR X (Ft .Is) (l2 X.K wIs):=by
 intro pins s σ H v w u t Q I ru rt h;obtain ⟨x,y,M,rm,rx,ry,k,e,q⟩:=h;have fin:EP X pins σ Q (.bool k) s:=⟨.bl k,H,I,rfl,q _ H Ext.refl rm (O9.mpr rfl)⟩
 rcases rY e rx ry ru rt with ⟨rfl,j⟩ | ⟨b,rfl,j,nb⟩
 ·exact is_none_gen (by rw [j];exact fin)
 ·exact xQ nb (by rw [j];exact fin)
theorem v9:OpR X (Ft .IsNot) (l2 X.K q8):=by
 intro pins s σ H v w u t Q I ru rt h;obtain ⟨x,y,M,rm,rx,ry,k,e,q⟩:=h;have fin:EP X pins σ Q (.bool (!k)) s:=⟨.bl (!k),H,I,rfl,q _ H Ext.refl rm (O9.mpr rfl)⟩
 rcases rY e rx ry ru rt with ⟨rfl,j⟩ | ⟨b,rfl,j,nb⟩
 ·exact isnot_none_gen (by rw [j];exact fin)
 ·exact v8 nb (by rw [j];exact fin)
noncomputable def gr:D->Option Bool
 | .bl b=>some b
 | .int i=>some (i != 0)
 | _=>none
noncomputable def q9:RAd:=fun xs M Q => ∃ x ds ts,xs=[x]/\aq M x=some ds/\az gr ds=some ts/\Q (.bl (ts.all id)) M
noncomputable def va:RAd:=fun xs M Q => ∃ x ds ts,xs=[x]/\aq M x=some ds/\az gr ds=some ts/\Q (.bl (ts.any id)) M
theorem lL:aR q9:=fun _ _ _ _ h ⟨x,ds,ts,e,j,z,q⟩=>⟨x,ds,ts,e,j,z,h _ _ q⟩
theorem lM:aR va:=fun _ _ _ _ h ⟨x,ds,ts,e,j,z,q⟩=>⟨x,ds,ts,e,j,z,h _ _ q⟩
theorem lN {α β:Type} {f : α -> Option β}:∀ {xs:List α} {ys:List β},az f xs=some ys->ys.length=xs.length /\ ∀ (i:Nat) x,xs[i]? = some x -> ∃ y,ys[i]? = some y/\f x=some y
 | [],ys,h=>by cases h;exact ⟨rfl,fun i x e=>by simp at e⟩
 | x::xs,ys,h=>by
   simp only [az] at h
   cases j:f x with
   | none=>rw [j] at h;cases h
   | some y =>
     rw [j] at h;simp only [IF] at h
     cases e2:az f xs with
     | none=>rw [e2] at h;cases h
     | some r =>
       rw [e2] at h;cases h;obtain ⟨l,g⟩:=lN e2;refine ⟨by simp [l],fun i z e => ?_⟩
       cases i with
       | zero=>simp at e;subst e;exact ⟨y,rfl,j⟩
       | succ i=>simp at e;simpa using g i z e
theorem xS {P:Er} {w:EH} {A:EK} {E:e7->g6->Prop} {s:g6} {K:Frag} {H:Hp} {d:D} {v:V} {u:e7} {b:Bool} {Q:Bool->g6->Prop} (e:gr d=some b) (rd:RD K H d v) (ru:RelV v u) (q:Q b s):Ee (model P w) A (truthy u) Q E s:=by
 cases d with
 | bl c=>cases O9.mp rd;cases ru;cases e;exact Gh q
 | int i=>cases O7.mp rd;obtain ⟨t,rfl⟩:=ru;cases e;exact PyProof.Rows.truthy_int q
 | _=>cases e
theorem range_all {ts:List Bool}:(ED ts.length).all (fun i=>ts.getD i false)=ts.all id/\(ED ts.length).any (fun i=>ts.getD i false)=ts.any id:=by
 have e:(ED ts.length).map (fun i=>ts.getD i false)=ts:=by
  apply List.ext_getElem
  ·simp
  ·intro i h1 h2;simp [Fy,h7 h2]
 constructor
 ·conv=>rhs;rw [<- e]
  rw [List.all_map];rfl
 ·conv=>rhs;rw [<- e]
  rw [List.any_map];rfl
theorem lP (J:X.calm=true) {pins:List (Addr×Obj)} {s:g6} {σ:St} {H:Hp} {M:Mem} {x:D} {ds:List D} {ts:List Bool} {v:V} {u:e7} {Q:e7->g6->Prop} {g:List Bool->Bool} (I:Inv X pins σ H s) (rm:RM X.K M H) (rd:RD X.K H x v) (ru:RelV v u) (U:aq M x=some ds) (Y:az gr ds=some ts)
 (fin:∀ h' tk,Inv X pins σ H { s with heap:=h',toks:=tk }->Q (.bool (g ts)) { s with heap:=h',toks:=tk })
 (gg:Nat->(Nat->Bool)->Bool) (L:gg ts.length (fun i=>ts.getD i false)=g ts) :
 Ee (model X.prog X.w) X.A.in1 (Ke u) (fun it s₂ => ∃ I fp wr n P St tr,it = .ref I/\Walks X.prog X.w X.A.in1 I fp wr n P St/\St 0 s₂.heap/\TruthOf X.prog X.w X.A.in1 P tr /\
  ∀ h' tk,(∀ b o,b∉wr->s₂.heap.get? b=some o->h'.get? b=some o)->Q (.bool (gg n tr)) { s₂ with heap:=h',toks:=tk }) X.xe s:=by
 obtain ⟨p,vs,rfl,sq,O⟩:=kZ rm rd U
 cases ru
 obtain ⟨lt,get⟩:=lN Y;have lv:=O.length;have tr:∀ (its:List e7),Vals vs its->TruthOf X.prog X.w X.A.in1 (fun i w=>its.toArray[i]? = some w) (fun i=>ts.getD i false):=by
  intro its rv i w s' Q' E' Z B;have q:its[i]? = some w:=by simpa using Z
  have li:=rv.length;have hi:i < its.length:=(o7.mp q).1;obtain ⟨d,hd⟩:∃ d,ds[i]? = some d:=⟨ds[i]'(by lia),h7 (by lia)⟩
  obtain ⟨v',F,rd'⟩:=O.get hd;obtain ⟨u',z,ru'⟩:=rv.get F;rw [q] at z;cases z;obtain ⟨b,hb,eb⟩:=get i d hd;have:ts.getD i false=b:=by rw [Fy,hb];rfl
  have B:Q' (ts.getD i false) s':=B;rw [this] at B;exact xS eb rd' ru' B
 rcases sq with sq | sq
 ·obtain ⟨its,rv,pl,hz⟩:=I.list sq;have li:=rv.length;have j:p < s.heap.objs.size:=by obtain ⟨o,n,e,_⟩:=pl;exact Ed e
  refine Gk pl.isList ⟨s.heap.objs.size,_,_,_,_,_,_,rfl,Walks.list (by rw [LP];exact I.ok.hd J) s.heap.objs.size p (EN j) its.toArray,⟨⟨_,D1 _ rfl,rfl,rfl⟩,pl.isList.at fun o e=>g0 _ e⟩,tr its rv,fun h' tk k => ?_⟩
  have G:its.toArray.size=ts.length:=by rw [E9];lia
  rw [G,L];exact fin h' tk (I.kept (t':=tk) fun b o e=>k b o (by simp;exact EN (Ed e)) (g0 _ e))
 ·obtain ⟨its,rv,pl,hz⟩:=I.tuple sq;have li:=rv.length;have j:p < s.heap.objs.size:=by obtain ⟨o,e,_⟩:=pl;exact Ed e
  have pt:s.heap.IsTuple p its.toArray:=pl;refine FV pt ⟨s.heap.objs.size,_,_,_,_,_,_,rfl,Walks.tuple (by rw [LP];exact I.ok.hd J) s.heap.objs.size p (EN j) its.toArray,⟨⟨_,D1 _ rfl,rfl,rfl⟩,pt.push _⟩,tr its rv,fun h' tk k => ?_⟩
  have G:its.toArray.size=ts.length:=by rw [E9];lia
  rw [G,L];exact fin h' tk (I.kept (t':=tk) fun b o e=>k b o (by simp;exact EN (Ed e)) (g0 _ e))
theorem qc (j:X.calm=true):CallR X (.builtin "all") (lR X.K q9):=by
 intro pins s σ H xs us Q I rv h;obtain ⟨ds,M,rm,rs,x,es,ts,rfl,z,B,q⟩:=h;obtain ⟨v,rfl,r⟩:=rs.one;obtain ⟨u,rfl,ru⟩:=cr rv;exact call_all_walk (lP j I rm r ru z B (g:=fun ts=>ts.all id) (fun h' tk I'=>⟨.bl _,H,I',rfl,q _ H Ext.refl rm (O9.mpr rfl)⟩) (fun n tr=>(ED n).all tr) range_all.1)
theorem qd (j:X.calm=true):CallR X (.builtin "any") (lR X.K va):=by
 intro pins s σ H xs us Q I rv h;obtain ⟨ds,M,rm,rs,x,es,ts,rfl,z,B,q⟩:=h;obtain ⟨v,rfl,r⟩:=rs.one;obtain ⟨u,rfl,ru⟩:=cr rv;exact call_any_walk (lP j I rm r ru z B (g:=fun ts=>ts.any id) (fun h' tk I'=>⟨.bl _,H,I',rfl,q _ H Ext.refl rm (O9.mpr rfl)⟩) (fun n tr=>(ED n).any tr) range_all.2)
end
end
end Mi
end L2
namespace L2
namespace Srt
open PySem PySem.Spec PyProof.Rows
structure Cm (prog:Er) (w:EH) (A:EK) (s:g6) (kd:HP) (P:u2->Prop) (lt:u2->u2->Bool):Prop where
 asym:∀ x y,lt x y=true->lt y x=false
 neg:∀ x y z,lt x z=true->lt x y=true∨lt y z=true
 run:∀ (x y:u2) (E:e7->g6->Prop) (Q:Bool->g6->Prop),P x->P y->Q (lt x y) s->Ee (El prog w) A (keyLt' kd x.1 y.1) Q E s
section
variable {prog:Er} {w:EH} {A:EK} {E:e7->g6->Prop} {s:g6} {kd:HP} {P:u2->Prop} {lt:u2->u2->Bool}
theorem aa {σ α:Type} {M:Ib} {x : α} {st : σ} {Q : α -> σ -> Prop} (q:Q x st):wpS M A E s (pure x) Q st :=
 fun _ _ _=>⟨rfl,q⟩
theorem cj {σ:Type} {M:Ib} {tag:String} {st : σ} {Q:Unit -> σ -> Prop} (q:Q () st):wpS M A E s (liftM (PySem.rule tag)) Q st :=
 wpS_lift (FU ⟨rfl,q⟩)
theorem xT {σ:Type} {M:Ib} {st st' : σ} {Q:PUnit -> σ -> Prop} (q:Q PUnit.unit st'):wpS M A E s (set st') Q st :=
 fun _ _ _=>⟨rfl,q⟩
theorem iy (c:Cm prog w A s kd P lt) {x y:u2} {st:F5} {Q:Option Bool->F5->Prop} (j:FH st=kd) (hx:P x) (z:P y) (q:Q (some (lt x y)) st):wpS (El prog w) A E s (lt' x y) Q st:=by
 rw [lt'_eq];refine r3 (HW ?_);refine r3 (wpS_lift ?_);rw [j];intro Γ p hp;rw [Sem.wp_attempt];exact c.run x y (fun e s'=>s'=s/\wpS (El prog w) A E s (do modify fun s=>IG (FH s) (EM s) (Ek s) (gallopOf s) (some e);pure none) Q st) (fun b s'=>s'=s/\wpS (El prog w) A E s (pure (some b)) Q st) hx z ⟨rfl,aa q⟩ Γ p hp
theorem av {arr:Array u2} {i:Nat} {x:u2} {st:F5} {Q:u2->F5->Prop} (h:arr[i]? = some x) (q:Q x st):wpS (El prog w) A E s (elem' arr i) Q st:=by
 rw [elem'_eq,h];exact aa q
theorem Cm.le_trans (c:Cm prog w A s kd P lt) {x y z:u2} (h:lt y x=false) (h2:lt z y=false):lt z x=false:=by
 cases e:lt z x with
 | false=>rfl
 | true=>rcases c.neg z y x e with q | q <;> simp_all
theorem Cm.irr (c:Cm prog w A s kd P lt) {x:u2}:lt x x=false:=by
 cases e:lt x x with
 | false=>rfl
 | true=>have:=c.asym x x e;rw [e] at this;exact this
theorem aw {σ α:Type} {M:Ib} {m:StateT σ Sem α} {st : σ} {Q Q' : α -> σ -> Prop} (h:wpS M A E s m Q st) (q:∀ a st',Q a st'->Q' a st'):wpS M A E s m Q' st :=
 G7 h (fun a s' z=>⟨z.1,q _ _ z.2⟩) fun _ _ z=>z
end
noncomputable abbrev A0:=Bool->u2->Array u2->Nat->Nat->Nat->StateT F5 Sem (Option Nat)
noncomputable abbrev A1:=Array u2->Array u2->StateT F5 Sem (Array u2)
noncomputable def bey (lt:u2->u2->Bool) (left:Bool) (key x:u2):Bool:=if left=true then lt x key else !(lt key x)
structure Same (st st':F5):Prop where
 arr:EM st'=EM st
 kind:FH st'=FH st
 pend:Ek st'=Ek st
 fail:Gq st'=Gq st
def fj (prog:Er) (w:EH) (A:EK) (E:e7->g6->Prop) (s:g6) (kd:HP) (P:u2->Prop) (lt:u2->u2->Bool) (g:A0):Prop :=
 ∀ (left:Bool) (key:u2) (arr:Array u2) (L xs R:List u2) (base n hint:Nat) (st:F5) (Q:Option Nat->F5->Prop),FH st=kd->P key->arr.toList=L++xs++R->base=L.length->n=xs.length->(∀ x∈xs,P x)->hint < n ->
  xs.Pairwise (fun x y=>lt y x=false) ->
  (∀ X Y,xs=X++Y->(∀ x∈X,bey lt left key x=true)->(∀ x∈Y,bey lt left key x=false)->Q (some X.length) st) ->
  wpS (El prog w) A E s (g left key arr base n hint) Q st
def fq (prog:Er) (w:EH) (A:EK) (E:e7->g6->Prop) (s:g6) (kd:HP) (P:u2->Prop) (lt:u2->u2->Bool) (m:A1):Prop :=
 ∀ (a b:Array u2) (st:F5) (Q:Array u2->F5->Prop),FH st=kd->(∀ x∈a.toList,P x)->(∀ x∈b.toList,P x)->0 < a.size->0 < b.size ->
  a.toList.Pairwise (fun x y=>lt y x=false)->b.toList.Pairwise (fun x y=>lt y x=false)->(∀ x y,a[0]? = some x->b[0]? = some y->lt x y=false)->(∀ x y,a[a.size - 1]? = some x->b[b.size - 1]? = some y->lt x y=false) ->
  (∀ r st',r.toList.Perm (a.toList++b.toList)->r.toList.Pairwise (fun x y=>lt y x=false)->Same st st'->Q r st') ->
  wpS (El prog w) A E s (m a b) Q st
section
variable {prog:Er} {w:EH} {A:EK} {E:e7->g6->Prop} {s:g6} {kd:HP} {P:u2->Prop} {lt:u2->u2->Bool}
theorem eM (c:Cm prog w A s kd P lt) {left:Bool} {key x:u2} {arr:Array u2} {j:Nat} {st:F5} {Q:Option Bool->F5->Prop} (z:FH st=kd) (hx:P key) (B:P x) (e:arr[j]? = some x) (q:Q (some (bey lt left key x)) st) :
 wpS (El prog w) A E s (do
  let x <- elem' arr j
  if left=true then lt' x key else do
   let r <- lt' key x
   pure (Option.map (fun x => !x) r)) Q st:=by
 refine r3 (av e ?_)
 cases left with
 | true=>exact iy c z B hx q
 | false=>exact r3 (iy c z hx B (aa q))
theorem lQ (c:Cm prog w A s kd P lt) {left:Bool} {key x y:u2} (h:lt y x=false) (j:bey lt left key y=true):bey lt left key x=true:=by
 unfold bey at j ⊢
 cases left with
 | true =>
   rw [if_pos rfl] at j ⊢
   rcases c.neg y x key j with q | q
   ·rw [h] at q;cases q
   ·exact q
 | false =>
   simp at j ⊢
   cases e:lt key x with
   | false=>rfl
   | true =>
     rcases c.neg key y x e with q | q
     ·rw [j] at q;cases q
     ·rw [h] at q;cases q
structure Gal (lt:u2->u2->Bool) (left:Bool) (key:u2) (xs:List u2) (lo hi:Nat):Prop where
 le:lo<=hi
 len:hi<=xs.length
 up:∀ i x,i < lo->xs[i]? = some x->bey lt left key x=true
 dn:∀ i x,hi<=i->xs[i]? = some x->bey lt left key x=false
theorem dF {xs:List u2} {R:u2->u2->Prop} (h:xs.Pairwise R) {i j:Nat} {x y:u2} (q:i < j) (hx:xs[i]? = some x) (z:xs[j]? = some y):R x y:=by
 obtain ⟨h1,B⟩:=o7.mp hx;obtain ⟨h2,F⟩:=o7.mp z;rw [<- B, <- F];exact JH.mp h i j h1 h2 q
theorem fu (c:Cm prog w A s kd P lt) {left:Bool} {key:u2} {xs:List u2} (h:xs.Pairwise (fun x y=>lt y x=false)) {j:Nat} {y:u2} (q:xs[j]? = some y) (z:bey lt left key y=true):∀ i x,i < j+1->xs[i]? = some x->bey lt left key x=true:=by
 intro i x hi hx
 by_cases e:i=j
 ·subst e;rw [hx] at q;cases q;exact z
 ·exact lQ c (dF h (by lia) hx q) z
theorem fx (c:Cm prog w A s kd P lt) {left:Bool} {key:u2} {xs:List u2} (h:xs.Pairwise (fun x y=>lt y x=false)) {j:Nat} {y:u2} (z:xs[j]? = some y) (B:bey lt left key y=false):∀ i x,j<=i->xs[i]? = some x->bey lt left key x=false:=by
 intro i x hi hx
 by_cases e:i=j
 ·subst e;rw [hx] at z;cases z;exact B
 ·cases q:bey lt left key x with
  | false=>rfl
  | true=>have:=lQ c (dF h (by lia) z hx) q;rw [B] at this;cases this
theorem Gal.out {left:Bool} {key:u2} {xs:List u2} {k:Nat} (g:Gal lt left key xs k k):∃ X Y,xs=X++Y/\X.length=k/\(∀ x∈X,bey lt left key x=true)/\(∀ x∈Y,bey lt left key x=false):=by
 refine ⟨xs.take k,xs.drop k,(Fq k xs).symm,by rw [EE];exact Gn g.len,fun x hx => ?_,fun x hx => ?_⟩
 ·obtain ⟨i,hi,e⟩:=Gd.mp hx;rw [EE] at hi;exact g.up i x (by lia) (by rw [List.getElem_take] at e;rw [<- e];exact h7 _)
 ·obtain ⟨i,hi,e⟩:=Gd.mp hx;rw [IA] at hi;refine g.dn (k+i) x (by lia) ?_
  rw [List.getElem_drop] at e;rw [<- e];exact h7 _
noncomputable abbrev Ord (lt:u2->u2->Bool) (l:List u2):Prop:=l.Pairwise fun x y=>lt y x=false
theorem lU {out X A' B:List u2} (h1:Ord lt (out++(X++A'))) (h2:Ord lt (out++B)) (h:∀ x∈X, ∀ y∈B,lt y x=false):Ord lt ((out++X)++A')/\Ord lt ((out++X)++B):=by
 refine ⟨by rw [Ei];exact h1, ?_⟩
 rw [Ei];obtain ⟨j,q,F⟩:=q7.mp h1;obtain ⟨O,p2,G⟩:=q7.mp h2;obtain ⟨J,U,Y⟩:=q7.mp q;refine q7.mpr ⟨j,q7.mpr ⟨J,p2,h⟩,fun x hx y L => ?_⟩
 rcases Ea.mp L with z | z
 ·exact F x hx y (Fu _ z)
 ·exact G x hx y z
structure ML (lt:u2->u2->Bool) (la lb out:List u2) (ia ib:Nat):Prop where
 pa:Ord lt (out++la.drop ia)
 pb:Ord lt (out++lb.drop ib)
 pm:(out++(la.drop ia++lb.drop ib)).Perm (la++lb)
theorem ox (c:Cm prog w A s kd P lt) {l:List u2} {i:Nat} {x y:u2} (h:Ord lt (l.drop i)) (j:l[i]? = some y) (hx:lt y x=false):∀ z∈l.drop i,lt z x=false:=by
 obtain ⟨hi,e⟩:=o7.mp j;rw [F7 hi,e] at h ⊢;intro z hz
 rcases Eb.mp hz with q | q
 ·rw [q];exact hx
 ·exact c.le_trans hx ((JB.mp h).1 z q)
theorem df {l X Y:List u2} {i:Nat} (e:l.drop i=X++Y):l.drop (i+X.length)=Y:=by
 rw [<- Il,e,L4]
theorem ML.galA (c:Cm prog w A s kd P lt) {la lb out X Y:List u2} {ia ib:Nat} {y:u2} (m:ML lt la lb out ia ib) (e:la.drop ia=X++Y) (j:lb[ib]? = some y) (h:∀ x∈X,lt y x=false):ML lt la lb (out++X) (ia+X.length) ib:=by
 have p2:=(q7.mp m.pb).2.1;have q:=lU (X:=X) (A':=Y) (by rw [<- e];exact m.pa) m.pb fun x hx=>ox c p2 j (h x hx)
 refine ⟨by rw [df e];exact q.1,q.2, ?_⟩
 rw [df e];refine Gz.trans (Hg ?_) m.pm;rw [e];simp
theorem ML.galB (c:Cm prog w A s kd P lt) {la lb out X Y:List u2} {ia ib:Nat} {y:u2} (m:ML lt la lb out ia ib) (e:lb.drop ib=X++Y) (j:la[ia]? = some y) (h:∀ x∈X,lt y x=false):ML lt la lb (out++X) ia (ib+X.length):=by
 have p2:=(q7.mp m.pa).2.1;have q:=lU (X:=X) (A':=Y) (by rw [<- e];exact m.pb) m.pa fun x hx=>ox c p2 j (h x hx)
 refine ⟨q.2,by rw [df e];exact q.1, ?_⟩
 rw [df e];refine Gz.trans ?_ m.pm;rw [e,Ei];refine EZ _ ?_;rw [<- Ei, <- Ei];exact Fd _ Hn
theorem dg {l:List u2} {i:Nat} {x:u2} (h:l[i]? = some x):l.drop i=[x]++l.drop (i+1):=by
 obtain ⟨hi,e⟩:=o7.mp h;rw [F7 hi,e];rfl
theorem ML.pushA (c:Cm prog w A s kd P lt) {la lb out:List u2} {ia ib:Nat} {x y:u2} (m:ML lt la lb out ia ib) (hx:la[ia]? = some x) (j:lb[ib]? = some y) (h:lt y x=false):ML lt la lb (out++[x]) (ia+1) ib :=
 m.galA c (dg hx) j (by simpa using h)
theorem ML.pushB (c:Cm prog w A s kd P lt) {la lb out:List u2} {ia ib:Nat} {x y:u2} (m:ML lt la lb out ia ib) (hx:la[ia]? = some x) (j:lb[ib]? = some y) (h:lt x y=false):ML lt la lb (out++[y]) ia (ib+1) :=
 m.galB c (dg j) hx (by simpa using h)
def Res (lt:u2->u2->Bool) (la lb r:List u2):Prop:=r.Perm (la++lb)/\Ord lt r
theorem ML.fin {la lb out:List u2} {ia ib:Nat} (m:ML lt la lb out ia ib) (h:lb.length<=ib):Res lt la lb (out++la.drop ia++lb.drop ib):=by
 rw [Gv h,F8];refine ⟨?_,m.pa⟩;have:=m.pm;rw [Gv h,F8] at this;exact this
theorem ML.finE {la lb out:List u2} {ia ib:Nat} (m:ML lt la lb out ia ib) (h:la.length<=ia):Res lt la lb (out++la.drop ia++lb.drop ib):=by
 rw [Gv h,F8];refine ⟨?_,m.pb⟩;have:=m.pm;rw [Gv h,Kv] at this;exact this
theorem ML.finA {la lb out:List u2} {ia ib:Nat} (m:ML lt la lb out ia ib) (h:∀ x∈lb, ∀ y∈la.drop ia,lt y x=false):Res lt la lb (out++lb.drop ib++la.drop ia):=by
 refine ⟨?_, ?_⟩
 ·refine Gz.trans ?_ m.pm;rw [Ei];exact EZ _ Hn
 ·obtain ⟨F,q,B⟩:=q7.mp m.pa;refine q7.mpr ⟨m.pb,q,fun x hx y j => ?_⟩
  rcases Ea.mp hx with z | z
  ·exact B x z y j
  ·exact h x (IY z) y j
theorem ML.size {la lb out:List u2} {ia ib:Nat} (m:ML lt la lb out ia ib) (j:ia<=la.length) (q:ib<=lb.length):out.length=ia+ib:=by
 have:=m.pm.length_eq;simp only [r4,IA] at this;lia
theorem aA {a:Array u2} {i:Nat} (h:i < a.size):∃ x,a[i]? = some x/\a.toList[i]? = some x/\x∈a.toList:=by
 refine ⟨a[i],Fj h, ?_,Array.getElem_mem_toList h⟩;rw [EB];exact Fj h
theorem bg {a:Array u2} {i:Nat}:(a.extract i).toList=a.toList.drop i:=by
 rw [Gf];simp only [Im];exact Hc (by simp)
theorem xU {a:Array u2} {i:Nat} {X Y:List u2} (e:a.toList.drop i=X++Y):(a.extract i (i+X.length)).toList=X:=by
 rw [Gf];simp [Im,e]
theorem Same.refl {st:F5}:Same st st:=⟨rfl,rfl,rfl,rfl⟩
theorem Same.trans {a b c:F5} (h:Same a b) (g:Same b c):Same a c:=⟨g.arr.trans h.arr,g.kind.trans h.kind,g.pend.trans h.pend,g.fail.trans h.fail⟩
theorem jG {O Y A' B:List u2} (h1:Ord lt (A'++(Y++O))) (h2:Ord lt (B++O)) (h:∀ y∈Y, ∀ x∈B,lt y x=false):Ord lt (B++(Y++O)):=by
 obtain ⟨J,j,L⟩:=q7.mp h1;obtain ⟨q,p2,F⟩:=q7.mp h2;refine q7.mpr ⟨q,j,fun x hx y G => ?_⟩
 rcases Ea.mp G with z | z
 ·exact h y z x hx
 ·exact F x hx y z
structure MH (lt:u2->u2->Bool) (la lb out:List u2) (na nb:Nat):Prop where
 pa:Ord lt (la.take na++out.reverse)
 pb:Ord lt (lb.take nb++out.reverse)
 pm:(la.take na++lb.take nb++out.reverse).Perm (la++lb)
theorem fy (c:Cm prog w A s kd P lt) {l:List u2} {n:Nat} {x y:u2} (h:Ord lt (l.take n)) (F : 0 < n) (B:l[n - 1]? = some y) (hx:lt x y=false):∀ z∈l.take n,lt x z=false:=by
 intro z hz;obtain ⟨i,hi,e⟩:=Gd.mp hz;have j:(l.take n)[i]? = some z:=by rw [<- e];exact h7 hi
 have q:(l.take n)[n - 1]? = some y:=by rw [HH (by lia)];exact B
 rw [EE] at hi
 by_cases hin:i=n - 1
 ·subst hin;rw [q] at j;cases j;exact hx
 ·exact c.le_trans (dF h (by lia) j q) hx
theorem dh {l X Y:List u2} {n:Nat} (e:l.take n=X++Y):l.take X.length=X:=by
 have h:X.length<=n:=by
  have:=congrArg GZ e;simp only [EE,r4] at this;lia
 have h2:(l.take n).take X.length=X:=by rw [e,List.take_left]
 rw [List.take_take,Gn h] at h2;exact h2
theorem MH.galA (c:Cm prog w A s kd P lt) {la lb out X Y:List u2} {na nb:Nat} {y:u2} (m:MH lt la lb out na nb) (e:la.take na=X++Y) (j : 0 < nb) (z:lb[nb - 1]? = some y) (h:∀ x∈Y,lt x y=false):MH lt la lb (out++Y.reverse) X.length nb:=by
 have p2:=(q7.mp m.pb).1;have h1:Ord lt (X++(Y++out.reverse)):=by rw [<- Ei, <- e];exact m.pa
 have q:=jG h1 m.pb fun x hx=>fy c p2 j z (h x hx);refine ⟨by rw [dh e];simpa using h1,by simpa using q, ?_⟩
 rw [dh e];refine Gz.trans ?_ m.pm;rw [e];simp only [List.reverse_append,List.reverse_reverse,Ei];refine EZ _ ?_;rw [<- Ei, <- Ei];exact Fd _ Hn
theorem MH.galB (c:Cm prog w A s kd P lt) {la lb out X Y:List u2} {na nb:Nat} {y:u2} (m:MH lt la lb out na nb) (e:lb.take nb=X++Y) (j : 0 < na) (z:la[na - 1]? = some y) (h:∀ x∈Y,lt x y=false):MH lt la lb (out++Y.reverse) na X.length:=by
 have p2:=(q7.mp m.pa).1;have h1:Ord lt (X++(Y++out.reverse)):=by rw [<- Ei, <- e];exact m.pb
 have q:=jG h1 m.pa fun x hx=>fy c p2 j z (h x hx);refine ⟨by simpa using q,by rw [dh e];simpa using h1, ?_⟩
 rw [dh e];refine Gz.trans (Hg ?_) m.pm;rw [e];simp
theorem ck {l:List u2} {n:Nat} {x:u2} (j : 0 < n) (h:l[n - 1]? = some x):l.take n=l.take (n - 1)++[x]:=by
 obtain ⟨k,rfl⟩:∃ k,n=k+1:=⟨n - 1,by lia⟩
 rw [Nat.add_sub_cancel] at h ⊢;rw [Mr,h];rfl
theorem oz {l:List u2} {n:Nat} {x:u2} (j : 0 < n) (h:l[n - 1]? = some x):(l.take (n - 1)).length=n - 1:=by
 obtain ⟨hi,_⟩:=o7.mp h;rw [EE];lia
theorem MH.pushA (c:Cm prog w A s kd P lt) {la lb out:List u2} {na nb:Nat} {x y:u2} (m:MH lt la lb out na nb) (j : 0 < na) (z : 0 < nb) (hx:la[na - 1]? = some x) (B:lb[nb - 1]? = some y) (h:lt x y=false):MH lt la lb (out++[x]) (na - 1) nb:=by
 have q:=m.galA c (ck j hx) z B (by simpa using h)
 rw [oz j hx] at q;simpa using q
theorem MH.pushB (c:Cm prog w A s kd P lt) {la lb out:List u2} {na nb:Nat} {x y:u2} (m:MH lt la lb out na nb) (B : 0 < na) (j : 0 < nb) (hx:la[na - 1]? = some x) (z:lb[nb - 1]? = some y) (h:lt y x=false):MH lt la lb (out++[y]) na (nb - 1):=by
 have q:=m.galB c (ck j z) B hx (by simpa using h)
 rw [oz j z] at q;simpa using q
theorem MH.fin {la lb out:List u2} {na nb:Nat} (m:MH lt la lb out na nb) (h:na=0∨nb=0):Res lt la lb (la.take na++lb.take nb++out.reverse):=by
 refine ⟨m.pm, ?_⟩
 rcases h with rfl | rfl
 ·simpa using m.pb
 ·simpa using m.pa
theorem MH.finB {la lb out:List u2} {na nb:Nat} (m:MH lt la lb out na nb) (h:∀ x∈lb.take nb, ∀ y∈la,lt y x=false):Res lt la lb (lb.take nb++la.take na++out.reverse):=by
 refine ⟨Gz.trans (Fd _ Hn) m.pm, ?_⟩;obtain ⟨j,F,q⟩:=q7.mp m.pb;rw [Ei];refine q7.mpr ⟨j,m.pa,fun x hx y B => ?_⟩
 rcases Ea.mp B with z | z
 ·exact h x hx y (IZ z)
 ·exact q x hx y z
theorem MH.size {la lb out:List u2} {na nb:Nat} (m:MH lt la lb out na nb) (j:na<=la.length) (q:nb<=lb.length):out.length+na+nb=la.length+lb.length:=by
 have:=m.pm.length_eq;simp only [r4,EE,Ln] at this;lia
theorem dq {a:Array u2}:a.toList.take a.size=a.toList:=Hc (by simp)
theorem aX {a:Array u2} {i:Nat}:(a.extract 0 i).toList=a.toList.take i:=by
 rw [Gf];simp [Im]
theorem vc {a:Array u2} {n:Nat} {X Y:List u2} (e:a.toList.take n=X++Y):(a.extract X.length n).toList=Y:=by
 rw [Gf];simp only [Im];rw [<- List.drop_take,e,L4]
theorem vd:∀ (m old L R:List u2) (a:Array u2),a.toList=L++old++R->m.length=old.length->(IB (fun a x=>a.setIfInBounds (L.length+x.snd) x.fst) a m.zipIdx).toList=L++m++R:=by
 have g:∀ (m old L R:List u2) (k:Nat) (a:Array u2),a.toList=L++old++R->m.length=old.length -> ∀ b:Nat,b+k=L.length->(IB (fun a x=>a.setIfInBounds (b+x.snd) x.fst) a (m.zipIdx k)).toList=L++m++R:=by
  intro m
  induction m with
  | nil =>
    intro old L R k a e h b j;have:old=[]:=EL.mp h.symm;subst this;simpa using e
  | cons x m ih =>
    intro old L R k a e h b j
    cases old with
    | nil=>simp at h
    | cons y old =>
      rw [K1,Ku];have q:(a.setIfInBounds (b+k) x).toList=(L++[x])++old++R:=by
       rw [JC,e,j];simp
      have:=ih old (L++[x]) R (k+1) _ q (by simpa using h) b (by simp;lia)
      rw [this];simp
 exact fun m old L R a e h=>g m old L R 0 a e h L.length (by lia)
theorem ae {σ α:Type} {M:Ib} {p:Prop} [Decidable p] {j q:StateT σ Sem α} {st : σ} {Q : α -> σ -> Prop} (h1:p->wpS M A E s j Q st) (h2 : ¬p->wpS M A E s q Q st):wpS M A E s (if p then j else q) Q st:=by
 split
 ·next h=>exact h1 h
 ·next h=>exact h2 h
theorem ML.cut {a out:Array u2} {la lb X Y:List u2} {i j n:Nat} (m:ML lt la lb (out.toList++X) i j) (e:a.toList.drop n=X++Y):ML lt la lb (out++a.extract n (n+X.length)).toList i j:=by
 rw [Eh,xU e];exact m
theorem MH.cut {a out:Array u2} {la lb X Y:List u2} {i j n:Nat} (m:MH lt la lb (out.toList++Y.reverse) i j) (e:a.toList.take n=X++Y):MH lt la lb (out++(a.extract X.length n).reverse).toList i j:=by
 rw [Eh,EJ,vc e];exact m
theorem rZ {σ α:Type} {M:Ib} {m:StateT σ Sem α} {st : σ} {Q : α -> σ -> Prop} {P : σ -> Prop} (j:P st) (h:∀ st',P st'->wpS M A E s m Q st'):wpS M A E s m Q st:=h st j
theorem wo {σ α:Type} {M:Ib} {m:StateT σ Sem α} {st : σ} {Q : α -> σ -> Prop} (h:∀ Q' : α -> σ -> Prop,(∀ a st',Q a st'->Q' a st')->wpS M A E s m Q' st):wpS M A E s m Q st:=h Q fun _ _ h=>h
theorem wp {key x:u2} (h:bey lt false key x=true):lt key x=false:=by simpa [bey] using h
theorem s9 {key x:u2} (h:bey lt false key x=false):lt key x=true:=by simpa [bey] using h
theorem wq {key x:u2} (h:bey lt true key x=true):lt x key=true:=by simpa [bey] using h
theorem se {key x:u2} (h:bey lt true key x=false):lt x key=false:=by simpa [bey] using h
theorem lV {l X Y:List u2} {i:Nat} {x:u2} (e:l.drop i=X++Y) (h:l[i+X.length]? = some x):x∈Y:=by
 rw [<- df e,dg h];simp
theorem lW {l X Y:List u2} {n:Nat} {x:u2} (e:l.take n=X++Y) (h0 : 0 < X.length) (h:l[X.length - 1]? = some x):x∈X:=by
 have:=ck h0 h;rw [dh e] at this;rw [this];simp
theorem lZ {a:Array u2} {X Y:List u2} {i:Nat} (e:a.toList.drop i=X++Y):X.length<=a.size - i:=by
 have:=congrArg GZ e;simp at this;lia
theorem jH {a:Array u2} {X Y:List u2} {n:Nat} (e:a.toList.take n=X++Y) (h:n<=a.size):X.length+Y.length=n:=by
 have:=congrArg GZ e;simp at this;lia
theorem dZ {a:Array u2} {n:Nat} (h:n<=a.size):n=(a.toList.take n).length:=by simp;lia
theorem ML.finR {a b out:Array u2} {ia ib:Nat} (m:ML lt a.toList b.toList out.toList ia ib) (h:b.size<=ib):Res lt a.toList b.toList (out++a.extract ia++b.extract ib).toList:=by
 have:=m.fin (by simpa using h)
 simpa only [Eh,bg] using this
theorem ML.finS {a b out:Array u2} {ia ib:Nat} (m:ML lt a.toList b.toList out.toList ia ib) (h:a.size<=ia):Res lt a.toList b.toList (out++a.extract ia++b.extract ib).toList:=by
 have:=m.finE (by simpa using h)
 simpa only [Eh,bg] using this
theorem ML.finL {a b out:Array u2} {ia ib:Nat} (m:ML lt a.toList b.toList out.toList ia ib) (h:∀ x∈b.toList, ∀ y∈a.toList.drop ia,lt y x=false):Res lt a.toList b.toList (out++b.extract ib++a.extract ia).toList:=by
 have:=m.finA h;simpa only [Eh,bg] using this
theorem MH.finR {a b out:Array u2} {na nb:Nat} (m:MH lt a.toList b.toList out.toList na nb) (h:∀ x∈b.toList.take nb, ∀ y∈a.toList,lt y x=false):Res lt a.toList b.toList (b.extract 0 nb++a.extract 0 na++out.reverse).toList:=by
 have:=m.finB h;simpa only [Eh,EJ,aX] using this
theorem MH.finL {a b out:Array u2} {na nb:Nat} (m:MH lt a.toList b.toList out.toList na nb) (h:na=0∨nb=0):Res lt a.toList b.toList (a.extract 0 na++b.extract 0 nb++out.reverse).toList:=by
 have:=m.fin h;simpa only [Eh,EJ,aX] using this
theorem B8 (c:Cm prog w A s kd P lt) :
 ∃ (g:A0) (lo hi:A1),(fj prog w A E s kd P lt g/\(fj prog w A E s kd P lt g->fq prog w A E s kd P lt lo)/\(fj prog w A E s kd P lt g->fq prog w A E s kd P lt hi))/\(fj prog w A E s kd P lt g->fq prog w A E s kd P lt lo->fq prog w A E s kd P lt hi ->
  ∀ (i sa na pa sb nb pb:Nat) (L r1 r2 R:List u2) (st:F5) (Q:Bool->F5->Prop),FH st=kd->Gq st=none->(Ek st)[i]? = some (sa,na,pa)->(Ek st)[i+1]? = some (sb,nb,pb) ->
   (EM st).toList=L++(r1++r2)++R->sa=L.length->na=r1.length->sb=L.length+r1.length->nb=r2.length->r1≠[]->r2≠[]->(∀ x∈r1,P x)->(∀ x∈r2,P x)->Ord lt r1->Ord lt r2 ->
   (∀ m st',(EM st').toList=L++m++R->m.Perm (r1++r2)->Ord lt m->FH st'=kd->Gq st'=none->Ek st'=((Ek st).setIfInBounds i (sa,na+nb,pa)).eraseIdxIfInBounds (i+1)->Q true st') ->
   wpS (El prog w) A E s (NP i) Q st):=by
 apply Ms;apply Ms;apply Ms;apply ID
 rotate_left
 ·intro hg DQ DR i sa na pa sb nb pb L r1 r2 R st Q hk hf h1 h2 Z Dj CF Dl CV DS DT Du Dv o1 o2 q;unfold NP;refine r3 (HW ?_);rw [h1,h2];dsimp only;refine r3 (xT ?_);obtain ⟨y0,t2,rfl⟩:∃ y t,r2=y::t:=by cases r2 with | nil=>exact absurd rfl DT | cons y t=>exact ⟨y,t,rfl⟩
  have hz:(EM st)[sb]? = some y0:=by
   rw [<- EB,Z,Dl];simp
  refine r3 (av hz ?_);refine r3 (hg false y0 (EM st) L r1 (y0::t2++R) sa na 0 _ _ hk (Dv _ (by simp)) (by rw [Z];simp) Dj CF Du (by rw [CF];exact EX.mpr DS) o1 fun X Y e hX hY => ?_)
  dsimp only;have lX:∀ x∈X,lt y0 x=false:=fun x hx=>by have:=hX x hx;simpa [bey] using this
  have lY:∀ x∈Y,lt x y0=false:=fun x hx=>c.asym _ _ (by have:=hY x hx;simpa [bey] using this)
  have hlen:na - X.length=Y.length:=by rw [CF,e];simp
  subst e;obtain ⟨oX,oY,oXY⟩:=q7.mp o1;have oy:=JB.mp o2;have Dm:∀ x∈X, ∀ z∈y0::t2,lt z x=false:=fun x hx z hz=>by
   rcases Eb.mp hz with h | h
   ·rw [h];exact lX x hx
   ·exact c.le_trans (lX x hx) (oy.1 z h)
  refine ae (fun h => ?_) (fun h => ?_)
  ·have Dn:Y=[]:=EL.mp (by rw [<- hlen];simpa using h)
   subst Dn;refine aa (q (X++(y0::t2)) _ (by simpa using Z) (by simp) ?_ hk hf rfl)
   exact q7.mpr ⟨oX,o2,Dm⟩
  ·have Dn : 0 < Y.length:=by
    have:na - X.length≠0:=by simpa using h
    lia
   obtain ⟨Y0,xl,rfl⟩:∃ Y0 xl,Y=Y0++[xl]:=⟨Y.dropLast,Y.getLast (by intro z;rw [z] at Dn;simp at Dn),(Gp _).symm⟩
   have DU:(EM st)[sa+X.length+(na - X.length) - 1]? = some xl:=by
    rw [<- EB,Z,hlen,Dj];simp only [Ei,r4,Iv];rw [hH (by lia),hH (by lia),hH (by lia)]
    rw [show L.length+X.length+(Y0.length+1) - 1 - L.length - X.length - Y0.length=0 by lia];rfl
   refine r3 (av DU ?_);refine r3 (hg true xl (EM st) (L++(X++(Y0++[xl]))) (y0::t2) R sb nb (nb - 1) _ _ hk (Du _ (by simp)) (by rw [Z];simp) (by rw [Dl];simp) CV Dv (by rw [CV];simp) o2 fun X2 Y2 e2 CG CH => ?_)
   dsimp only;have DV:∀ x∈X2,lt xl x=false:=fun x hx=>c.asym _ _ (by have:=CG x hx;simpa [bey] using this)
   have DE:∀ x∈Y2,lt x xl=false:=fun x hx=>by have:=CH x hx;simpa [bey] using this
   have DW:Ord lt (X2++Y2):=by rw [<- e2];exact o2
   obtain ⟨DX,DY,DF⟩:=q7.mp DW;obtain ⟨E7,_,oYl⟩:=q7.mp oY;have lYY:∀ x∈Y0++[xl], ∀ z∈Y2,lt z x=false:=fun x hx z hz=>by
    rcases Ea.mp hx with h | h
    ·exact c.le_trans (oYl x h xl (by simp)) (DE z hz)
    ·simp at h;subst h;exact DE z hz
   refine ae (fun h => ?_) (fun h => ?_)
   ·have Cy:X2=[]:=EL.mp (by simpa using h)
    subst Cy;have e2:y0::t2=Y2:=by simpa using e2
    refine aa (q (X++(Y0++[xl])++(y0::t2)) _ (by simpa using Z) (JD _) ?_ hk hf rfl)
    refine q7.mpr ⟨o1,o2,fun x hx z hz => ?_⟩
    rcases Ea.mp hx with g | g
    ·exact Dm x g z hz
    ·exact lYY x g z (by rw [<- e2];exact hz)
   ·have Cy:X2≠[]:=fun z=>h (by rw [z];rfl)
    have hx:((EM st).extract (sa+X.length) sb).toList=Y0++[xl]:=by
     rw [Gf,Z,Dj,Dl];simp only [Im];have e1:(L++(X++(Y0++[xl])++y0::t2)++R).drop (L.length+X.length)=(Y0++[xl])++(y0::t2++R):=by
      rw [<- Il];simp
     rw [e1,show L.length+(X++(Y0++[xl])).length - (L.length+X.length)=(Y0++[xl]).length by simp only [r4];lia,List.take_left]
    have hy:((EM st).extract sb (sb+X2.length)).toList=X2:=by
     rw [Gf,Z,Dl];simp only [Im];have e1:(L++(X++(Y0++[xl])++y0::t2)++R).drop (L.length+(X++(Y0++[xl])).length)=(y0::t2)++R:=by
      rw [<- Il];simp
     rw [e1,e2];simp
    have G:∀ (r:Array u2) (C1:F5),r.toList.Perm ((Y0++[xl])++X2)->Ord lt r.toList->Same (PyProof.Rows.SortSt.mk' (FH st) (EM st) (((Ek st).setIfInBounds i (sa,na+nb,pa)).eraseIdxIfInBounds (i+1)) (gallopOf st) (Gq st)) C1 -> ∀ BY:F5,EM BY=IB (fun a x=>a.setIfInBounds (sa+X.length+x.snd) x.fst) (EM C1) r.toList.zipIdx->FH BY=FH C1->Gq BY=Gq C1->Ek BY=Ek C1->Q (Gq BY).isNone BY:=by
     intro r C1 hp ho hs BY g1 g2 g3 g4;have DG:Gq BY=none:=g3.trans (hs.fail.trans hf);rw [DG];refine q (X++r.toList++Y2) BY ?_ ?_ ?_ (g2.trans (hs.kind.trans hk)) DG (g4.trans hs.pend)
     ·rw [g1,hs.arr];have e3:(EM st).toList=(L++X)++((Y0++[xl])++X2)++(Y2++R):=by
       rw [Z,e2];simp
      rw [show sa+X.length=(L++X).length by rw [Dj];simp]
      rw [vd _ _ _ _ _ e3 (hp.length_eq)];simp
     ·rw [e2];refine Gz.trans (Fd _ (EZ _ hp)) ?_;simp
     ·refine q7.mpr ⟨q7.mpr ⟨oX,ho,fun x hx z hz => ?_⟩,DY,fun x hx z hz => ?_⟩
      ·rcases Ea.mp (hp.mem_iff.mp hz) with g | g
       ·exact oXY x hx z g
       ·exact Dm x hx z (by rw [e2];exact Fu _ g)
      ·rcases Ea.mp hx with g | g
       ·exact Dm x g z (by rw [e2];exact Ep _ hz)
       ·rcases Ea.mp (hp.mem_iff.mp g) with g | g
        ·exact lYY x g z hz
        ·exact DF x g z hz
    have Ds:∀ x y,((EM st).extract (sa+X.length) sb)[0]? = some x->((EM st).extract sb (sb+X2.length))[0]? = some y->lt x y=false:=by
     intro x y Co CW;rw [<- EB,hx] at Co;rw [<- EB,hy] at CW;have CY:=EI Co;have:y=y0:=by
      cases X2 with
      | nil=>exact absurd rfl Cy
      | cons z t=>simp at e2 CW;rw [<- CW, <- e2.1]
     subst this;exact lY x CY
    have preL:∀ x y,((EM st).extract (sa+X.length) sb)[((EM st).extract (sa+X.length) sb).size - 1]? = some x->((EM st).extract sb (sb+X2.length))[((EM st).extract sb (sb+X2.length)).size - 1]? = some y->lt x y=false:=by
     intro x y Co CW;rw [<- EB, <- Es,hx] at Co;rw [<- EB, <- Es,hy] at CW;have Cp:=EI CW;have:x=xl:=by simp at Co;exact Co.symm
     subst this;exact DV y Cp
    have DH : 0 < ((EM st).extract (sa+X.length) sb).size:=by rw [<- Es,hx];simp
    have DI : 0 < ((EM st).extract sb (sb+X2.length)).size:=by rw [<- Es,hy];exact EX.mpr Cy
    have DJ:∀ x∈((EM st).extract (sa+X.length) sb).toList,P x:=by rw [hx];exact fun x hx=>Du x (Ep _ hx)
    have DK:∀ x∈((EM st).extract sb (sb+X2.length)).toList,P x:=by rw [hy];exact fun x hx=>Dv x (by rw [e2];exact Fu _ hx)
    have DL:Ord lt ((EM st).extract (sa+X.length) sb).toList:=by rw [hx];exact oY
    have DM:Ord lt ((EM st).extract sb (sb+X2.length)).toList:=by rw [hy];exact DX
    refine ae (fun h => ?_) (fun h => ?_)
    ·refine r3 (DQ _ _ _ _ hk DJ DK DH DI DL DM Ds preL fun r C1 hp ho hs => ?_);rw [hx,hy] at hp;refine r3 (G9 ?_);refine r3 (HW ?_);exact aa (G r C1 hp ho hs _ rfl rfl rfl rfl)
    ·refine r3 (DR _ _ _ _ hk DJ DK DH DI DL DM Ds preL fun r C1 hp ho hs => ?_);rw [hx,hy] at hp;refine r3 (G9 ?_);refine r3 (HW ?_);exact aa (G r C1 hp ho hs _ rfl rfl rfl rfl)
 apply ID
 ·intro left key arr L xs R base n hint st Q hk Cz Z Dw hn hP hh hs q;subst Dw hn;have at_:∀ i,i < xs.length -> ∃ x,xs[i]? = some x/\arr[L.length+i]? = some x/\P x:=by
   intro i hi;refine ⟨xs[i],h7 hi, ?_,hP _ (K7 _)⟩;rw [<- EB,Z,Ei,hH (by lia),Ef (by lia)]
   rw [show L.length+i - L.length=i by lia]
   exact h7 hi
  obtain ⟨x0,Co,CZ,DZ⟩:=at_ hint hh;refine r3 (eM c hk Cz DZ CZ ?_)
  try dsimp only
  refine ae (fun hb => ?_) (fun hb => ?_)
  ·skip
   refine r3 (aw (Q:=fun r st'=>st'=st /\ ∃ la ofs,r=(none,la,ofs)/\hint+la < xs.length/\la < ofs/\(∀ j x,j < hint+la+1->xs[j]? = some x->bey lt left key x=true)/\(xs.length<=hint+ofs ∨ ∀ j x,hint+ofs<=j->xs[j]? = some x->bey lt left key x=false))
    (F4 (fun i r st'=>st'=st /\ ∃ la ofs,r=(none,la,ofs)/\hint+la < xs.length/\la < ofs/\i+1<=ofs/\(∀ j x,j < hint+la+1->xs[j]? = some x->bey lt left key x=true)) ?_ ?_ ⟨rfl,0,1,rfl,hh,by lia,by lia,fu c hs Co hb⟩) ?_)
   ·rintro i r st' _ hi ⟨rfl,la,ofs,rfl,h1,h2,h3,h4⟩
    try dsimp only
    refine ae (fun CI => ?_) (fun CI => ?_)
    ·exact aa ⟨rfl,la,ofs,rfl,h1,h2,h4, .inl (by lia)⟩
    ·skip
     obtain ⟨x1,Ci,CJ,CK⟩:=at_ (hint+ofs) (by lia)
     refine r3 (eM c hk Cz CK CJ ?_)
     try dsimp only
     refine ae (fun hf => ?_) (fun hf => ?_)
     ·exact aa ⟨rfl,la,ofs,rfl,h1,h2,h4, .inr (fx c hs Ci (by simpa using hf))⟩
     ·exact aa ⟨rfl,ofs,2*ofs+1,rfl,by lia,by lia,by lia,fu c hs Ci (by simpa using hf)⟩
   ·rintro r st' ⟨rfl,la,ofs,rfl,h1,h2,h3,h4⟩;exact ⟨rfl,la,ofs,rfl,h1,h2,h4, .inl (by lia)⟩
   ·rintro r st' ⟨rfl,la,ofs,rfl,h1,h2,h3,h4⟩
    try dsimp only
    have hG:Gal lt left key xs (hint+la+1) (hint+min ofs (xs.length - hint)):=by
     refine ⟨by lia,by lia,h3,fun i x hi hx => ?_⟩
     have E8:i < xs.length:=(o7.mp hx).1
     rcases h4 with h4 | h4
     ·lia
     ·exact h4 i x (by lia) hx
    generalize hint+la+1=lo at hG;generalize hint+min ofs (xs.length - hint)=hi at hG;refine r3 (aw (Q:=fun r st''=>st''=st' /\ ∃ k,r=(none,k,k)/\Gal lt left key xs k k)
     (F4 (fun i r st''=>st''=st' /\ ∃ lo hi,r=(none,lo,hi)/\Gal lt left key xs lo hi/\hi - lo+i<=xs.length) ?_ ?_ ⟨rfl,lo,hi,rfl,hG,by have:=hG.len;lia⟩) ?_)
    ·rintro i r st'' _ hi ⟨rfl,lo,hi,rfl,hG,hm⟩
     try dsimp only
     have hl:=hG.le;have D3:=hG.len;refine ae (fun CI => ?_) (fun CI => ?_)
     ·exact aa ⟨rfl,hi,by rw [show lo=hi by lia],by rw [show lo=hi by lia] at hG;exact hG⟩
     ·skip
      obtain ⟨x1,Ci,CJ,CK⟩:=at_ (lo+(hi - lo) / 2) (by lia)
      refine r3 (eM c hk Cz CK CJ ?_)
      try dsimp only
      refine ae (fun hf => ?_) (fun hf => ?_)
      ·exact aa ⟨rfl,_,_,rfl,⟨by lia,D3,fu c hs Ci hf,hG.dn⟩,by lia⟩
      ·exact aa ⟨rfl,_,_,rfl,⟨by lia,by lia,hG.up,fx c hs Ci (by simpa using hf)⟩,by lia⟩
    ·rintro r st'' ⟨rfl,lo,hi,rfl,hG,hm⟩;have hl:=hG.le;exact ⟨rfl,hi,by rw [show lo=hi by lia],by rw [show lo=hi by lia] at hG;exact hG⟩
    ·rintro r st'' ⟨rfl,k,rfl,hG⟩;obtain ⟨X,Y,e,hl,hX,hY⟩:=hG.out;subst hl;exact aa (q X Y e hX hY)
  ·skip
   refine r3 (aw (Q:=fun r st'=>st'=st /\ ∃ la ofs,r=(none,la,ofs)/\la<=hint/\la < ofs/\(∀ j x,hint - la<=j->xs[j]? = some x->bey lt left key x=false)/\(hint < ofs ∨ ∀ j x,j < hint - ofs+1->xs[j]? = some x->bey lt left key x=true))
    (F4 (fun i r st'=>st'=st /\ ∃ la ofs,r=(none,la,ofs)/\la<=hint/\la < ofs/\i+1<=ofs/\(∀ j x,hint - la<=j->xs[j]? = some x->bey lt left key x=false)) ?_ ?_ ⟨rfl,0,1,rfl,by lia,by lia,by lia,fx c hs Co (by simpa using hb)⟩) ?_)
   ·rintro i r st' _ hi ⟨rfl,la,ofs,rfl,h1,h2,h3,h4⟩
    try dsimp only
    refine ae (fun CI => ?_) (fun CI => ?_)
    ·exact aa ⟨rfl,la,ofs,rfl,h1,h2,h4, .inl (by lia)⟩
    ·skip
     obtain ⟨x1,Ci,CJ,CK⟩:=at_ (hint - ofs) (by lia)
     refine r3 (eM c hk Cz CK CJ ?_)
     try dsimp only
     refine ae (fun hf => ?_) (fun hf => ?_)
     ·exact aa ⟨rfl,la,ofs,rfl,h1,h2,h4, .inr (fu c hs Ci hf)⟩
     ·exact aa ⟨rfl,ofs,2*ofs+1,rfl,by lia,by lia,by lia,fx c hs Ci (by simpa using hf)⟩
   ·rintro r st' ⟨rfl,la,ofs,rfl,h1,h2,h3,h4⟩;exact ⟨rfl,la,ofs,rfl,h1,h2,h4, .inl (by lia)⟩
   ·rintro r st' ⟨rfl,la,ofs,rfl,h1,h2,h3,h4⟩
    try dsimp only
    have hG:Gal lt left key xs (hint+1 - min ofs (hint+1)) (hint - la):=by
     refine ⟨by lia,by lia,fun i x hi hx => ?_,h3⟩
     rcases h4 with h4 | h4
     ·lia
     ·exact h4 i x (by lia) hx
    generalize hint+1 - min ofs (hint+1)=lo at hG;generalize hint - la=hi at hG;refine r3 (aw (Q:=fun r st''=>st''=st' /\ ∃ k,r=(none,k,k)/\Gal lt left key xs k k)
     (F4 (fun i r st''=>st''=st' /\ ∃ lo hi,r=(none,lo,hi)/\Gal lt left key xs lo hi/\hi - lo+i<=xs.length) ?_ ?_ ⟨rfl,lo,hi,rfl,hG,by have:=hG.len;lia⟩) ?_)
    ·rintro i r st'' _ hi ⟨rfl,lo,hi,rfl,hG,hm⟩
     try dsimp only
     have hl:=hG.le;have D3:=hG.len;refine ae (fun CI => ?_) (fun CI => ?_)
     ·exact aa ⟨rfl,hi,by rw [show lo=hi by lia],by rw [show lo=hi by lia] at hG;exact hG⟩
     ·skip
      obtain ⟨x1,Ci,CJ,CK⟩:=at_ (lo+(hi - lo) / 2) (by lia)
      refine r3 (eM c hk Cz CK CJ ?_)
      try dsimp only
      refine ae (fun hf => ?_) (fun hf => ?_)
      ·exact aa ⟨rfl,_,_,rfl,⟨by lia,D3,fu c hs Ci hf,hG.dn⟩,by lia⟩
      ·exact aa ⟨rfl,_,_,rfl,⟨by lia,by lia,hG.up,fx c hs Ci (by simpa using hf)⟩,by lia⟩
    ·rintro r st'' ⟨rfl,lo,hi,rfl,hG,hm⟩;have hl:=hG.le;exact ⟨rfl,hi,by rw [show lo=hi by lia],by rw [show lo=hi by lia] at hG;exact hG⟩
    ·rintro r st'' ⟨rfl,k,rfl,hG⟩;obtain ⟨X,Y,e,hl,hX,hY⟩:=hG.out;subst hl;exact aa (q X Y e hX hY)
 apply ID
 ·intro hg a b st Q hk CL CM Do Dp sa sb D4 D5 q;refine r3 (cj ?_);obtain ⟨b0,Dq,D6,E2⟩:=aA Dp;obtain ⟨a0,CZ,CT,E3⟩:=aA Do;refine r3 (av Dq ?_);have m0:ML lt a.toList b.toList [] 0 0:=⟨sa,sb,by simp⟩
  have m1:ML lt a.toList b.toList [b0] 0 1:=m0.pushB c CT D6 (D4 a0 b0 CZ Dq);have Cq:∀ x∈b.toList, ∀ (i:Nat),i+1=a.size -> ∀ y∈a.toList.drop i,lt y x=false:=by
   intro x hx i hi y hy;obtain ⟨aL,Dr,D7,_⟩:=aA (a:=a) (i:=i) (by lia)
   obtain ⟨bL,Dx,CU,_⟩:=aA (a:=b) (i:=b.size - 1) (by lia)
   have e:a.toList.drop i=[aL]:=by
    rw [dg D7,Gv (by simp;lia)];rfl
   rw [e] at hy;simp at hy;subst hy;have hl:=D5 y bL (by rw [show a.size - 1=i by lia];exact Dr) Dx
   obtain ⟨j,hj,e⟩:=Gd.mp hx;have CN:b.toList[j]? = some x:=by rw [<- e];exact h7 hj
   by_cases hjb:j=b.size - 1
   ·subst hjb;rw [CU] at CN;cases CN;exact hl
   ·have:=dF sb (show j < b.size - 1 by simp at hj;lia) CN CU
    exact c.le_trans this hl
  try dsimp -zeta -zetaHave -zetaUnused only
  refine ae (fun h => ?_) (fun h => ?_)
  ·skip
   have h : 1=b.size:=by simpa using h
   refine aa ?_;have r:=m1.fin (by simp;lia)
   exact q _ _ (by simpa only [Eh,Ej,Ey,bg] using r.1) (by simpa only [Eh,Ej,Ey,bg] using r.2) Same.refl
  ·skip
   refine ae (fun h2 => ?_) (fun h2 => ?_)
   ·skip
    have h2 : 0+1=a.size:=by simpa using h2
    refine aa ?_;have r:=m1.finA (Cq · · 0 h2);exact q _ _ (by simpa only [Eh,Ej,Ey,bg] using r.1) (by simpa only [Eh,Ej,Ey,bg] using r.2) Same.refl
   ·skip
    have h : 1≠b.size:=by simpa using h
    have h2 : 0+1≠a.size:=by simpa using h2
    refine r3 (HW ?_)
    try dsimp -zeta -zetaHave -zetaUnused only
    refine r3 (aw (Q:=fun r st'=>Same st st' /\ ∃ res t,r=(some res,t)/\Res lt a.toList b.toList res.toList)
     (F4 (fun i r st'=>Same st st' /\ ∃ out ia ib mg,r=(none,out,ia,ib,mg)/\ML lt a.toList b.toList out.toList ia ib/\ia+1 < a.size/\ib < b.size/\i+1<=out.size) ?_ ?_ ⟨Same.refl,_,_,_,_,rfl,m1,by lia,by lia,by simp⟩) ?_)
    ·rintro i r Cj _ hi ⟨sm,out,ia,ib,mg,rfl,m,Dy,Dz,hsz⟩
     try dsimp -zeta -zetaHave -zetaUnused only
     refine r3 (aw (Q:=fun r st'=>st'=Cj/\((∃ B Cb Cf ac bc,r=(none,B,Cb,Cf,ac,bc)/\ML lt a.toList b.toList B.toList Cb Cf/\Cb+1 < a.size/\Cf < b.size/\i+2<=B.size) ∨ ∃ res t,r=(some res,t)/\Res lt a.toList b.toList res.toList))
      (F4 (fun j r st'=>st'=Cj /\ ∃ B Cb Cf ac bc,r=(none,B,Cb,Cf,ac,bc)/\ML lt a.toList b.toList B.toList Cb Cf/\Cb+1 < a.size/\Cf < b.size/\i+1+j<=B.size) ?_ ?_ ⟨rfl,_,_,_,_,_,rfl,m,Dy,Dz,by lia⟩) ?_)
     ·rintro j r C1 _ hj ⟨rfl,B,Cb,Cf,ac,bc,rfl,m2,h1,h2,h3⟩
      try dsimp only
      obtain ⟨y,hy,Ck,Cp⟩:=aA (a:=b) h2;obtain ⟨x,hx,D8,CY⟩:=aA (a:=a) (i:=Cb) (by lia)
      refine r3 (av hy (r3 (av hx (r3 (iy c (sm.kind.trans hk) (CM _ Cp) (CL _ CY) ?_)))))
      try dsimp only
      refine ae (fun hl => ?_) (fun hl => ?_)
      ·skip
       refine r3 (av hy ?_)
       try dsimp only
       have m3:=m2.pushB c D8 Ck (c.asym _ _ hl);refine ae (fun h => ?_) (fun h => ?_)
       ·skip
        have h:Cf+1=b.size:=by simpa using h
        exact aa ⟨rfl, .inr ⟨_,_,rfl,by simpa only [Eh,Ej,Ey,bg] using m3.fin (by simp;lia)⟩⟩
       ·skip
        have h:Cf+1≠b.size:=by simpa using h
        refine ae (fun _ => ?_) (fun _ => ?_)
        ·exact aa ⟨rfl, .inl ⟨_,_,_,_,_,rfl,by simpa only [Eh,Ej] using m3,h1,by lia,by simp;lia⟩⟩
        ·exact aa ⟨rfl,_,_,_,_,_,rfl,by simpa only [Eh,Ej] using m3,h1,by lia,by simp;lia⟩
      ·skip
       refine r3 (av hx ?_)
       try dsimp only
       have m3:=m2.pushA c D8 Ck (by simpa using hl)
       refine ae (fun h => ?_) (fun h => ?_)
       ·skip
        have h:Cb+1+1=a.size:=by simpa using h
        exact aa ⟨rfl, .inr ⟨_,_,rfl,by simpa only [Eh,Ej,Ey,bg] using m3.finA (Cq · · _ h)⟩⟩
       ·skip
        have h:Cb+1+1≠a.size:=by simpa using h
        refine ae (fun _ => ?_) (fun _ => ?_)
        ·exact aa ⟨rfl, .inl ⟨_,_,_,_,_,rfl,by simpa only [Eh,Ej] using m3,by lia,h2,by simp;lia⟩⟩
        ·exact aa ⟨rfl,_,_,_,_,_,rfl,by simpa only [Eh,Ej] using m3,by lia,h2,by simp;lia⟩
     ·rintro r C1 ⟨rfl,B,Cb,Cf,ac,bc,rfl,m2,h1,h2,h3⟩;exact ⟨rfl, .inl ⟨_,_,_,_,_,rfl,m2,h1,h2,by lia⟩⟩
     ·rintro r C1 ⟨rfl,⟨B,Cb,Cf,ac,bc,rfl,m2,h1,h2,h3⟩ | ⟨res,t,rfl,J⟩⟩
      ·dsimp -zeta -zetaHave -zetaUnused only;refine r3 (cj ?_);refine r3 (aw (Q:=fun r st'=>Same st st'/\((∃ F C3 BZ Cc ac bc,r=(none,F,C3,BZ,Cc,ac,bc)/\ML lt a.toList b.toList F.toList C3 BZ/\C3+1 < a.size/\BZ < b.size/\i+2<=F.size) ∨ ∃ res t,r=(some res,t)/\Res lt a.toList b.toList res.toList))
        (F4 (fun j r st'=>Same st st' /\ ∃ F C3 BZ Cc ac bc,r=(none,F,C3,BZ,Cc,ac,bc)/\ML lt a.toList b.toList F.toList C3 BZ/\C3+1 < a.size/\BZ < b.size/\i+2<=F.size) ?_ ?_ ⟨sm,_,_,_,_,_,_,rfl,m2,h1,h2,h3⟩) ?_)
       ·rintro j r BY _ hj ⟨Cd,F,C3,BZ,Cc,D9,Da,rfl,m3,h1,h2,h5⟩;obtain ⟨y,hy,Ck,Cp⟩:=aA (a:=b) h2;refine wo fun QQ hQ => ?_;have G:∀ (st':F5) (res:Array u2) t,Same st st'->Res lt a.toList b.toList res.toList->QQ (.done (some res,t)) st':=fun st' res t hs hr=>hQ _ _ ⟨hs, .inr ⟨_,_,rfl,hr⟩⟩;have DA:∀ (st':F5) (out:Array u2) ia ib mg ac bc,Same st st'->ML lt a.toList b.toList out.toList ia ib->ia+1 < a.size->ib < b.size->i+2<=out.size->QQ (.done (none,out,ia,ib,mg,ac,bc)) st'/\QQ (.yield (none,out,ia,ib,mg,ac,bc)) st':=fun st' out ia ib mg ac bc hs p1 p2 p3 p4=>⟨hQ _ _ ⟨hs, .inl ⟨_,_,_,_,_,_,rfl,p1,p2,p3,p4⟩⟩,hQ _ _ ⟨hs,_,_,_,_,_,_,rfl,p1,p2,p3,p4⟩⟩;clear hQ hj
        extract_lets -underBinder s0 vout s1 via s2 vib s3 vmg s4 vac vbc jp vmx
        have Db:∀ mg,wpS (El prog w) A E s (jp () mg) QQ BY:=by
         intro mg;dsimp -zeta -zetaHave -zetaUnused only [jp,s0,vout,s1,via,s2,vib,s3,vmg,s4,vac,vbc];clear vmx jp vbc vac s4 vmg s3 vib s2 via s1 vout s0;refine r3 (G9 ?_);refine rZ (P:=Same st) (Cd.trans ⟨rfl,rfl,rfl,rfl⟩) fun CO C4 => ?_;have Dc:=C4.kind.trans hk;refine r3 (av hy ?_);refine r3 (hg false y a (a.toList.take C3) (a.toList.drop C3) [] _ _ _ _ _ Dc (CM _ Cp) (by simp) (dZ (by lia)) (by simp) (fun x hx=>CL x (IY hx)) (by lia) ((q7.mp m3.pa).2.1) fun X Y e hX hY => ?_)
         dsimp -zeta -zetaHave -zetaUnused only;have m4:=m3.galA c e Ck fun x hx=>wp (hX x hx);have C5:∀ x4,a.toList[C3+X.length]? = some x4->lt x4 y=false:=fun x4 Cr=>c.asym _ _ (s9 (hY x4 (lV e Cr)));have CP:=lZ e
         extract_lets -underBinder +onlyGivenNames vac Ct
         clear_value vac
         have CA:∀ (O:Array u2) (Cl:Nat),ML lt a.toList b.toList O.toList Cl BZ->(∀ x4,a.toList[Cl]? = some x4->lt x4 y=false)->Cl+1 < a.size->i+2<=O.size->wpS (El prog w) A E s (Ct () O Cl) QQ CO:=by
          intro O Cl DB Cu E4 Dd;dsimp -zeta -zetaHave -zetaUnused only [Ct];clear Ct CP C5 m4 hX hY;obtain ⟨x4,Cr,C9,De⟩:=aA (a:=a) (i:=Cl) (by lia)
          refine r3 (av hy ?_);have m5:=DB.pushB c C9 Ck (Cu x4 C9);rw [<- Ej] at m5;have Ca:i+2<=(O.push y).size:=by rw [J7];lia
          try dsimp -zeta -zetaHave -zetaUnused only
          extract_lets -underBinder +onlyGivenNames vo5 vi5
          dsimp -zeta -zetaHave -zetaUnused only [vo5];clear vo5;have e5:vi5=BZ+1:=rfl
          clear_value vi5
          subst e5
          revert m5 Ca
          generalize O.push y=out5;intro m5 Ca;refine ae (fun h => ?_) (fun h => ?_)
          ·exact aa (G _ _ _ C4 (m5.finR (by have h:=GW h;lia)))
          ·have h:BZ+1≠b.size:=by simpa using h
           refine r3 (av Cr ?_);refine r3 (hg true x4 b (b.toList.take (BZ+1)) (b.toList.drop (BZ+1)) [] _ _ _ _ _ Dc (CL _ De) (by simp) (dZ (by lia)) (by simp) (fun x hx=>CM x (IY hx)) (by lia) ((q7.mp m5.pb).2.1) fun X2 Y2 e2 CG CH => ?_)
           dsimp -zeta -zetaHave -zetaUnused only;have m6:=m5.galB c e2 C9 fun x hx=>c.asym _ _ (wq (CG x hx));have C6:∀ y6,b.toList[BZ+1+X2.length]? = some y6->lt y6 x4=false:=fun y6 Df=>se (CH y6 (lV e2 Df));have CQ:=lZ e2
           extract_lets -underBinder +onlyGivenNames vbc Cv
           clear_value vbc
           have CB:∀ (C0:Array u2) (CS:Nat),ML lt a.toList b.toList C0.toList Cl CS->(∀ y6,b.toList[CS]? = some y6->lt y6 x4=false)->CS < b.size->i+2<=C0.size->wpS (El prog w) A E s (Cv () C0 CS) QQ CO:=by
            intro C0 CS DC Cw Dt DN;dsimp -zeta -zetaHave -zetaUnused only [Cv];clear Cv CQ C6 m6 CG CH m5 Ca Dd h5 h1 h2 hsz Dz Dy h3;obtain ⟨y6,Df,CC,DO⟩:=aA (a:=b) (i:=CS) Dt;refine r3 (av Cr ?_);have m7:=DC.pushA c C9 CC (Cw y6 CC);rw [<- Ej] at m7;dsimp only;refine ae (fun h => ?_) (fun h => ?_)
            ·exact aa (G _ _ _ C4 (m7.finL (Cq · · (Cl+1) (GW h))))
            ·have h:Cl+1+1≠a.size:=by simpa using h
             have:=DA CO (C0.push x4) (Cl+1) CS mg vac vbc C4 m7 (by lia) Dt (by rw [J7];lia)
             exact ae (fun _=>aa this.1) (fun _=>aa this.2)
           clear_value Cv
           refine ae (fun h0 => ?_) (fun h0 => ?_)
           ·dsimp only;have m6:=m6.cut (a:=b) e2;refine ae (fun h => ?_) (fun h => ?_)
            ·exact aa (G _ _ _ C4 (m6.finR (by have h:=GW h;lia)))
            ·have h:BZ+1+X2.length≠b.size:=by simpa using h
             exact CB _ _ m6 C6 (by lia) (by rw [Ho];lia)
           ·have Cy:X2=[]:=EL.mp (by lia)
            subst Cy;exact CB _ _ m5 C6 (by lia) Ca
         clear_value Ct
         refine ae (fun h0 => ?_) (fun h0 => ?_)
         ·dsimp only;have m4:=m4.cut (a:=a) e;refine ae (fun h => ?_) (fun h => ?_)
          ·exact aa (G _ _ _ C4 (m4.finL (Cq · · _ (GW h))))
          ·have h:C3+X.length+1≠a.size:=by simpa using h
           refine ae (fun h => ?_) (fun h9 => ?_)
           ·exact aa (G _ _ _ C4 (m4.finS (by have h:=GW h;lia)))
           ·have h9:C3+X.length≠a.size:=by simpa using h9
            exact CA _ _ m4 C5 (by lia) (by rw [Ho];lia)
         ·have Cy:X=[]:=EL.mp (by lia)
          subst Cy;exact CA _ _ m3 C5 h1 h5
        clear_value jp
        exact ae (fun _=>Db _) (fun _=>Db _)
       ·rintro r BY ⟨Cd,F,C3,BZ,Cc,D9,Da,rfl,m3,h1,h2,h5⟩;exact ⟨Cd, .inl ⟨_,_,_,_,_,_,rfl,m3,h1,h2,h5⟩⟩
       ·rintro r BY ⟨Cd,⟨F,C3,BZ,Cc,D9,Da,rfl,m3,h1,h2,h5⟩ | ⟨res,t,rfl,J⟩⟩
        ·dsimp -zeta -zetaHave -zetaUnused only;refine r3 (G9 ?_);exact aa ⟨Cd.trans ⟨rfl,rfl,rfl,rfl⟩,_,_,_,_,rfl,m3,h1,h2,by lia⟩
        ·exact aa ⟨Cd,_,_,rfl,J⟩
      ·exact aa ⟨sm,_,_,rfl,J⟩
    ·rintro r Cj ⟨sm,out,ia,ib,mg,rfl,m,Dy,Dz,hsz⟩;have:=m.size (by simp;lia) (by simp;lia)
     simp at this;lia
    ·rintro r Cj ⟨sm,res,t,rfl,J⟩;exact aa (q res Cj J.1 J.2 sm)
 ·intro hg a b st Q hk CL CM Do Dp sa sb D4 D5 q;refine r3 (cj ?_);obtain ⟨bL,Dx,CU,E5⟩:=aA (a:=b) (i:=b.size - 1) (by lia)
  obtain ⟨aL,Dr,D7,E6⟩:=aA (a:=a) (i:=a.size - 1) (by lia)
  refine r3 (av Dr ?_);have m0:MH lt a.toList b.toList [] a.size b.size:=⟨by rw [dq];simpa using sa,by rw [dq];simpa using sb,by rw [dq,dq];simp⟩
  have m1:MH lt a.toList b.toList [aL] (a.size - 1) b.size:=m0.pushA c Do Dp D7 CU (D5 aL bL Dr Dx);have Ch:∀ x∈b.toList.take 1, ∀ y∈a.toList,lt y x=false:=by
   intro x hx y hy;obtain ⟨b0,Dq,D6,_⟩:=aA Dp;obtain ⟨a0,CZ,CT,_⟩:=aA Do;have ex:x=b0:=by
    rw [ck (by lia) D6] at hx
    simpa using hx
   subst ex;have h:=D4 a0 x CZ Dq;obtain ⟨j,hj,e⟩:=Gd.mp hy;have CN:a.toList[j]? = some y:=by rw [<- e];exact h7 hj
   by_cases hj0:j=0
   ·subst hj0;rw [CT] at CN;cases CN;exact h
   ·exact c.le_trans h (dF sa (by lia) CT CN)
  try dsimp -zeta -zetaHave -zetaUnused only
  refine ae (fun h => ?_) (fun h => ?_)
  ·skip
   have h:a.size - 1=0:=by simpa using h
   refine aa ?_;have r:=m1.fin (.inl h);exact q _ _ (by simpa only [Eh,Ej,EJ,Ey,aX] using r.1) (by simpa only [Eh,Ej,EJ,Ey,aX] using r.2) Same.refl
  ·skip
   refine ae (fun h2 => ?_) (fun h2 => ?_)
   ·skip
    have h2:b.size=1:=by simpa using h2
    refine aa ?_;have r:=m1.finB (by rw [h2];exact Ch)
    exact q _ _ (by simpa only [Eh,Ej,EJ,Ey,aX] using r.1) (by simpa only [Eh,Ej,EJ,Ey,aX] using r.2) Same.refl
   ·skip
    have h:a.size - 1≠0:=by simpa using h
    have h2:b.size≠1:=by simpa using h2
    refine r3 (HW ?_)
    try dsimp -zeta -zetaHave -zetaUnused only
    refine r3 (aw (Q:=fun r st'=>Same st st' /\ ∃ res t,r=(some res,t)/\Res lt a.toList b.toList res.toList)
     (F4 (fun i r st'=>Same st st' /\ ∃ na nb out mg,r=(none,na,nb,out,mg)/\MH lt a.toList b.toList out.toList na nb/\0 < na/\1 < nb/\na < a.size/\nb<=b.size/\i+1<=out.size) ?_ ?_ ⟨Same.refl,_,_,_,_,rfl,m1,by lia,by lia,by lia,by lia,by simp⟩) ?_)
    ·rintro i r Cj _ hi ⟨sm,na,nb,out,mg,rfl,m,CF,CV,Dg,Dh,hsz⟩
     try dsimp -zeta -zetaHave -zetaUnused only
     refine r3 (aw (Q:=fun r st'=>st'=Cj/\((∃ C7 C8 B ac bc,r=(none,C7,C8,B,ac,bc)/\MH lt a.toList b.toList B.toList C7 C8/\0 < C7/\1 < C8/\C7 < a.size/\C8<=b.size/\i+2<=B.size) ∨ ∃ res t,r=(some res,t)/\Res lt a.toList b.toList res.toList))
      (F4 (fun j r st'=>st'=Cj /\ ∃ C7 C8 B ac bc,r=(none,C7,C8,B,ac,bc)/\MH lt a.toList b.toList B.toList C7 C8/\0 < C7/\1 < C8/\C7 < a.size/\C8<=b.size/\i+1+j<=B.size) ?_ ?_ ⟨rfl,_,_,_,_,_,rfl,m,CF,CV,Dg,Dh,by lia⟩) ?_)
     ·rintro j r C1 _ hj ⟨rfl,C7,C8,B,ac,bc,rfl,m2,h1,h2,Ce,Cg,h3⟩
      try dsimp only
      obtain ⟨y,hy,Ck,Cp⟩:=aA (a:=b) (i:=C8 - 1) (by lia)
      obtain ⟨x,hx,D8,CY⟩:=aA (a:=a) (i:=C7 - 1) (by lia)
      refine r3 (av hy (r3 (av hx (r3 (iy c (sm.kind.trans hk) (CM _ Cp) (CL _ CY) ?_)))))
      try dsimp only
      refine ae (fun hl => ?_) (fun hl => ?_)
      ·skip
       refine r3 (av hx ?_)
       try dsimp only
       have m3:=m2.pushA c h1 (by lia) D8 Ck (c.asym _ _ hl)
       refine ae (fun h => ?_) (fun h => ?_)
       ·skip
        have h:C7 - 1=0:=by simpa using h
        exact aa ⟨rfl, .inr ⟨_,_,rfl,by have r:=m3.fin (.inl h);simpa only [Eh,Ej,EJ,Ey,aX] using r⟩⟩
       ·skip
        have h:C7 - 1≠0:=by simpa using h
        refine ae (fun _ => ?_) (fun _ => ?_)
        ·exact aa ⟨rfl, .inl ⟨_,_,_,_,_,rfl,by simpa only [Eh,Ej,EJ,Ey,aX] using m3,by lia,h2,by lia,Cg,by simp;lia⟩⟩
        ·exact aa ⟨rfl,_,_,_,_,_,rfl,by simpa only [Eh,Ej,EJ,Ey,aX] using m3,by lia,h2,by lia,Cg,by simp;lia⟩
      ·skip
       refine r3 (av hy ?_)
       try dsimp only
       have m3:=m2.pushB c h1 (by lia) D8 Ck (by simpa using hl)
       refine ae (fun h => ?_) (fun h => ?_)
       ·skip
        have h:C8 - 1=1:=by simpa using h
        exact aa ⟨rfl, .inr ⟨_,_,rfl,by have r:=m3.finB (by rw [h];exact Ch);simpa only [Eh,Ej,EJ,Ey,aX] using r⟩⟩
       ·skip
        have h:C8 - 1≠1:=by simpa using h
        refine ae (fun _ => ?_) (fun _ => ?_)
        ·exact aa ⟨rfl, .inl ⟨_,_,_,_,_,rfl,by simpa only [Eh,Ej,EJ,Ey,aX] using m3,h1,by lia,Ce,by lia,by simp;lia⟩⟩
        ·exact aa ⟨rfl,_,_,_,_,_,rfl,by simpa only [Eh,Ej,EJ,Ey,aX] using m3,h1,by lia,Ce,by lia,by simp;lia⟩
     ·rintro r C1 ⟨rfl,C7,C8,B,ac,bc,rfl,m2,h1,h2,Ce,Cg,h3⟩;exact ⟨rfl, .inl ⟨_,_,_,_,_,rfl,m2,h1,h2,Ce,Cg,by lia⟩⟩
     ·rintro r C1 ⟨rfl,⟨C7,C8,B,ac,bc,rfl,m2,h1,h2,Ce,Cg,h3⟩ | ⟨res,t,rfl,J⟩⟩
      ·try dsimp -zeta -zetaHave -zetaUnused only
       refine r3 (cj ?_);refine r3 (aw (Q:=fun r st'=>Same st st'/\((∃ C2 U F Cc ac bc,r=(none,C2,U,F,Cc,ac,bc)/\MH lt a.toList b.toList F.toList C2 U/\0 < C2/\1 < U/\C2 < a.size/\U<=b.size/\i+2<=F.size) ∨ ∃ res t,r=(some res,t)/\Res lt a.toList b.toList res.toList))
        (F4 (fun j r st'=>Same st st' /\ ∃ C2 U F Cc ac bc,r=(none,C2,U,F,Cc,ac,bc)/\MH lt a.toList b.toList F.toList C2 U/\0 < C2/\1 < U/\C2 < a.size/\U<=b.size/\i+2<=F.size) ?_ ?_ ⟨sm,_,_,_,_,_,_,rfl,m2,h1,h2,Ce,Cg,h3⟩) ?_)
       ·rintro j r BY _ hj ⟨Cd,C2,U,F,Cc,D9,Da,rfl,m3,h1,h2,Ce,Cg,h5⟩;obtain ⟨y,hy,Ck,Cp⟩:=aA (a:=b) (i:=U - 1) (by lia)
        refine wo fun QQ hQ => ?_;have G:∀ (st':F5) (res:Array u2) t,Same st st'->Res lt a.toList b.toList res.toList->QQ (.done (some res,t)) st':=fun st' res t hs hr=>hQ _ _ ⟨hs, .inr ⟨_,_,rfl,hr⟩⟩;have DA:∀ (st':F5) (out:Array u2) na nb mg ac bc,Same st st'->MH lt a.toList b.toList out.toList na nb->0 < na->1 < nb->na < a.size->nb<=b.size->i+2<=out.size->QQ (.done (none,na,nb,out,mg,ac,bc)) st'/\QQ (.yield (none,na,nb,out,mg,ac,bc)) st':=fun st' out ia ib mg ac bc hs p1 p2 p3 p4 p5 p6=>⟨hQ _ _ ⟨hs, .inl ⟨_,_,_,_,_,_,rfl,p1,p2,p3,p4,p5,p6⟩⟩,hQ _ _ ⟨hs,_,_,_,_,_,_,rfl,p1,p2,p3,p4,p5,p6⟩⟩;clear hQ hj
        extract_lets -underBinder s0 vna s1 vnb s2 vout s3 vmg s4 vac vbc jp vmx
        have Db:∀ mg,wpS (El prog w) A E s (jp () mg) QQ BY:=by
         intro mg;dsimp -zeta -zetaHave -zetaUnused only [jp,s0,vna,s1,vnb,s2,vout,s3,vmg,s4,vac,vbc];clear vmx jp vbc vac s4 vmg s3 vout s2 vnb s1 vna s0;refine r3 (G9 ?_);refine rZ (P:=Same st) (Cd.trans ⟨rfl,rfl,rfl,rfl⟩) fun CO C4 => ?_;have Dc:=C4.kind.trans hk;refine r3 (av hy ?_);refine r3 (hg false y a [] (a.toList.take C2) (a.toList.drop C2) _ _ _ _ _ Dc (CM _ Cp) (by simp) rfl (dZ (by lia)) (fun x hx=>CL x (IZ hx)) (by lia) ((q7.mp m3.pa).1) fun X Y e hX hY => ?_)
         dsimp -zeta -zetaHave -zetaUnused only;have m4:=m3.galA c e (by lia) Ck fun x hx=>c.asym _ _ (s9 (hY x hx))
         have C5 : 0 < X.length -> ∀ x4,a.toList[X.length - 1]? = some x4->lt y x4=false:=fun h0 x4 Cr=>wp (hX x4 (lW e h0 Cr));have CP:=jH e (by lia)
         extract_lets -underBinder +onlyGivenNames vk vac Ct
         clear_value vac
         have CA:∀ (Cn:Nat) (O:Array u2),MH lt a.toList b.toList O.toList Cn U->(∀ x4,a.toList[Cn - 1]? = some x4->lt y x4=false)->0 < Cn->Cn < a.size->i+2<=O.size->wpS (El prog w) A E s (Ct () Cn O) QQ CO:=by
          intro Cn O DB Cu Di E1 Dd;dsimp -zeta -zetaHave -zetaUnused only [Ct];clear Ct vk CP C5 m4 hX hY;obtain ⟨x4,Cr,C9,De⟩:=aA (a:=a) (i:=Cn - 1) (by lia)
          refine r3 (av hy ?_);have m5:=DB.pushB c Di (by lia) C9 Ck (Cu x4 C9)
          rw [<- Ej] at m5;have Ca:i+2<=(O.push y).size:=by rw [J7];lia
          try dsimp -zeta -zetaHave -zetaUnused only
          extract_lets -underBinder +onlyGivenNames vo5
          dsimp -zeta -zetaHave -zetaUnused only [vo5];clear vo5
          revert m5 Ca
          generalize O.push y=out5;intro m5 Ca;refine ae (fun h => ?_) (fun h => ?_)
          ·exact aa (G _ _ _ C4 (m5.finR (by rw [GW h];exact Ch)))
          ·have h:U - 1≠1:=by simpa using h
           refine r3 (av Cr ?_);refine r3 (hg true x4 b [] (b.toList.take (U - 1)) (b.toList.drop (U - 1)) _ _ _ _ _ Dc (CL _ De) (by simp) rfl (dZ (by lia)) (fun x hx=>CM x (IZ hx)) (by lia) ((q7.mp m5.pb).1) fun X2 Y2 e2 CG CH => ?_)
           dsimp -zeta -zetaHave -zetaUnused only;have m6:=m5.galB c e2 Di C9 fun x hx=>se (CH x hx);have C6 : 0 < X2.length -> ∀ y6,b.toList[X2.length - 1]? = some y6->lt x4 y6=false:=fun h0 y6 Df=>c.asym _ _ (wq (CG y6 (lW e2 h0 Df)));have CQ:=jH e2 (by lia)
           extract_lets -underBinder +onlyGivenNames vk vbc Cv
           clear_value vbc
           have CB:∀ (CD:Nat) (C0:Array u2),MH lt a.toList b.toList C0.toList Cn CD->(∀ y6,b.toList[CD - 1]? = some y6->lt x4 y6=false)->1 < CD->CD<=b.size->i+2<=C0.size->wpS (El prog w) A E s (Cv () CD C0) QQ CO:=by
            intro CD C0 DC Cw DP DD DN;dsimp -zeta -zetaHave -zetaUnused only [Cv];clear Cv vk CQ C6 m6 CG CH m5 Ca Dd h5 h1 h2 Ce Cg hsz CF CV Dg Dh h3;obtain ⟨y6,Df,CC,DO⟩:=aA (a:=b) (i:=CD - 1) (by lia)
            refine r3 (av Cr ?_);have m7:=DC.pushA c Di (by lia) C9 CC (Cw y6 CC)
            rw [<- Ej] at m7;dsimp only;refine ae (fun h => ?_) (fun h => ?_)
            ·exact aa (G _ _ _ C4 (m7.finL (.inl (GW h))))
            ·have h:Cn - 1≠0:=by simpa using h
             have:=fun mg ac bc=>DA CO (C0.push x4) (Cn - 1) CD mg ac bc C4 m7 (by lia) DP (by lia) DD (by rw [J7];lia)
             exact ae (fun _=>aa (this _ _ _).1) (fun _=>aa (this _ _ _).2)
           clear_value Cv
           refine ae (fun h0 => ?_) (fun h0 => ?_)
           ·dsimp only;have m6:=m6.cut (a:=b) e2;refine ae (fun h => ?_) (fun h => ?_)
            ·exact aa (G _ _ _ C4 (m6.finR (by rw [GW h];exact Ch)))
            ·have h:X2.length≠1:=by simpa using h
             refine ae (fun h9 => ?_) (fun h9 => ?_)
             ·exact aa (G _ _ _ C4 (m6.finL (.inr (GW h9))))
             ·have h9:X2.length≠0:=by simpa using h9
              exact CB _ _ m6 (C6 (by lia)) (by lia) (by lia) (by rw [Ho];lia)
           ·have h0 : ¬ (U - 1 - X2.length > 0):=h0;have hl:X2.length=U - 1:=by lia
            have D3 : 0 < X2.length:=by lia
            have hr:=C6 D3;rw [hl] at hr;exact CB _ _ m5 hr (by lia) (by lia) Ca
         clear_value Ct
         refine ae (fun h0 => ?_) (fun h0 => ?_)
         ·dsimp only;have m4:=m4.cut (a:=a) e;refine ae (fun h => ?_) (fun h => ?_)
          ·exact aa (G _ _ _ C4 (m4.finL (.inl (GW h))))
          ·have h:X.length≠0:=by simpa using h
           exact CA _ _ m4 (C5 (by lia)) (by lia) (by lia) (by rw [Ho];lia)
         ·have h0 : ¬ (C2 - X.length > 0):=h0;have hl:X.length=C2:=by lia
          have hr:=C5 (by lia)
          rw [hl] at hr;exact CA _ _ m3 hr h1 Ce h5
        clear_value jp
        exact ae (fun _=>Db _) (fun _=>Db _)
       ·rintro r BY ⟨Cd,C2,U,F,Cc,D9,Da,rfl,m3,h1,h2,Ce,Cg,h5⟩;exact ⟨Cd, .inl ⟨_,_,_,_,_,_,rfl,m3,h1,h2,Ce,Cg,h5⟩⟩
       ·rintro r BY ⟨Cd,⟨C2,U,F,Cc,D9,Da,rfl,m3,h1,h2,Ce,Cg,h5⟩ | ⟨res,t,rfl,J⟩⟩
        ·try dsimp -zeta -zetaHave -zetaUnused only
         refine r3 (G9 ?_);exact aa ⟨Cd.trans ⟨rfl,rfl,rfl,rfl⟩,_,_,_,_,rfl,m3,h1,h2,Ce,Cg,by lia⟩
        ·exact aa ⟨Cd,_,_,rfl,J⟩
      ·exact aa ⟨sm,_,_,rfl,J⟩
    ·rintro r Cj ⟨sm,na,nb,out,mg,rfl,m,CF,CV,Dg,Dh,hsz⟩;have:=m.size (by simp;lia) (by simp;lia)
     simp at this;lia
    ·rintro r Cj ⟨sm,res,t,rfl,J⟩;exact aa (q res Cj J.1 J.2 sm)
end
end Srt
end L2
namespace L2
namespace Srt
open PySem PySem.Spec PyProof.Rows
section
variable {prog:Er} {w:EH} {A:EK} {E:e7->g6->Prop} {s:g6} {kd:HP} {P:u2->Prop} {lt:u2->u2->Bool}
structure Kp (st st':F5):Prop where
 kind:FH st'=FH st
 pend:Ek st'=Ek st
 fail:Gq st'=Gq st
theorem Kp.refl {st:F5}:Kp st st:=⟨rfl,rfl,rfl⟩
theorem Kp.trans {a b c:F5} (h:Kp a b) (g:Kp b c):Kp a c:=⟨g.kind.trans h.kind,g.pend.trans h.pend,g.fail.trans h.fail⟩
theorem nJ {a:Array u2} {L B R:List u2} (e:a.toList=L++(B++R)) {i j:Nat} (hi:i=L.length) (q:j=L.length+B.length):(mirror a i j ((j - i) / 2)).toList=L++(B.reverse++R):=by
 have hs:a.size=L.length+(B.length+R.length):=by rw [<- Es,e];simp
 apply Hq;intro k;rw [EB,getElem?_mirror_all (by lia)]
 have g:∀ n:Nat,a[n]? = (L++(B++R))[n]? := fun n=>by rw [<- EB,e]
 rw [g,g]
 by_cases h1:k < L.length
 ·rw [if_neg (by lia),Ef h1,Ef h1]
 ·by_cases h2:k < j
  ·rw [if_pos (by lia),hH (by lia),Ef (by lia),hH (by lia),Ef (by simp;lia),List.getElem?_reverse (by lia)]
   congr 1;lia
  ·rw [if_neg (by lia),hH (by lia),hH (by lia),hH (by lia),hH (by simp;lia)]
   simp
theorem nK {a:Array u2} {L j q R:List u2} {x:u2} (e:a.toList=L++((j++q)++x::R)) {src d:Nat} (hi:src=L.length+(j.length+q.length)) (hd:d=q.length):(bubble a src d).toList=L++((j++x::q)++R):=by
 have hs:a.size=L.length+(j.length+q.length+(R.length+1)):=by rw [<- Es,e];simp;lia
 apply Hq;intro k;rw [EB,getElem?_bubble (by lia) d (by lia)]
 have g:∀ n:Nat,a[n]? = (L++((j++q)++x::R))[n]? := fun n=>by rw [<- EB,e]
 rw [g,g,g]
 by_cases h1:k < L.length
 ·rw [if_neg (by lia),if_neg (by lia),Ef h1,Ef h1]
 ·by_cases h2:k < L.length+j.length
  ·rw [if_neg (by lia),if_neg (by lia),hH (by lia),Ef (by simp;lia),Ef (by lia),hH (by lia),Ef (by simp;lia),Ef (by lia)]
  ·by_cases h3:k=L.length+j.length
   ·rw [if_pos (by lia),hH (by lia),hH (by simp;lia),hH (by lia),Ef (by simp;lia),hH (by lia)]
    have B:src - L.length - (j++q).length=0:=by simp;lia
    have z:k - L.length - j.length=0:=by lia
    rw [B,z];rfl
   ·by_cases h4:k<=src
    ·rw [if_neg (by lia),if_pos (by lia),hH (by lia),Ef (by simp;lia),hH (by lia),hH (by lia),Ef (by simp;lia),hH (by lia)]
     have z:k - L.length - j.length=(k - 1 - L.length - j.length)+1:=by lia
     rw [z,GX]
    ·rw [if_neg (by lia),if_neg (by lia),hH (by lia),hH (by simp;lia),hH (by lia),hH (by simp;lia)]
     have z:k - L.length - (j++q).length=(k - L.length - (j++x::q).length)+1:=by simp;lia
     rw [z,GX]
theorem cU (c:Cm prog w A s kd P lt) {i j:Nat} {x y:u2} {st:F5} {Q:Option Bool->F5->Prop} (z:FH st=kd) (hx:(EM st)[i]? = some x) (B:(EM st)[j]? = some y) (px:P x) (py:P y) (q:Q (some (lt x y)) st):wpS (El prog w) A E s (ltAt' i j) Q st:=by
 rw [ltAt'_eq];exact r3 (HW (r3 (av hx (r3 (av B (iy c z px py q))))))
theorem iz {i j:Nat} {st:F5} {Q:Unit->F5->Prop} {L B R:List u2} (e:(EM st).toList=L++(B++R)) (hi:i=L.length) (z:j=L.length+B.length) (q:∀ st',(EM st').toList=L++(B.reverse++R)->Kp st st'->Q () st'):wpS (El prog w) A E s (reverseSlice' i j) Q st:=by
 rw [reverseSlice'_eq];exact G9 (q _ (nJ e hi z) ⟨rfl,rfl,rfl⟩)
theorem bJ {st:F5} {L xs:List u2} (e:(EM st).toList=L++xs) {i n:Nat} (hi:i=L.length+n):(EM st)[i]? = xs[n]? := by
 rw [<- EB,e,hi,hH (by lia)]
 congr 1;lia
theorem m8 (c:Cm prog w A s kd P lt) {xs:List u2} {n:Nat} {x y:u2} (h:Ord lt (xs.take n)) (q : 0 < n) (hx:xs[n]? = some x) (B:xs[n - 1]? = some y) (F:lt x y=false):Ord lt (xs.take (n+1)):=by
 rw [Mr,hx];refine q7.mpr ⟨h,by simp,fun z hz u j => ?_⟩
 simp at j;subst j;exact fy c h q B F z hz
noncomputable abbrev cy (lt:u2->u2->Bool) (l:List u2):Prop:=l.Pairwise fun x y=>lt x y=false
theorem gu (c:Cm prog w A s kd P lt) {D:List u2} {e x:u2} (h:cy lt (D++[e])) (hx:lt e x=false):cy lt (D++[e]++[x]):=by
 refine q7.mpr ⟨h,by simp,fun z hz u j => ?_⟩
 simp at j;subst j;obtain ⟨_,_,B⟩:=q7.mp h
 rcases Ea.mp hz with g | g
 ·cases q:lt z u with
  | false=>rfl
  | true=>rcases c.neg z e u q with r | r
          ·rw [B z g e (by simp)] at r;cases r
          ·rw [hx] at r;cases r
 ·simp at g;subst g;exact hx
theorem oA {q F:List u2} (h:cy lt (q++F)) (he:∀ x∈F, ∀ y∈F,lt x y=false):cy lt (q++F.reverse):=by
 obtain ⟨h1,h2,z⟩:=q7.mp h;refine q7.mpr ⟨h1, ?_,fun x hx y j=>z x hx y (HD.mp j)⟩;rw [KH];exact h2.imp_of_mem fun hx j _=>he _ j _ hx
theorem perm_take {xs:List u2} {n:Nat}:(xs.take n++xs.drop n).Perm xs:=by rw [Fq]
theorem nM (c:Cm prog w A s kd P lt) {L xs:List u2} {st:F5} {Q:Option Nat->F5->Prop} (hk:FH st=kd) (O:(EM st).toList=L++xs) (h0:xs≠[]) (hP:∀ x∈xs,P x)
 (q:∀ r R st',(EM st').toList=L++(r++R)->(r++R).Perm xs->r≠[]->Ord lt r->Kp st st'->Q (some r.length) st'):wpS (El prog w) A E s (countRun' L.length xs.length) Q st:=by
 have Cl : 0 < xs.length:=EX.mpr h0;rw [countRun'_eq]
 try dsimp -zeta -zetaHave -zetaUnused only
 refine r3 (aw (Q:=fun r st'=>st'=st /\ ∃ n,r=(none,n)/\1<=n/\n<=xs.length/\Ord lt (xs.take n)/\(n=xs.length ∨ ∃ x y,xs[n]? = some x/\xs[n - 1]? = some y/\lt x y=true))
  (F4 (fun i r st'=>st'=st/\r=(none,i)/\Ord lt (xs.take i)) ?_ ?_ ⟨rfl,rfl,by
    cases xs with
    | nil=>exact absurd rfl h0
    | cons x t=>simp⟩) ?_)
 ·rintro i r st' h1 hi ⟨rfl,rfl,ho⟩;dsimp only;obtain ⟨x,hx⟩:∃ x,xs[i]? = some x:=⟨_,h7 hi⟩;obtain ⟨y,hy⟩:∃ y,xs[i - 1]? = some y:=⟨_,h7 (by lia)⟩
  refine r3 (cU c hk ((bJ O rfl).trans hx) ((bJ O (by lia)).trans hy) (hP _ (EI hx)) (hP _ (EI hy)) ?_)
  dsimp only;refine ae (fun h => ?_) (fun h => ?_)
  ·exact aa ⟨rfl,i,rfl,h1,by lia,ho, .inr ⟨x,y,hx,hy,h⟩⟩
  ·exact aa ⟨rfl,rfl,m8 c ho (by lia) hx hy (by simpa using h)⟩
 ·rintro r st' ⟨rfl,rfl,ho⟩;exact ⟨rfl,_,rfl,by lia,by lia,ho, .inl (by lia)⟩
 ·rintro r st' ⟨rfl,n,rfl,CM,Cn,ho,hc⟩;dsimp -zeta -zetaHave -zetaUnused only;have C9:Q (some n) st':=by
   have:=q (xs.take n) (xs.drop n) st' (by rw [O,Fq]) perm_take (fun z=>by
    have h3:=congrArg GZ z;rw [EE,FR] at h3;lia) ho Kp.refl
   rw [EE,Gn Cn] at this;exact this
  extract_lets -underBinder +onlyGivenNames vr vn
  dsimp -zeta -zetaHave -zetaUnused only [vr];clear vr;have en:n=vn:=rfl
  clear_value vn
  subst en;refine ae (fun h=>aa C9) (fun h => ?_);have CA:n≠xs.length:=by simpa using h
  obtain ⟨x,y,hx,hy,CB⟩:=hc.resolve_left CA;have CN:n < xs.length:=by lia
  have exs:xs=xs.take n++x::xs.drop (n+1):=by
   have h1:=(Fq n xs).symm;rw [dg hx] at h1;exact h1
  have Co:y∈xs.take n:=by rw [ck (by lia) hy];simp
  extract_lets -underBinder +onlyGivenNames jp
  have Cp:∀ (B:List u2) (BZ:F5),(EM BZ).toList=L++(B++x::xs.drop (n+1))->B.Perm (xs.take n)->B.length=n->(∀ u∈B, ∀ v∈B,lt u v=false)->y∈B->Kp st' BZ->wpS (El prog w) A E s (jp ()) Q BZ:=by
   intro B BZ e1 hB C0 C1 C2 C3;dsimp -zeta -zetaHave -zetaUnused only [jp];clear jp;refine r3 (cj ?_)
   try dsimp -zeta -zetaHave -zetaUnused only
   extract_lets -underBinder +onlyGivenNames vn1 vq1
   have CC:vn1=n+1:=rfl;have eq1:vq1=0:=rfl
   clear_value vn1 vq1
   subst CC eq1;refine r3 (aw (Q:=fun r U => ∃ G F R neq,Kp st' U/\(EM U).toList=L++((G++F)++R)/\((G++F)++R).Perm xs/\r=(none,(G++F).length,neq)/\F.length=neq+1/\cy lt (G++F)/\(∀ u∈F, ∀ v∈F,lt u v=false))
    (F4 (fun i r U => ∃ G F R neq,Kp st' U/\(EM U).toList=L++((G++F)++R)/\((G++F)++R).Perm xs/\r=(none,(G++F).length,neq)/\F.length=neq+1/\cy lt (G++F)/\(∀ u∈F, ∀ v∈F,lt u v=false)/\(G++F).length=i) ?_ ?_ ?_) ?_)
   ·rintro i r U CO hi ⟨G,F,R,neq,kp,ea,hp,rfl,hF,hN,hE,Cq⟩;subst Cq;have hlen:=hp.length_eq;rw [r4] at hlen;obtain ⟨z,R',rfl⟩:∃ z R',R=z::R':=by
     cases R with
     | nil=>simp at hlen;simp at hi;lia
     | cons z R'=>exact ⟨z,R',rfl⟩
    have CD:F≠[]:=fun z=>by rw [z] at hF;simp at hF
    obtain ⟨F0,e,rfl⟩:∃ F0 e,F=F0++[e]:=⟨F.dropLast,F.getLast CD,(Gp _).symm⟩;have hz:(EM U)[L.length+(G++(F0++[e])).length]? = some z:=by
     rw [bJ ea rfl,hH (by lia),Jh];rfl
    have he:(EM U)[L.length+(G++(F0++[e])).length - 1]? = some e:=by
     rw [bJ ea (n:=(G++F0).length) (by simp <;> lia),Ef (by simp <;> lia), <- Ei,hH (by lia),Jh];rfl
    have Cr:P z:=hP z (hp.mem_iff.mp (by simp))
    have Ct:P e:=hP e (hp.mem_iff.mp (by simp))
    dsimp only;refine r3 (cU c (kp.kind.trans hk) hz he Cr Ct ?_);dsimp only;have Cd:cy lt (G++F0++[e]):=by rw [Ei];exact hN
    refine ae (fun Ce => ?_) (fun Ce => ?_)
    ·have C4:lt e z=false:=c.asym _ _ Ce;refine ae (fun C5 => ?_) (fun C5 => ?_)
     ·refine r3 (iz (L:=L++G) (B:=F0++[e]) (R:=z::R') (by rw [ea];simp) (by simp only [r4] at hF ⊢;simp only [Iv] at hF ⊢;lia) (by simp <;> lia) fun Z e3 Y => ?_)
      refine aa ⟨G++(F0++[e]).reverse,[z],R',0,kp.trans Y,by rw [e3];simp, ?_,by simp <;> lia,rfl, ?_, ?_,by simp <;> lia⟩
      ·refine Gz.trans ?_ hp;rw [Ei,Ei,Ei];exact EZ _ (Fd _ (Io _))
      ·have h1:=oA hN hE;refine q7.mpr ⟨h1,by simp,fun u j v J => ?_⟩
       simp at J;subst J;have hm:=gu c Cd C4;refine (q7.mp hm).2.2 u ?_ v (by simp)
       rw [Ei]
       rcases Ea.mp j with g | g
       ·exact Fu _ g
       ·exact Ep _ (HD.mp g)
      ·intro u j v J;simp at j J;subst j J;exact c.irr
     ·refine aa ⟨G++(F0++[e]),[z],R',0,kp,by rw [ea];simp,by simpa using hp,by simp <;> lia,rfl, ?_, ?_,by simp <;> lia⟩
      ·have hm:=gu c Cd C4;simpa using hm
      ·intro u j v J;simp at j J;subst j J;exact c.irr
    ·have CF:lt z e=false:=by simpa using Ce
     refine r3 (cU c (kp.kind.trans hk) he hz Ct Cr ?_);dsimp only;refine ae (fun Cu => ?_) (fun Cu => ?_)
     ·exact aa ⟨G,F0++[e],z::R',neq,kp,ea,hp,rfl,hF,hN,hE⟩
     ·have C4:lt e z=false:=by simpa using Cu
      refine aa ⟨G,(F0++[e])++[z],R',neq+1,kp,by rw [ea];simp,by simpa using hp,by simp <;> lia,by simp at hF ⊢;lia, ?_, ?_,by simp <;> lia⟩
      ·have hm:=gu c Cd C4;simpa using hm
      ·have CG:∀ u∈F0++[e],lt u z=false:=fun u j=>by
        cases q1:lt u z with
        | false=>rfl
        | true=>rcases c.neg u e z q1 with r | r
                ·rw [hE u j e (by simp)] at r;cases r
                ·rw [C4] at r;cases r
       have CH:∀ u∈F0++[e],lt z u=false:=fun u j=>by
        cases q1:lt z u with
        | false=>rfl
        | true=>rcases c.neg z e u q1 with r | r
                ·rw [CF] at r;cases r
                ·rw [hE e (by simp) u j] at r;cases r
       intro u j v J
       rcases Ea.mp j with g | g <;> rcases Ea.mp J with g2 | g2
       ·exact hE u g v g2
       ·simp at g2;subst g2;exact CG u g
       ·simp at g;subst g;exact CH v g2
       ·simp at g g2;subst g g2;exact c.irr
   ·rintro r U ⟨G,F,R,neq,kp,ea,hp,hr,hF,hN,hE,Cq⟩;exact ⟨G,F,R,neq,kp,ea,hp,hr,hF,hN,hE⟩
   ·refine ⟨B,[x],xs.drop (n+1),0,C3,by rw [e1];simp, ?_,by simp [C0],rfl, ?_, ?_,by simp [C0]⟩
    ·have h9:(B++x::xs.drop (n+1)).Perm xs:=by
      have h9:=Fd (x::xs.drop (n+1)) hB;rw [<- exs] at h9;exact h9
     simpa using h9
    ·refine q7.mpr ⟨HQ (fun j J _=>C1 _ j _ J) (List.pairwise_of_forall_mem_list (r:=fun _ _=>True) fun _ _ _ _=>trivial),by simp,fun u j v J => ?_⟩
     simp at J;subst J
     cases q1:lt u v with
     | false=>rfl
     | true=>rcases c.neg u y v q1 with r | r
             ·rw [C1 u j y C2] at r;cases r
             ·rw [c.asym _ _ CB] at r;cases r
    ·intro u j v J;simp at j J;subst j J;exact c.irr
   ·rintro r U ⟨G,F,R,neq,kp,ea,hp,rfl,hF,hN,hE⟩;dsimp -zeta -zetaHave -zetaUnused only
    extract_lets -underBinder +onlyGivenNames vr vs vn2 vq2
    dsimp -zeta -zetaHave -zetaUnused only [vr];have CI:vn2=(G++F).length:=rfl;have eq2:neq=vq2:=rfl
    clear_value vn2 vq2
    clear vs vr;subst CI eq2
    extract_lets -underBinder +onlyGivenNames C6
    have Ca:∀ (D:List u2) (Z:F5),(EM Z).toList=L++(D++R)->cy lt D->(D++R).Perm xs->D.length=(G++F).length->0 < D.length->Kp st' Z->wpS (El prog w) A E s (C6 ()) Q Z:=by
     intro D Z e3 Cf Cg C7 Cb Y;dsimp -zeta -zetaHave -zetaUnused only [C6];clear C6;have CJ : 0 < D.length:=by lia
     refine r3 (iz (L:=L) (B:=D) (R:=R) e3 rfl (by rw [C7]) fun Cv e4 Cw => ?_)
     have o4:Ord lt D.reverse:=KH.mpr Cf;have C8:(D.reverse++R).Perm xs:=(Fd _ (Io D)).trans Cg;have Cy:(D.reverse++R).length=xs.length:=C8.length_eq;have Ch:Ord lt ((D.reverse++R).take D.length):=by
      rw [List.take_append_of_le_length (by simp),Hc (by simp)];exact o4
     have Ci:∀ u∈D.reverse++R,P u:=fun u j=>hP u (C8.mem_iff.mp j);have CK:D.length<=xs.length:=by rw [<- Cy];simp
     rw [<- C7];generalize D.length=N0 at Ch CJ CK;generalize D.reverse++R=ys at e4 C8 Cy Ch Ci;refine r3 (aw (Q:=fun r BY=>BY=Cv /\ ∃ n,r=(none,n)/\1<=n/\n<=xs.length/\Ord lt (ys.take n))
      (F4 (fun i r BY=>BY=Cv/\r=(none,i)/\Ord lt (ys.take i)) ?_ ?_ ⟨rfl,rfl,Ch⟩) ?_)
     ·rintro i r BY h1 hi ⟨rfl,rfl,ho⟩;dsimp only;obtain ⟨u,j⟩:∃ u,ys[i]? = some u:=⟨_,h7 (by lia)⟩
      obtain ⟨v,J⟩:∃ v,ys[i - 1]? = some v:=⟨_,h7 (by lia)⟩
      refine r3 (cU c ((Y.trans Cw).kind.trans hk) ((bJ e4 rfl).trans j) ((bJ e4 (by lia)).trans J) (Ci _ (EI j)) (Ci _ (EI J)) ?_)
      dsimp only;refine ae (fun h => ?_) (fun h => ?_)
      ·exact aa ⟨rfl,i,rfl,by lia,by lia,ho⟩
      ·exact aa ⟨rfl,rfl,m8 c ho (by lia) j J (by simpa using h)⟩
     ·rintro r BY ⟨rfl,rfl,ho⟩;exact ⟨rfl,_,rfl,by lia,by lia,ho⟩
     ·rintro r BY ⟨rfl,m,rfl,CP,CQ,ho⟩;refine aa ?_;have:=q (ys.take m) (ys.drop m) BY (by rw [e4,Fq]) (perm_take.trans C8) (fun z=>by
       have h3:=congrArg GZ z;rw [EE,FR] at h3;lia) ho (Y.trans Cw)
      rw [EE,Gn (by lia)] at this
      exact this
    clear_value C6
    refine ae (fun C5 => ?_) (fun C5 => ?_)
    ·refine r3 (iz (L:=L++G) (B:=F) (R:=R) (by rw [ea];simp) (by simp <;> lia) (by simp <;> lia) fun Z e3 Y => ?_)
     have Y:=kp.trans Y;have e3:(EM Z).toList=L++((G++F.reverse)++R):=by rw [e3];simp
     have Cf:=oA hN hE;have Cg:((G++F.reverse)++R).Perm xs:=(Fd _ (EZ _ (Io _))).trans hp;have C7:(G++F.reverse).length=(G++F).length:=by simp
     have Cb : 0 < (G++F.reverse).length:=by simp <;> lia
     exact Ca _ _ e3 Cf Cg C7 Cb Y
    ·exact Ca _ _ ea hN hp rfl (by simp <;> lia) kp
  clear_value jp
  refine ae (fun h1 => ?_) (fun h1 => ?_)
  ·obtain ⟨x0,Cj⟩:∃ x0,xs[0]? = some x0:=⟨_,h7 Cl⟩;refine r3 (cU c hk ((bJ O (n := 0) (by lia)).trans Cj) ((bJ O (by lia)).trans hy) (hP _ (EI Cj)) (hP _ (EI hy)) ?_)
   dsimp only;refine ae (fun hr=>aa C9) (fun hr => ?_);have hr:lt x0 y=false:=by simpa using hr
   have Cz:∀ u∈xs.take n,lt u x0=false:=fun u j=>by
    obtain ⟨i,hi,eu⟩:=Gd.mp j;have Ck:(xs.take n)[i]? = some u:=by rw [<- eu];exact h7 hi
    have Cc:(xs.take n)[0]? = some x0:=by rw [HH (by lia)];exact Cj
    by_cases hi0:i=0
    ·subst hi0;rw [Cc] at Ck;cases Ck;exact c.irr
    ·exact dF ho (by lia) Cc Ck
   have CL:∀ u∈xs.take n,lt y u=false:=fy c ho (by lia) hy c.irr
   have heq:∀ u∈xs.take n, ∀ v∈xs.take n,lt u v=false:=fun u j v J=>by
    exact c.le_trans (c.le_trans (CL v J) hr) (Cz u j)
   refine r3 (iz (L:=L) (B:=xs.take n) (R:=x::xs.drop (n+1)) (by rw [O];exact congrArg (L ++ ·) exs) rfl (by rw [EE,Gn Cn]) fun BZ e1 C3 => ?_)
   have hB:(xs.take n).reverse.Perm (xs.take n):=Io _;have C0:(xs.take n).reverse.length=n:=by rw [Ln,EE];lia
   have C1:∀ u∈(xs.take n).reverse, ∀ v∈(xs.take n).reverse,lt u v=false:=fun u j v J=>heq u (HD.mp j) v (HD.mp J);have C2:y∈(xs.take n).reverse:=HD.mpr Co;exact Cp _ _ e1 hB C0 C1 C2 C3
  ·have BZ:=st';have hn:n=1:=by lia
   have C3:Kp st' st':=Kp.refl;have e1:(EM st').toList=L++(xs.take n++x::xs.drop (n+1)):=by rw [O];exact congrArg (L ++ ·) exs
   have hB:(xs.take n).Perm (xs.take n):=JD _;have C0:(xs.take n).length=n:=by rw [EE];lia
   have C2:=Co;have C1:∀ u∈xs.take n, ∀ v∈xs.take n,lt u v=false:=fun u j v J=>by
    have e0:xs.take n=[y]:=by
     subst hn;rw [ck (by lia) hy];rfl
    rw [e0] at j J;simp at j J;subst j J;exact c.irr
   exact Cp _ _ e1 hB C0 C1 C2 C3
end
end Srt
end L2
namespace L2
namespace Srt
open PySem PySem.Spec PyProof.Rows
section
variable {prog:Er} {w:EH} {A:EK} {E:e7->g6->Prop} {s:g6} {kd:HP} {P:u2->Prop} {lt:u2->u2->Bool}
theorem sf (c:Cm prog w A s kd P lt) {L r R:List u2} {n:Nat} {st:F5} {Q:Bool->F5->Prop} (hk:FH st=kd) (Z:(EM st).toList=L++(r++R)) (h0:r≠[]) (ho:Ord lt r) (hn:r.length<=n) (BY:n<=(r++R).length) (hP:∀ x∈r++R,P x)
 (q:∀ r' R' st',(EM st').toList=L++(r'++R')->(r'++R').Perm (r++R)->r'.length=n->Ord lt r'->Kp st st'->Q true st'):wpS (El prog w) A E s (binarySort' L.length n r.length) Q st:=by
 have C4 : 0 < r.length:=EX.mpr h0;rw [binarySort'_eq];refine r3 (aw (Q:=fun x st'=>x=(none,()) /\ ∃ D T,Kp st st'/\(EM st').toList=L++(D++T)/\(D++T).Perm (r++R)/\D.length=n/\Ord lt D)
  (F4 (fun i x st'=>x=(none,()) /\ ∃ D T,Kp st st'/\(EM st').toList=L++(D++T)/\(D++T).Perm (r++R)/\D.length=i/\Ord lt D) ?_ ?_ ⟨rfl,r,R,Kp.refl,Z,JD _,by lia,ho⟩) ?_)
 ·rintro k x B C5 C6 ⟨rfl,D,T,kp,ea,J,hD,O⟩;dsimp only;subst hD;have hlen:=J.length_eq;rw [r4] at hlen;obtain ⟨z,T',rfl⟩:∃ z T',T=z::T':=by
   cases T with
   | nil=>simp at hlen BY;lia
   | cons z T'=>exact ⟨z,T',rfl⟩
  have BZ:∀ u∈D,P u:=fun u G=>hP u (J.mem_iff.mp (Fu _ G));have C0:P z:=hP z (J.mem_iff.mp (by simp))
  have hz:(EM B)[L.length+D.length]? = some z:=by
   rw [bJ ea rfl,hH (by lia),Jh];rfl
  refine r3 (aw (Q:=fun x st'=>st'=B /\ ∃ k,x=(none,k,k)/\Gal lt false z D k k)
   (F4 (fun i x st'=>st'=B /\ ∃ lo hi,x=(none,lo,hi)/\Gal lt false z D lo hi/\hi - lo+i<=D.length) ?_ ?_ ⟨rfl,0,D.length,rfl,⟨by lia,by lia,fun _ _ h=>by lia,fun i x hi hx=>by
     have:=(o7.mp hx).1;lia⟩,by lia⟩) ?_)
  ·rintro i x U _ hi ⟨rfl,lo,j,rfl,F,hm⟩;dsimp only;have hl:=F.le;have C1:=F.len;refine ae (fun C2 => ?_) (fun C2 => ?_)
   ·exact aa ⟨rfl,j,by rw [show lo=j by lia],by rw [show lo=j by lia] at F;exact F⟩
   ·obtain ⟨u,G⟩:∃ u,D[(lo+j) / 2]? = some u:=⟨_,h7 (by lia)⟩
    have C3:(EM U)[L.length+(lo+j) / 2]? = some u:=by
     rw [bJ ea rfl,Ef (by lia)];exact G
    refine r3 (cU c (kp.kind.trans hk) hz C3 C0 (BZ _ (EI G)) ?_);dsimp only;refine ae (fun hf => ?_) (fun hf => ?_)
    ·exact aa ⟨rfl,_,_,rfl,⟨by lia,by lia,F.up,fx c O G (by simp [bey,hf])⟩,by lia⟩
    ·exact aa ⟨rfl,_,_,rfl,⟨by lia,C1,fu c O G (by simpa [bey] using hf),F.dn⟩,by lia⟩
  ·rintro x U ⟨rfl,lo,j,rfl,F,hm⟩;have hl:=F.le;exact ⟨rfl,j,by rw [show lo=j by lia],by rw [show lo=j by lia] at F;exact F⟩
  ·rintro x U ⟨rfl,l,rfl,F⟩;dsimp only;obtain ⟨X,Y,e,hl,hX,hY⟩:=F.out;subst hl e;rw [moveDown'_eq];refine r3 (G9 ?_);refine aa ⟨rfl,X++z::Y,T',kp.trans ⟨rfl,rfl,rfl⟩,nK ea (by simp) (by simp;lia), ?_,by simp;lia, ?_⟩
   ·refine Gz.trans ?_ J;rw [Ei,Ei];refine EZ _ ?_;rw [List.cons_append];exact List.perm_middle.symm
   ·obtain ⟨o1,o2,o3⟩:=q7.mp O;refine q7.mpr ⟨o1,JB.mpr ⟨fun u G=>c.asym _ _ (by have:=hY u G;simpa [bey] using this),o2⟩,fun u G v hv => ?_⟩
    rcases Eb.mp hv with g | g
    ·subst g;have:=hX u G;simpa [bey] using this
    ·exact o3 u G v g
 ·rintro x B ⟨rfl,D,T,kp,ea,J,hD,O⟩;exact ⟨rfl,D,T,kp,ea,J,by lia,O⟩
 ·rintro x B ⟨rfl,D,T,kp,ea,J,hD,O⟩;exact aa (q D T B ea J hD O kp)
noncomputable def Pd:Nat->List (List u2)->List (Nat×Nat×Nat)->Prop
 | _,[],ps=>ps=[]
 | s,r::rs,ps => ∃ p t,ps=(s,r.length,p)::t/\Pd (s+r.length) rs t
theorem Pd.split:∀ {l t:List (List u2)} {s:Nat} {ps:List (Nat×Nat×Nat)},Pd s (l++t) ps -> ∃ pl pt,ps=pl++pt/\pl.length=l.length/\Pd s l pl/\Pd (s+l.flatten.length) t pt
 | [],t,s,ps,h=>⟨[],ps,rfl,rfl,rfl,by simpa using h⟩
 | r::l,t,s,ps,h=>by
   obtain ⟨p,q,e,h⟩:=h;obtain ⟨pl,pt,j,z,h1,h2⟩:=Pd.split h;refine ⟨(s,r.length,p)::pl,pt,by rw [e,j];rfl,by simp [z],⟨p,pl,rfl,h1⟩, ?_⟩
   rw [Fc,r4, <- Hj];exact h2
theorem Pd.join:∀ {l t:List (List u2)} {s:Nat} {pl pt:List (Nat×Nat×Nat)},Pd s l pl->Pd (s+l.flatten.length) t pt->Pd s (l++t) (pl++pt)
 | [],t,s,pl,pt,h,g=>by
  have:pl=[]:=h;subst this;simpa using g
 | r::l,t,s,pl,pt,h,g=>by
   obtain ⟨p,q,e,h⟩:=h;subst e;refine ⟨p,q++pt,rfl,Pd.join h ?_⟩;rw [Fc,r4, <- Hj] at g;exact g
theorem Pd.length:∀ {l:List (List u2)} {s:Nat} {ps:List (Nat×Nat×Nat)},Pd s l ps->ps.length=l.length
 | [],_,_,h=>by rw [show _=[] from h];rfl
 | r::l,s,ps,h=>by
   obtain ⟨p,q,e,h⟩:=h;rw [e];simp [h.length]
structure Rn (lt:u2->u2->Bool) (kd:HP) (a₀:List u2) (st:F5) (rs:List (List u2)) (R:List u2):Prop where
 arr:(EM st).toList=rs.flatten++R
 perm:(rs.flatten++R).Perm a₀
 ord:∀ r∈rs,r≠[]/\Ord lt r
 pend:Pd 0 rs (Ek st).toList
 kind:FH st=kd
 fail:Gq st=none
theorem Rn.merge (c:Cm prog w A s kd P lt) {a₀:List u2} (hP:∀ x∈a₀,P x) {st:F5} {l t:List (List u2)} {j F R:List u2} (h:Rn lt kd a₀ st (l++j::F::t) R) {i:Nat} (hi:i=l.length) {Q:Bool->F5->Prop}
 (q:∀ m st',Rn lt kd a₀ st' (l++m::t) R->m.length=j.length+F.length->Q true st'):wpS (El prog w) A E s (NP i) Q st:=by
 obtain ⟨g,lo,C3,⟨O,U,Y⟩,Z⟩:=B8 (E:=E) c;obtain ⟨pl,pt,ep,J,BY,BZ⟩:=h.pend.split;obtain ⟨L,t1,e1,C0⟩:=BZ;obtain ⟨p2,t2,e2,C1⟩:=C0;subst e1 e2;have o1:=h.ord j (by simp)
 have o2:=h.ord F (by simp)
 have G:∀ x,x∈j∨x∈F->P x:=fun x hx=>hP x (h.perm.mem_iff.mp (by simp only [Gr,Fc,Ea];rcases hx with z | z <;> simp [z]))
 have ip:∀ (k:Nat) (v:Nat×Nat×Nat),(Ek st).toList[k]? = some v->(Ek st)[k]? = some v:=fun k v e=>by rw [<- EB];exact e
 refine Z O (U O) (Y O) i (0+l.flatten.length) j.length L (0+l.flatten.length+j.length) F.length p2 l.flatten j F (t.flatten++R) st Q h.kind h.fail (ip _ _ ?_) (ip _ _ ?_) (by rw [h.arr];simp) (Ji _) rfl (by lia) rfl o1.1 o2.1 (fun x hx=>G x (.inl hx)) (fun x hx=>G x (.inr hx)) o1.2 o2.2 ?_
 ·rw [ep,hi, <- J,hH (by lia),Jh];rfl
 ·rw [ep,hi, <- J,hH (by lia),show pl.length+1 - pl.length=1 by lia];rfl
 ·intro m st' ea hm om hk hf C2;have B:m.length=j.length+F.length:=by rw [hm.length_eq];simp
  refine q m st' ⟨by rw [ea];simp, ?_, ?_, ?_,hk,hf⟩ B
  ·refine Gz.trans ?_ h.perm;simp only [Gr,Fc,Ei];refine EZ _ ?_;rw [<- Ei j];exact Fd _ hm
  ·intro r hr
   rcases Ea.mp hr with z | z
   ·exact h.ord r (Fu _ z)
   ·rcases Eb.mp z with z | z
    ·subst z;exact ⟨fun z=>by rw [z] at B;have:=EX.mpr o1.1;simp at B;lia,om⟩
    ·exact h.ord r (by simp [z])
  ·rw [C2];have e3:(((Ek st).setIfInBounds i (0+l.flatten.length,j.length+F.length,L)).eraseIdxIfInBounds (i+1)).toList=pl++(0+l.flatten.length,j.length+F.length,L)::t2:=by
    rw [Array.toList_eraseIdxIfInBounds,JC,ep,hi, <- J];rw [KI _ _ (by lia),Jh,Ia (by lia),show pl.length+1 - pl.length=1 by lia];rfl
   rw [e3];refine BY.join ⟨L,t2,by rw [B], ?_⟩
   rw [B, <- Hj];exact C1
theorem m9 {α:Type} {l:List α} (h : 1 < l.length):∃ t a b,l=t++[a,b]:=by
 obtain ⟨t1,b,j⟩:∃ t b,l=t++[b]:=⟨l.dropLast,l.getLast (fun z=>by rw [z] at h;simp at h),(Gp _).symm⟩
 obtain ⟨q,a,B⟩:∃ t b,t1=t++[b]:=⟨t1.dropLast,t1.getLast (fun z=>by rw [j,z] at h;simp at h),(Gp _).symm⟩
 exact ⟨q,a,b,by rw [j,B];simp⟩
theorem A2 {α:Type} {l:List α} {i:Nat} (h:i+1 < l.length):∃ t a b u,l=t++a::b::u/\t.length=i:=by
 refine ⟨l.take i,l[i],l[i+1],l.drop (i+2), ?_,by rw [EE];lia⟩
 rw [<- F7 (by lia), <- F7 (by lia),Fq]
theorem Rn.size {a₀:List u2} {st:F5} {rs:List (List u2)} {R:List u2} (h:Rn lt kd a₀ st rs R):rs.flatten.length+R.length=a₀.length:=by
 have:=h.perm.length_eq;rw [r4] at this;exact this
theorem oB:∀ {rs:List (List u2)},(∀ r∈rs,r≠[])->rs.length<=rs.flatten.length
 | [],_=>by simp
 | r::rs,h=>by
   have h1:=EX.mpr (h r (by simp))
   have h2:=oB (rs:=rs) fun r j=>h r (by simp [j])
   rw [Fc,r4,FW];lia
theorem si {l:List (List u2)} {s pw:Nat} {ps:Array (Nat×Nat×Nat)} (h:Pd s l ps.toList):Pd s l (ps.modify (ps.size - 1) fun x=>(x.1,x.2.1,pw)).toList:=by
 rw [Array.toList_modify];have g:∀ (l:List (List u2)) (s k:Nat) (ps:List (Nat×Nat×Nat)),Pd s l ps->Pd s l (ps.modify k fun x=>(x.1,x.2.1,pw)):=by
  intro l
  induction l with
  | nil=>intro s k ps h;have:ps=[]:=h;subst this;cases k <;> rfl
  | cons r l ih =>
    intro s k ps h;obtain ⟨p,t,e,h⟩:=h;subst e
    cases k with
    | zero=>exact ⟨pw,t,rfl,h⟩
    | succ k=>exact ⟨p,_,rfl,ih _ k t h⟩
 exact g _ _ _ _ h
theorem nN (c:Cm prog w A s kd P lt) {st:F5} {Q:Unit->F5->Prop} (hk:FH st=kd) (hf:Gq st=none) (hp:Ek st = #[]) (hP:∀ x∈(EM st).toList,P x)
 (q:∀ st',(EM st').toList.Perm (EM st).toList->Ord lt (EM st').toList->Gq st'=none->Q () st'):wpS (El prog w) A E s sortRuns' Q st:=by
 rw [sortRuns'_eq];refine r3 (HW ?_)
 try dsimp only
 have hsz:(EM st).size=(EM st).toList.length:=by simp
 generalize hA:(EM st).toList=a₀ at hP q hsz;generalize hS:(EM st).size=size at hsz;generalize minRun' size size 0=minrun;refine r3 (aw (Q:=fun r st' => ∃ rs lo,r=(none,lo)/\Rn lt kd a₀ st' rs [])
  (F4 (fun i r st' => ∃ rs R,r=(none,rs.flatten.length)/\Rn lt kd a₀ st' rs R/\i<=rs.flatten.length) ?_ ?_ ⟨[],a₀,rfl,⟨by simpa using hA,by simp,by simp,by rw [hp];rfl,hk,hf⟩,by simp⟩) ?_)
 ·rintro i r C5 _ hi ⟨rs,R,rfl,L,C2⟩
  try dsimp only
  have Cg:=L.size;refine ae (fun Cd => ?_) (fun Cd => ?_)
  ·have:R=[]:=EL.mp (by lia)
   subst this;exact aa ⟨rs,_,rfl,L⟩
  ·have C6:size - rs.flatten.length=R.length:=by lia
   have Ce:R≠[]:=fun z=>by rw [z,FR] at C6;lia
   have C7:∀ x∈R,P x:=fun x hx=>hP x (L.perm.mem_iff.mp (Ep _ hx));rw [C6];refine r3 (nM c L.kind L.arr Ce C7 fun r R1 J ea BY U ho kp => ?_)
   try dsimp only
   have F:Rn lt kd a₀ J rs (r++R1):=⟨ea,(EZ _ BY).trans L.perm,L.ord,by rw [kp.pend];exact L.pend,kp.kind.trans L.kind,kp.fail.trans L.fail⟩
   have C8:r.length+R1.length=R.length:=by rw [<- BY.length_eq];simp
   refine ae (fun C3 => ?_) (fun C3 => ?_)
   ·refine r3 (cj ?_);refine r3 (sf c F.kind F.arr U ho (n:=min R.length minrun) (by lia) (by simp;lia) (fun x hx=>C7 x (BY.mem_iff.mp hx)) fun r2 R2 B C9 C1 G Cf C0 => ?_)
    try dsimp only
    refine ae (fun h=>absurd h (by simp)) (fun _ => ?_)
    have Ca:r2≠[]:=fun z=>by
     rw [z] at G;simp at G;have:=EX.mpr U;lia
    have F:Rn lt kd a₀ B rs (r2++R2):=⟨C9,(EZ _ C1).trans F.perm,F.ord,by rw [C0.pend];exact F.pend,C0.kind.trans F.kind,C0.fail.trans F.fail⟩
    rw [<- G];clear G C1 C9 C0 ea BY kp C8 C3;generalize B=J at F;clear ho U;have ho:=Cf;have U:=Ca;generalize r2=r at F ho U;generalize R2=R1 at F;refine r3 (HW ?_)
    try dsimp only
    have Cb:(Ek J).size=rs.length:=by rw [<- Es];exact F.pend.length
    cases hb:(Ek J).back? with
    | none =>
      try dsimp only
      have HL:rs.flatten.length=rs.flatten.length:=rfl;refine r3 (G9 ?_);have C4:=EX.mpr U;have Y:(rs++[r]).flatten.length=rs.flatten.length+r.length:=by rw [Gr,r4,HL];simp
      refine aa ⟨rs++[r],R1,by rw [Y],⟨by rw [show _=_ from F.arr];simp, ?_, ?_, ?_,F.kind,F.fail⟩,by rw [Y];lia⟩
      ·refine Gz.trans (Hg (by simp)) F.perm
      ·intro u hu
       rcases Ea.mp hu with z | z
       ·exact F.ord u z
       ·simp at z;subst z;exact ⟨U,ho⟩
      ·have h8:(Ek (HZ J ((Ek J).push (rs.flatten.length,r.length,0)))).toList=(Ek J).toList++[(rs.flatten.length,r.length,0)]:=by
        show ((Ek J).push _).toList=_;rw [Ej]
       rw [show _=_ from h8];exact F.pend.join ⟨0,[],by rw [HL,Ji],rfl⟩
    | some v =>
      obtain ⟨s1,n1,p1⟩:=v
      try dsimp only
      refine r3 (aw (Q:=fun x st'=>x=(none,()) /\ ∃ rs',Rn lt kd a₀ st' rs' (r++R1)/\rs'.flatten.length=rs.flatten.length)
       (F4 (fun i x st'=>x=(none,()) /\ ∃ rs',Rn lt kd a₀ st' rs' (r++R1)/\rs'.flatten.length=rs.flatten.length) ?_ ?_ ⟨rfl,rs,F,rfl⟩) ?_)
      ·rintro j x B _ hj ⟨rfl,rs',O,G⟩;refine r3 (HW ?_)
       try dsimp only
       have BZ:(Ek B).size=rs'.length:=by rw [<- Es];exact O.pend.length
       by_cases h1:(Ek B).size > 1
       ·rw [if_pos h1];have h2:(Ek B)[(Ek B).size - 2]? = some ((Ek B)[(Ek B).size - 2]'(by lia)):=Fj (by lia)
        rw [h2]
        try dsimp only
        refine ae (fun h => ?_) (fun h => ?_)
        ·exact aa ⟨rfl,rs',O,G⟩
        ·obtain ⟨t,a,b,e⟩:=m9 (l:=rs') (by lia)
         subst e;refine r3 (O.merge c hP (by rw [BZ];simp) fun m Z h4 hm => ?_)
         refine ae (fun h=>absurd h (by simp)) (fun _=>aa ⟨rfl,_,h4, ?_⟩)
         rw [<- G];simp [hm]
       ·rw [if_neg h1];exact aa ⟨rfl,rs',O,G⟩
      ·rintro x B ⟨rfl,rs',O,G⟩;exact ⟨rfl,rs',O,G⟩
      ·rintro x B ⟨rfl,rs',O,G⟩
       try dsimp only
       refine r3 (G9 ?_);have h4:Rn lt kd a₀ (HZ B ((Ek B).modify ((Ek B).size - 1) fun x=>(x.1,x.2.1,power' size (2*s1+n1) (2*s1+n1+n1+r.length) size))) rs' (r++R1):=⟨O.arr,O.perm,O.ord,si O.pend,O.kind,O.fail⟩;generalize Cc:HZ B ((Ek B).modify ((Ek B).size - 1) fun x=>(x.1,x.2.1,power' size (2*s1+n1) (2*s1+n1+n1+r.length) size))=Z at h4;have HL:=G;refine r3 (G9 ?_);have C4:=EX.mpr U;have Y:(rs'++[r]).flatten.length=rs.flatten.length+r.length:=by rw [Gr,r4,HL];simp
       refine aa ⟨rs'++[r],R1,by rw [Y],⟨by rw [show _=_ from h4.arr];simp, ?_, ?_, ?_,h4.kind,h4.fail⟩,by rw [Y];lia⟩
       ·refine Gz.trans (Hg (by simp)) h4.perm
       ·intro u hu
        rcases Ea.mp hu with z | z
        ·exact h4.ord u z
        ·simp at z;subst z;exact ⟨U,ho⟩
       ·have h8:(Ek (HZ Z ((Ek Z).push (rs.flatten.length,r.length,0)))).toList=(Ek Z).toList++[(rs.flatten.length,r.length,0)]:=by
         show ((Ek Z).push _).toList=_;rw [Ej]
        rw [show _=_ from h8];exact h4.pend.join ⟨0,[],by rw [HL,Ji],rfl⟩
   ·clear ea BY kp C8 C3;refine r3 (HW ?_)
    try dsimp only
    have Cb:(Ek J).size=rs.length:=by rw [<- Es];exact F.pend.length
    cases hb:(Ek J).back? with
    | none =>
      try dsimp only
      have HL:rs.flatten.length=rs.flatten.length:=rfl;refine r3 (G9 ?_);have C4:=EX.mpr U;have Y:(rs++[r]).flatten.length=rs.flatten.length+r.length:=by rw [Gr,r4,HL];simp
      refine aa ⟨rs++[r],R1,by rw [Y],⟨by rw [show _=_ from F.arr];simp, ?_, ?_, ?_,F.kind,F.fail⟩,by rw [Y];lia⟩
      ·refine Gz.trans (Hg (by simp)) F.perm
      ·intro u hu
       rcases Ea.mp hu with z | z
       ·exact F.ord u z
       ·simp at z;subst z;exact ⟨U,ho⟩
      ·have h8:(Ek (HZ J ((Ek J).push (rs.flatten.length,r.length,0)))).toList=(Ek J).toList++[(rs.flatten.length,r.length,0)]:=by
        show ((Ek J).push _).toList=_;rw [Ej]
       rw [show _=_ from h8];exact F.pend.join ⟨0,[],by rw [HL,Ji],rfl⟩
    | some v =>
      obtain ⟨s1,n1,p1⟩:=v
      try dsimp only
      refine r3 (aw (Q:=fun x st'=>x=(none,()) /\ ∃ rs',Rn lt kd a₀ st' rs' (r++R1)/\rs'.flatten.length=rs.flatten.length)
       (F4 (fun i x st'=>x=(none,()) /\ ∃ rs',Rn lt kd a₀ st' rs' (r++R1)/\rs'.flatten.length=rs.flatten.length) ?_ ?_ ⟨rfl,rs,F,rfl⟩) ?_)
      ·rintro j x B _ hj ⟨rfl,rs',O,G⟩;refine r3 (HW ?_)
       try dsimp only
       have BZ:(Ek B).size=rs'.length:=by rw [<- Es];exact O.pend.length
       by_cases h1:(Ek B).size > 1
       ·rw [if_pos h1];have h2:(Ek B)[(Ek B).size - 2]? = some ((Ek B)[(Ek B).size - 2]'(by lia)):=Fj (by lia)
        rw [h2]
        try dsimp only
        refine ae (fun h => ?_) (fun h => ?_)
        ·exact aa ⟨rfl,rs',O,G⟩
        ·obtain ⟨t,a,b,e⟩:=m9 (l:=rs') (by lia)
         subst e;refine r3 (O.merge c hP (by rw [BZ];simp) fun m Z h4 hm => ?_)
         refine ae (fun h=>absurd h (by simp)) (fun _=>aa ⟨rfl,_,h4, ?_⟩)
         rw [<- G];simp [hm]
       ·rw [if_neg h1];exact aa ⟨rfl,rs',O,G⟩
      ·rintro x B ⟨rfl,rs',O,G⟩;exact ⟨rfl,rs',O,G⟩
      ·rintro x B ⟨rfl,rs',O,G⟩
       try dsimp only
       refine r3 (G9 ?_);have h4:Rn lt kd a₀ (HZ B ((Ek B).modify ((Ek B).size - 1) fun x=>(x.1,x.2.1,power' size (2*s1+n1) (2*s1+n1+n1+r.length) size))) rs' (r++R1):=⟨O.arr,O.perm,O.ord,si O.pend,O.kind,O.fail⟩;generalize Cc:HZ B ((Ek B).modify ((Ek B).size - 1) fun x=>(x.1,x.2.1,power' size (2*s1+n1) (2*s1+n1+n1+r.length) size))=Z at h4;have HL:=G;refine r3 (G9 ?_);have C4:=EX.mpr U;have Y:(rs'++[r]).flatten.length=rs.flatten.length+r.length:=by rw [Gr,r4,HL];simp
       refine aa ⟨rs'++[r],R1,by rw [Y],⟨by rw [show _=_ from h4.arr];simp, ?_, ?_, ?_,h4.kind,h4.fail⟩,by rw [Y];lia⟩
       ·refine Gz.trans (Hg (by simp)) h4.perm
       ·intro u hu
        rcases Ea.mp hu with z | z
        ·exact h4.ord u z
        ·simp at z;subst z;exact ⟨U,ho⟩
       ·have h8:(Ek (HZ Z ((Ek Z).push (rs.flatten.length,r.length,0)))).toList=(Ek Z).toList++[(rs.flatten.length,r.length,0)]:=by
         show ((Ek Z).push _).toList=_;rw [Ej]
        rw [show _=_ from h8];exact h4.pend.join ⟨0,[],by rw [HL,Ji],rfl⟩
 ·rintro r C5 ⟨rs,R,rfl,L,C2⟩;have:=L.size;have:R=[]:=EL.mp (by lia)
  subst this;exact ⟨rs,_,rfl,L⟩
 ·rintro r C5 ⟨rs,lo,rfl,L⟩
  try dsimp only
  refine r3 (aw (Q:=fun r st'=>r=(none,()) /\ ∃ rs,Rn lt kd a₀ st' rs []/\rs.length<=1)
   (F4 (fun i r st'=>r=(none,()) /\ ∃ rs,Rn lt kd a₀ st' rs []/\rs.length+i<=size) ?_ ?_ ⟨rfl,rs,L, ?_⟩) ?_)
  ·rintro i r J _ hi ⟨rfl,rs,L,C2⟩;refine r3 (HW ?_)
   try dsimp only
   have Cb:(Ek J).size=rs.length:=by rw [<- Es];exact L.pend.length
   refine ae (fun h => ?_) (fun h => ?_)
   ·exact aa ⟨rfl,rs,L,by lia⟩
   ·have go:∀ k,k+1 < rs.length->wpS (El prog w) A E s (NP k) (fun b st'=>b=true /\ ∃ rs',Rn lt kd a₀ st' rs' []/\rs'.length+1=rs.length) J:=by
     intro k hk;obtain ⟨t,a,b,u,e,ht⟩:=A2 hk;subst e;refine L.merge c hP ht.symm fun m B O _=>⟨rfl,_,O,by simp;lia⟩
    refine r3 (aw (go _ ?_) ?_)
    ·(repeat' split) <;> lia
    ·rintro b B ⟨rfl,rs',O,G⟩;refine ae (fun h=>absurd h (by simp)) (fun _=>aa ⟨rfl,rs',O,by lia⟩)
  ·rintro r J ⟨rfl,rs,L,C2⟩;exact ⟨rfl,rs,L,by lia⟩
  ·have h1:=oB fun r hr=>(L.ord r hr).1;have h2:=L.size;simp only [FR] at h2;lia
  ·rintro r J ⟨rfl,rs,L,hl⟩;refine aa (q J (by rw [L.arr];exact L.perm) ?_ L.fail)
   rw [L.arr,F8]
   match rs,hl,L with
   | [],_,_=>exact JP
   | [r],_,L=>simpa using (L.ord r (by simp)).2
end
end Srt
end L2
namespace L2
namespace Srt
open PySem PySem.Spec PyProof.Rows
def fA (cap:Nat):Prop := ∀ (prog:Er) (w:EH) (A:EK) (E:e7->g6->Prop) (s:g6) (kd:HP) (P:u2->Prop) (lt:u2->u2->Bool),Cm prog w A s kd P lt -> ∀ (st:F5) (Q:Unit->F5->Prop),FH st=kd->Gq st=none->Ek st = #[]->(∀ x∈(EM st).toList,P x)->2<=(EM st).size->(EM st).size<=cap ->
 (∀ st',(EM st').toList.Perm (EM st).toList->Ord lt (EM st').toList->Gq st'=none->Q () st')->wpS (El prog w) A E s sortRuns' Q st
theorem iA {cap:Nat}:fA cap:=fun _ _ _ _ _ _ _ _ c _ _ j hf z B _ _ q=>nN c j hf z B q
end Srt
end L2
namespace L2
namespace Srt
open PySem PySem.Spec PyProof.Rows
inductive Ky where
 | int (i:Int)
 | tup (l:List Ky)
mutual
noncomputable def ao:Ky->Ky->Ordering
 | .int a, .int b=>if a < b then .lt else if a=b then .eq else .gt
 | .int _, .tup _ => .lt
 | .tup _, .int _ => .gt
 | .tup a, .tup b=>cmpKs a b
noncomputable def cmpKs:List Ky->List Ky->Ordering
 | [],[] => .eq
 | [],_::_ => .lt
 | _::_,[] => .gt
 | x::xs,y::ys=>(ao x y).then (cmpKs xs ys)
end
mutual
theorem cz:∀ a b,ao b a=(ao a b).swap
 | .int a, .int b=>by
  simp only [ao]
  by_cases h1:a < b
  ·rw [if_pos h1,if_neg (by lia),if_neg (by lia)];rfl
  ·by_cases h2:a=b
   ·rw [if_neg h1,if_pos h2,if_neg (by lia),if_pos h2.symm];rfl
   ·rw [if_neg h1,if_neg h2,if_pos (by lia)];rfl
 | .int _, .tup _=>by simp [ao]
 | .tup _, .int _=>by simp [ao]
 | .tup a, .tup b=>by simp only [ao];exact cmpKs_swap a b
theorem cmpKs_swap:∀ a b,cmpKs b a=(cmpKs a b).swap
 | [],[] => rfl
 | [],_::_=>rfl
 | _::_,[] => rfl
 | x::xs,y::ys=>by
   simp only [cmpKs];rw [cz x y,cmpKs_swap xs ys]
   cases ao x y <;> rfl
end
mutual
theorem fB:∀ a b,ao a b = .eq->a=b
 | .int a, .int b,h=>by
  simp only [ao] at h
  by_cases h1:a < b
  ·rw [if_pos h1] at h;cases h
  ·by_cases h2:a=b
   ·rw [h2]
   ·rw [if_neg h1,if_neg h2] at h;cases h
 | .int _, .tup _,h=>by simp [ao] at h
 | .tup _, .int _,h=>by simp [ao] at h
 | .tup a, .tup b,h=>by simp only [ao] at h;rw [cmpKs_eq a b h]
theorem cmpKs_eq:∀ a b,cmpKs a b = .eq->a=b
 | [],[],_=>rfl
 | [],_::_,h=>by simp [cmpKs] at h
 | _::_,[],h=>by simp [cmpKs] at h
 | x::xs,y::ys,h=>by
   simp only [cmpKs] at h
   cases e:ao x y with
   | lt=>rw [e] at h;cases h
   | gt=>rw [e] at h;cases h
   | eq=>rw [e] at h;rw [fB x y e,cmpKs_eq xs ys h]
end
mutual
theorem iB:∀ a b c,ao a b = .lt->ao b c = .lt->ao a c = .lt
 | .int a, .int b, .int c,h,g=>by
  simp only [ao] at h g ⊢;have h1:a < b:=by
   by_cases h1:a < b
   ·exact h1
   ·rw [if_neg h1] at h;split at h <;> cases h
  have h2:b < c:=by
   by_cases h1:b < c
   ·exact h1
   ·rw [if_neg h1] at g;split at g <;> cases g
  rw [if_pos (by lia)]
 | .int _, .tup _, .int _,_,g=>by simp [ao] at g
 | .int _, .int _, .tup _,_,_=>by simp [ao]
 | .int _, .tup _, .tup _,_,_=>by simp [ao]
 | .tup _, .int _,_,h,_=>by simp [ao] at h
 | .tup _, .tup _, .int _,_,g=>by simp [ao] at g
 | .tup a, .tup b, .tup c,h,g=>by simp only [ao] at h g ⊢;exact cmpKs_trans a b c h g
theorem cmpKs_trans:∀ a b c,cmpKs a b = .lt->cmpKs b c = .lt->cmpKs a c = .lt
 | [],[],_,h,_=>by simp [cmpKs] at h
 | [],_::_,[],_,g=>by simp [cmpKs] at g
 | [],_::_,_::_,_,_=>by simp [cmpKs]
 | _::_,[],_,h,_=>by simp [cmpKs] at h
 | _::_,_::_,[],_,g=>by simp [cmpKs] at g
 | x::xs,y::ys,z::zs,h,g=>by
   simp only [cmpKs] at h g ⊢
   cases e:ao x y with
   | gt=>rw [e] at h;cases h
   | eq =>
     have:=fB x y e;subst this;rw [e] at h
     cases e2:ao x z with
     | gt=>rw [e2] at g;cases g
     | lt=>rfl
     | eq=>rw [e2] at g;exact cmpKs_trans xs ys zs h g
   | lt =>
     cases e2:ao y z with
     | gt=>rw [e2] at g;cases g
     | lt=>rw [iB x y z e e2];rfl
     | eq =>
       have:=fB y z e2;subst this;rw [e];rfl
end
noncomputable def ltK (a b:Ky):Bool:=ao a b == .lt
noncomputable def mj (a b:List Ky):Bool:=cmpKs a b == .lt
theorem gv (a b:Ky) (h:ltK a b=true):ltK b a=false:=by
 unfold ltK at h ⊢;rw [cz a b,(by simpa using h:ao a b = .lt)];rfl
theorem jI (a b:Ky) (h:ltK a b=false) (g:ltK b a=false):a=b:=by
 unfold ltK at h g;rw [cz a b] at g;apply fB
 cases e:ao a b with
 | eq=>rfl
 | lt=>rw [e] at h;cases h
 | gt=>rw [e] at g;cases g
theorem xV (a b c:Ky) (h:ltK a c=true):ltK a b=true∨ltK b c=true:=by
 cases e:ltK a b with
 | true=>exact .inl rfl
 | false =>
   right
   cases j:ltK b a with
   | false=>rw [jI a b e j] at h;exact h
   | true =>
     unfold ltK at h j ⊢;rw [iB b a c (by simpa using j) (by simpa using h)];rfl
theorem sj (x y:Ky) (xs ys:List Ky):mj (x::xs) (y::ys)=if (!ltK x y && !ltK y x)=true then mj xs ys else ltK x y:=by
 unfold mj ltK;rw [cz x y];simp only [cmpKs]
 cases ao x y <;> simp
mutual
noncomputable def toK:Fg->Ky
 | .int i => .int i
 | .tuple xs => .tup (toKs xs)
 | _ => .int 0
noncomputable def toKs:List Fg->List Ky
 | [] => []
 | x::xs=>toK x::toKs xs
end
inductive Cmpb:Fg->Fg->Prop where
 | int (a b:Int):Cmpb (.int a) (.int b)
 | nil (ys:List Fg):Cmpb (.tuple []) (.tuple ys)
 | nil' (xs:List Fg):Cmpb (.tuple xs) (.tuple [])
 | cons {x y:Fg} {xs ys:List Fg}:Cmpb x y->Cmpb (.tuple xs) (.tuple ys)->Cmpb (.tuple (x::xs)) (.tuple (y::ys))
theorem Cmpb.eqv {x y:Fg} (h:Cmpb x y):EW x y=(!ltK (toK x) (toK y) && !ltK (toK y) (toK x)):=by
 have g:∀ {x y:Fg},Cmpb x y->EW x y=(ao (toK x) (toK y) == .eq):=by
  intro x y h
  induction h with
  | int a b =>
    simp only [EW,toK,ao]
    by_cases h1:a < b
    ·rw [if_pos h1];simp;lia
    ·by_cases h2:a=b
     ·rw [if_neg h1,if_pos h2];simp [h2]
     ·rw [if_neg h1,if_neg h2];simp;lia
  | nil ys=>cases ys <;> simp [EW,FQ,toK,toKs,ao,cmpKs]
  | nil' xs=>cases xs <;> simp [EW,FQ,toK,toKs,ao,cmpKs]
  | @cons x y xs ys h1 h2 ih1 j =>
   simp only [EW] at j ⊢;simp only [FQ,toK,toKs,ao,cmpKs] at j ⊢;rw [ih1,j]
   cases ao (toK x) (toK y) <;> simp
 rw [g h];unfold ltK;rw [cz (toK x) (toK y)]
 cases ao (toK x) (toK y) <;> rfl
section
variable {prog:Er} {w:EH} {A:EK} {E:e7->g6->Prop} {s:g6}
theorem trd {b:Bool} {Q:Bool->g6->Prop} (q:Q b s):Ee (El prog w) A (truthOfDropped (.bool b)) Q E s:=by
 unfold truthOfDropped
 wp_walk
 exact q
theorem fC (a b:Int):ltK (.int a) (.int b)=decide (a < b):=by
 simp only [ltK,ao]
 by_cases h:a < b
 ·simp [h]
 ·by_cases h2:a=b <;> simp [h,h2]
theorem sk {a b:Int} {t u:Tok} {Q:e7->g6->Prop} (q:Q (.bool (decide (a < b))) s):Ee (El prog w) A (IT .Lt (.int a t) (.int b u)) Q E s :=
 wpAny_richCompare_same (T := "int") rfl rfl F.slot_int_lt (call_int_lt ⟨by simp,q⟩)
noncomputable def bN:List Fg->List Fg->Option Bool
 | x::xs,y::ys=>if EW x y=true then bN xs ys else some (ltK (toK x) (toK y))
 | _,_=>none
theorem gw:∀ {xs ys:List Fg},Cmpb (.tuple xs) (.tuple ys)->ltK (toK (.tuple xs)) (toK (.tuple ys))=match bN xs ys with | some b=>b | none=>decide (xs.length < ys.length)
 | [],[],_=>rfl
 | [],_::_,_=>by simp [bN,toK,toKs,ltK,ao,cmpKs]
 | _::_,[],_=>by simp [bN,toK,toKs,ltK,ao,cmpKs]
 | x::xs,y::ys,h=>by
   cases h with
   | cons h1 h2 =>
     have ih:=gw h2;have e:∀ a b:List Ky,ltK (.tup a) (.tup b)=mj a b:=fun a b=>by simp [ltK,mj,ao]
     simp only [toK,toKs,e] at ih ⊢;rw [sj, <- h1.eqv];simp only [bN]
     split
     ·rw [ih];simp
     ·rfl
noncomputable def bU {α β:Type} (M:Ib) (A:EK) (E:e7->g6->Prop) (f : α -> β -> Sem (ForInStep β)) (Q : β -> g6->Prop):List α -> β -> g6->Prop
 | [],c,s=>Q c s
 | x::xs,c,s=>Ee M A (f x c) (fun r s'=>match r with | .done c'=>Q c' s' | .yield c'=>bU M A E f Q xs c' s') E s
theorem e8 {α β:Type} {M:Ib} {f : α -> β -> Sem (ForInStep β)} {Q : β -> g6->Prop}:∀ {l:List α} {c : β} {s:g6},bU M A E f Q l c s->Ee M A (forIn l c f) Q E s
 | [],c,s,h=>by rw [KU];exact gV h
 | x::xs,c,s,h=>by
   rw [Hf];refine b3 (G7 h (fun r s' j => ?_) fun _ _ z=>z)
   cases r with
   | done c'=>exact gV j
   | yield c'=>exact e8 j
theorem bu {h:Heap}:∀ {vs:List e7} {xs:List Fg} {as:List Addr},Jy h vs xs as->vs.length=xs.length
 | _,_,_, .nil=>rfl
 | _,_,_, .cons _ r=>by simp [bu r]
theorem gx {α β:Type} {M:Ib} {n:Nat} {f : α -> Option β × Unit->Sem (ForInStep (Option β × Unit))} {g:Bool -> β} {pr : α -> e7×e7} {Q:Option β × Unit->g6->Prop} :
 ∀ {l:List α} {vs us:List e7} {xs ys:List Fg} {as bs:List Addr},l.map pr=vs.zip us->Jy s.heap vs xs as->Jy s.heap us ys bs->Cmpb (.tuple xs) (.tuple ys)->EU xs=true->EU ys=true->F9 xs<=n ->
  (∀ (z : α) (x y:e7) (d e:Fg) (as bs:List Addr) (R:ForInStep (Option β × Unit)->g6->Prop),z∈l->pr z=(x,y)->HN s.heap x d as->HN s.heap y e bs->Cmpb d e->d.canLay0=true->e.canLay0=true->d.depth<=n ->
   R (if EW d e=true then .yield (none,()) else .done (some (g (ltK (toK d) (toK e))),())) s->Ee M A (f z (none,())) R E s) ->
  Q ((bN xs ys).map g,()) s->bU M A E f Q l (none,()) s
 | [],vs,us,xs,ys,as,bs,e,j,B,F,_,_,_,_,q=>by
  have h1:=bu j;have h2:=bu B;have:vs=[]∨us=[]:=by
   cases vs with
   | nil=>exact .inl rfl
   | cons v vs=>cases us with
     | nil=>exact .inr rfl
     | cons u us=>simp at e
  have G:bN xs ys=none:=by
   rcases this with rfl | rfl
   ·cases xs with
    | nil=>simp [bN]
    | cons x xs=>simp at h1
   ·cases ys with
    | nil=>cases xs <;> simp [bN]
    | cons y ys=>simp at h2
  rw [G] at q;exact q
 | z::l,vs,us,xs,ys,as,bs,e,j,B,F,lx,ly,hd,hf,q=>by
   cases j with
   | nil=>simp at e
   | cons rx j =>
     cases B with
     | nil=>simp at e
     | cons ry B =>
       simp only [Ew,Js,HX] at e;simp only [EU,g8] at lx ly;simp only [F9] at hd
       cases F with
       | cons J L =>
         simp only [bU];refine hf z _ _ _ _ _ _ _ (by simp) e.1 rx ry J lx.1 ly.1 (by lia) ?_
         simp only [bN] at q
         split at q
         ·next h =>
          rw [if_pos h];exact gx e.2 j B L lx.2 ly.2 (by lia) (fun z x y d e as bs R hz=>hf z x y d e as bs R (by simp [hz])) q
         ·next h =>
          rw [if_neg h];exact q
def BR (n:Nat):Prop := ∀ (prog:Er) (w:EH) (A:EK) (s:g6) (a b:e7) (d e:Fg) (as bs:List Addr) (E:e7->g6->Prop) (Q:e7->g6->Prop),d.depth<=n->Cmpb d e->HN s.heap a d as->HN s.heap b e bs->d.canLay0=true->e.canLay0=true->A.units+n+1 < G0 ->
 Q (.bool (ltK (toK d) (toK e))) s->Ee (El prog w) A (IT .Lt a b) Q E s
theorem B9:∀ n,BR n:=by
 intro n
 induction n with
 | zero =>
   intro prog w A s a b d e as bs E Q hd z ra rb ld le Z q
   cases z with
   | int i j =>
     cases ra;cases rb
     exact sk (by rw [<- fC];exact q)
   | nil ys=>simp [FF] at hd
   | nil' xs=>simp [FF] at hd
   | cons _ _=>simp [FF] at hd
 | succ n ih =>
   intro prog w A s a b d e as bs E Q hd z ra rb ld le Z q;have tup:∀ xs ys,d = .tuple xs->e = .tuple ys->Ee (El prog w) A (IT .Lt a b) Q E s:=by
    rintro xs ys rfl rfl
    cases ra with
    | tuple h1 h2 h3 J =>
      cases rb with
      | tuple g1 g2 g3 L =>
        rename_i l ol vl nl p ob vb nb;have tl:s.TypeIs (.ref l) "tuple" := ⟨_,h1,h2⟩;have tb:s.TypeIs (.ref p) "tuple" := ⟨_,g1,g2⟩;refine wpAny_richCompare_same_room tl tb Nw (EG Nw tl F.entry_tuple_lt ?_ (F.args_tuple_lt_2 _ _)) (by lia)
        unfold GI.«tuple.__lt__»;refine b3 ?_;have O:isSubtype (.type "tuple") (.type "tuple")=pure true:=by rw [L5];kernel_rfl
        wp_walk
        rw [h3]
        wp_walk
        rw [g3];refine gV ?_;refine gV ?_;refine b3 (e8 (gx (n:=n) (g:=fun b=>Fin.done (Flow.ret (Jl b))) (pr:=id) (List.map_id _) J L z ld le (by simp [FF] at hd;lia) ?_ ?_))
        ·rintro ⟨x,y⟩ x' y' d e as bs R _ hz rx ry z ld le hd r
         cases hz
         dsimp only;refine b3 (MZ d e _ _ _ _ _ _ rx ry ld le ?_ prog w E _ ?_)
         ·show A.units+1+min d.depth e.depth < G0;lia
         ·by_cases B:EW d e=true
          ·rw [if_pos B] at r;rw [B];exact gV r
          ·rw [if_neg B] at r;have B:EW d e=false:=by simpa using B
           rw [B];refine b3 (FU (b3 (ih prog w _ s x y d e as bs E _ hd z rx ry ld le ?_ ?_)))
           ·show A.units+1+n+1 < G0;lia
           ·exact gV r
        ·have G:=gw z
         cases e2:bN xs ys with
         | some b =>
           rw [e2] at G;dsimp only at G;rw [G] at q;exact gV ⟨_,rfl,by simp,q⟩
         | none =>
           rw [e2] at G;dsimp only at G;rw [G] at q;have U:=bu J;have Y:=bu L;refine gV ⟨_,rfl, ?_, ?_⟩
           ·simp [GR]
           ·simp only [Es] at U Y;simp only [GR];rw [U,Y];exact q
   cases z with
   | int i j =>
     cases ra;cases rb
     exact sk (by rw [<- fC];exact q)
   | nil ys=>exact tup _ _ rfl rfl
   | nil' xs=>exact tup _ _ rfl rfl
   | cons _ _=>exact tup _ _ rfl rfl
end
end Srt
end L2
namespace L2
namespace Srt
open PySem PySem.Spec PyProof.Rows
section
variable {prog:Er} {w:EH} {A:EK} {E:e7->g6->Prop} {s:g6}
theorem iC {α β:Type} {M:Ib} {f : α -> Sem β} {g : α -> β}:∀ {l:List α} {Q:List β -> g6->Prop},(∀ x∈l, ∀ R : β -> g6->Prop,R (g x) s->Ee M A (f x) R E s)->Q (l.map g) s->Ee M A (l.mapM f) Q E s
 | [],Q,_,q=>by rw [List.mapM_nil];exact gV q
 | x::xs,Q,h,q=>by
   rw [List.mapM_cons];refine b3 (h x (by simp) _ (b3 (iC (fun y j=>h y (by simp [j])) (gV q))))
theorem dr {α β:Type} {M:Ib} {f : α -> Sem β} {g : α -> β} {xs:Array α} {Q:Array β -> g6->Prop} (h:∀ x∈xs.toList, ∀ R : β -> g6->Prop,R (g x) s->Ee M A (f x) R E s) (q:Q (xs.map g) s):Ee M A (xs.mapM f) Q E s:=by
 rw [Array.mapM_eq_mapM_toList];rw [map_eq_pure_bind];refine b3 (iC h (gV ?_));have:(xs.toList.map g).toArray=xs.map g:=by
  apply IH.mp;simp
 rw [this];exact q
theorem jJ {a:Addr} {v:e7} {vs:List e7} {o:Obj} {n:Nat} (h1:s.heap.get? a=some o) (h2:o.cls = .type "tuple") (j:o.data = .seq (v::vs).toArray n) {Q:Option e7->g6->Prop} (q:Q (some v) s):Ee (El prog w) A (firstOfTuple' (.ref a)) Q E s:=by
 unfold firstOfTuple';have ty:s.TypeIs (.ref a) "tuple" := ⟨_,h1,h2⟩
 wp_walk
 rw [j];refine gV ?_;refine gV ?_;exact gV q
theorem xW {a:Addr} {o:Obj} {T:e7} (h1:s.heap.get? a=some o) (h2:o.cls=T) {Q:e7->g6->Prop} (q:Q T s):Ee (El prog w) A (typeOf (.ref a)) Q E s:=by
 wp_walk
 rw [h2];exact q
theorem so {n:Nat} {x y:e7} {d e:Fg} {as bs:List Addr} (j:Cmpb d e) (rx:HN s.heap x d as) (ry:HN s.heap y e bs) (ld:d.canLay0=true) (le:e.canLay0=true) (hd:d.depth<=n) (z:A.units+n+1 < G0) {Q:Bool->g6->Prop} (q:Q (ltK (toK d) (toK e)) s):Ee (El prog w) A (oneLt' false x y) Q E s:=by
 rw [oneLt'_eq];exact b3 (B9 n prog w A s x y d e as bs E _ hd j rx ry ld le z (trd q))
theorem jK {n:Nat} {b:Bool} {x y:e7} {xs ys:List Fg} {as bs:List Addr} (hb:b=true -> ∀ d e,xs.head? = some d->ys.head? = some e->(∃ i,d = .int i) /\ ∃ i,e = .int i)
 (G:Cmpb (.tuple xs) (.tuple ys)) (rx:HN s.heap x (.tuple xs) as) (ry:HN s.heap y (.tuple ys) bs) (lx:EU xs=true) (ly:EU ys=true) (hd:F9 xs<=n) (hu:A.units+n+1 < G0) {Q:Bool->g6->Prop} (q:Q (ltK (toK (.tuple xs)) (toK (.tuple ys))) s) :
 Ee (El prog w) A (keyLt' (tuples' b) x y) Q E s:=by
 cases rx with
 | tuple h1 h2 h3 J =>
   cases ry with
   | tuple g1 g2 g3 L =>
     refine b3 (Mt h1 h3 ?_);refine b3 (Mt g1 g3 ?_);refine b3 (e8 (gx (n:=n) (g:=id) (pr:=Prod.fst) (List.zipIdx_map_fst _ _) J L G lx ly hd ?_ ?_))
     ·rintro ⟨⟨x,y⟩,i⟩ x' y' d e as bs R hz hp rx ry G ld le hd r
      cases hp
      dsimp only;refine b3 (MZ d e _ _ _ _ _ _ rx ry ld le (by lia) prog w E _ ?_)
      by_cases F:EW d e=true
      ·rw [if_pos F] at r;rw [F];exact gV r
      ·rw [if_neg F] at r;have F:EW d e=false:=by simpa using F
       rw [F];refine b3 ?_
       by_cases z:(b&&i==0)=true
       ·rw [z];simp only [g8,beq_iff_eq] at z;obtain ⟨rfl,rfl⟩:=z;have j:=List.mem_zipIdx_iff_getElem?.mp hz;obtain ⟨U,Y,t1,Z,B,O⟩:∃ (U Y:Int) (t1 Z:Tok),x = .int U t1/\y = .int Y Z:=by
         generalize hV:Kd _=vl at J j;generalize hU:Kd _=ul at L j
         cases J with
         | nil=>simp at j
         | cons p1 p2 =>
           cases L with
           | nil=>simp at j
           | cons q1 q2 =>
             simp at j;obtain ⟨⟨U,ei⟩,⟨Y,ej⟩⟩:=hb rfl _ _ rfl rfl;subst ei ej
             cases p1;cases q1
             exact ⟨_,_,_,_,j.1.symm,j.2.symm⟩
        subst B O
        cases rx;cases ry
        refine oneLt_int ?_;rw [<- fC];exact gV r
       ·have z:(b&&i==0)=false:=by simpa using z
        rw [z];exact so G rx ry ld le hd hu (gV r)
     ·have B:=gw G
      cases O:bN xs ys with
      | some b =>
        rw [O] at B;dsimp only at B;rw [B] at q;exact gV q
      | none =>
        rw [O] at B;dsimp only at B;rw [B] at q;have n1:=bu J;have n2:=bu L;refine gV ?_;simp only [Es] at n1 n2;rw [n1,n2];exact q
end
end Srt
end L2
namespace L2
namespace Srt
open PySem PySem.Spec PyProof.Rows
structure mn (n:Nat) (ds:List Fg):Prop where
 cmp:∀ d∈ds, ∀ e∈ds,Cmpb d e
 lay:∀ d∈ds,d.canLay0=true/\d.depth<=n
 kind:(∀ d∈ds, ∃ i,d = .int i)∨(∀ d∈ds, ∃ i xs,d = .tuple (.int i::xs))∨(∀ d∈ds, ∃ ys xs,d = .tuple (.tuple ys::xs))
noncomputable def bZ (h:Heap):e7->Option e7
 | .ref a=>(h.get? a).bind fun o=>match o.data with | .seq xs _=>xs[0]? | _=>none
 | _=>none
section
variable {prog:Er} {w:EH} {A:EK} {E:e7->g6->Prop} {s:g6}
noncomputable def cL (h:Heap) (x:u2):Ky:=toK (G1 h x.1)
def RdL (h:Heap) (vs:List e7) (ds:List Fg):Prop := ∀ v∈vs, ∃ d∈ds, ∃ as,HN h v d as
theorem eN {arr:Array e7} {T:String} (h0 : 0 < arr.size) (h:∀ v∈arr.toList, ∀ R:e7->g6->Prop,R (.type T) s->Ee (El prog w) A (typeOf v) R E s) {Q:Option e7->g6->Prop} (q:Q (some (.type T)) s):Ee (El prog w) A (oneTypeOnly' arr) Q E s:=by
 rw [oneTypeOnly'_eq];refine b3 (dr (g:=fun _=>Fk T) h ?_);have e:(II (fun _=>Fk T) arr)[0]? = some (Fk T):=by
  rw [Array.getElem?_map,Fj h0];rfl
 rw [e];dsimp only;have j:((II (fun _=>Fk T) arr).all fun x=>x==Fk T)=true:=by
  rw [Mu];intro i hi;simp
 rw [j];exact gV q
theorem qe {n:Nat} {kd:HP} {vs:List e7} {ds:List Fg} (j:RdL s.heap vs ds) (hs:mn n ds)
 (h:∀ (x y:e7) (d e:Fg) (as bs:List Addr) (E:e7->g6->Prop) (Q:Bool->g6->Prop),d∈ds->e∈ds->HN s.heap x d as->HN s.heap y e bs->Q (ltK (toK d) (toK e)) s->Ee (El prog w) A (keyLt' kd x y) Q E s) :
 Cm prog w A s kd (fun x=>x.1∈vs) (fun x y=>ltK (cL s.heap x) (cL s.heap y)) where
 asym:=fun x y=>gv _ _
 neg:=fun x y z=>xV _ _ _
 run:=fun x y E Q hx B q=>by
  obtain ⟨d,hd,as,ra⟩:=j _ hx;obtain ⟨e,he,bs,rb⟩:=j _ B;have F:=GH (hs.lay d hd).1 ra;have G:=GH (hs.lay e he).1 rb;unfold cL at q;rw [F,G] at q;exact h _ _ d e as bs E Q hd he ra rb q
theorem mv {h:Heap} {vs:List e7} (j:∀ v∈vs, ∃ u,bZ h v=some u):((vs.toArray.map (bZ h)).all fun x=>x.isSome)=true:=by
 rw [Mu];intro i hi;simp at hi;obtain ⟨u,q⟩:=j vs[i] (K7 hi);simp [q]
theorem sr {h:Heap} {vs:List e7} {x:e7} (hx:x∈(Nx id (vs.toArray.map (bZ h))).toList):∃ v∈vs,bZ h v=some x:=by
 simp at hx;exact hx
theorem su {h:Heap} {v:e7} {vs:List e7} {u:e7} (j:bZ h v=some u) : 0 < (Nx id ((v::vs).toArray.map (bZ h))).size:=by
 rw [<- Es];simp [j]
theorem jL {h:Heap} {v:e7} {d:Fg} {xs:List Fg} {as:List Addr} (r:HN h v (.tuple (d::xs)) as):∃ a o u us n bs,v = .ref a/\h.get? a=some o/\o.cls = .type "tuple" /\ o.data = .seq (u::us).toArray n/\HN h u d bs:=by
 cases r with
 | @tuple a o vs n xs as h1 h2 j h4 =>
  generalize q:vs.toList=vl at h4
  cases h4 with
  | @cons u us _ _ bs _ z p2=>exact ⟨_,_,u,us,n,bs,rfl,h1,h2,by rw [j];congr 1;apply IH.mp;simpa using q,z⟩
theorem Ba {n:Nat} {v:e7} {vs:List e7} {ds:List Fg} (Y:RdL s.heap (v::vs) ds) (hs:mn n ds) (z:A.units+n+1 < G0) :
 ∃ kd,(∀ (E:e7->g6->Prop) (Q:HP->g6->Prop),Q kd s->Ee (El prog w) A (keyKind' (v::vs).toArray) Q E s)/\Cm prog w A s kd (fun x=>x.1∈v::vs) (fun x y=>ltK (cL s.heap x) (cL s.heap y)):=by
 rcases hs.kind with J | J | J
 ·refine ⟨oneType',fun E Q q => ?_,qe Y hs fun x y d e as bs E Q hd he ra rb q => ?_⟩
  ·have hint:∀ u∈v::vs, ∃ i t,u = .int i t:=fun u z=>by
    obtain ⟨d,hd,as,ra⟩:=Y u z;obtain ⟨i,rfl⟩:=J d hd
    cases ra
    exact ⟨_,_,rfl⟩
   rw [Nj];refine b3 (dr (g:=fun _=>(none:Option e7)) (fun u z R r => ?_) ?_)
   ·obtain ⟨i,t,rfl⟩:=hint u (by simpa using z)
    rw [firstOfTuple'_int];exact gV r
   ·have Z:((II (fun _=>(none:Option e7)) (v::vs).toArray).all fun x=>x.isSome)=false:=by
     simp
    rw [Z];have B:((II (fun _=>(none:Option e7)) (v::vs).toArray)[0]?.bind id).isSome=false:=by simp
    simp only [B,EV,if_false];refine b3 (eN (T := "int") (by simp) (fun u z R r => ?_) ?_)
    ·obtain ⟨i,t,rfl⟩:=hint u (by simpa using z)
     exact gV r
    ·exact gV q
  ·obtain ⟨i,rfl⟩:=J d hd;obtain ⟨j,rfl⟩:=J e he
   cases ra;cases rb
   rw [keyLt'_oneType];exact oneLt_int (by rw [<- fC];exact q)
 ·refine ⟨tuples' true,fun E Q q => ?_,qe Y hs fun x y d e as bs E Q hd he ra rb q => ?_⟩
  ·have hf:∀ u∈v::vs, ∃ a o i t us n,u = .ref a/\s.heap.get? a=some o/\o.cls = .type "tuple" /\ o.data = .seq (.int i t::us).toArray n:=fun u z=>by
    obtain ⟨d,hd,as,ra⟩:=Y u z;obtain ⟨i,xs,rfl⟩:=J d hd;obtain ⟨a,o,u1,us,n,bs,Z,B,L,G,O⟩:=jL ra
    cases O
    exact ⟨a,o,_,_,us,n,Z,B,L,G⟩
   have F:∀ u∈v::vs, ∃ i t,bZ s.heap u=some (.int i t):=fun u z=>by
    obtain ⟨a,o,i,t,us,n,rfl,B,L,G⟩:=hf u z;exact ⟨i,t,by simp [bZ,B,G]⟩
   rw [Nj];refine b3 (dr (g:=bZ s.heap) (fun u z R r => ?_) ?_)
   ·obtain ⟨a,o,i,t,us,n,rfl,B,L,G⟩:=hf u (by simpa using z)
    refine jJ B L G ?_;simpa [bZ,B,G] using r
   ·rw [mv (fun u z=>let ⟨i,t,e⟩:=F u z; ⟨_,e⟩)];refine b3 (FU ?_);obtain ⟨i0,t0,e0⟩:=F v (by simp)
    refine b3 (eN (T := "int") (su e0) (fun u z R r => ?_) ?_)
    ·obtain ⟨u',U,e⟩:=sr z;obtain ⟨i,t,e'⟩:=F u' U;rw [e'] at e;cases e;exact gV r
    ·exact gV q
  ·obtain ⟨i,xs,rfl⟩:=J d hd;obtain ⟨j,ys,rfl⟩:=J e he;have l1:=hs.lay _ hd;have l2:=hs.lay _ he;refine jK (n:=n) (fun _ d e hd he => ?_) (hs.cmp _ hd _ he) ra rb (by simpa [Hw] using l1.1) (by simpa [Hw] using l2.1) (by have:=l1.2;simp [FF] at this;lia) z q
   simp at hd he;subst hd he;exact ⟨⟨_,rfl⟩,_,rfl⟩
 ·refine ⟨tuples' false,fun E Q q => ?_,qe Y hs fun x y d e as bs E Q hd he ra rb q => ?_⟩
  ·have hf:∀ u∈v::vs, ∃ a o b ob us n,u = .ref a/\s.heap.get? a=some o/\o.cls = .type "tuple" /\ o.data = .seq (.ref b::us).toArray n/\s.heap.get? b=some ob/\ob.cls = .type "tuple" := fun u z=>by
    obtain ⟨d,hd,as,ra⟩:=Y u z;obtain ⟨ys,xs,rfl⟩:=J d hd;obtain ⟨a,o,u1,us,n,bs,Z,B,L,G,O⟩:=jL ra
    cases O with
    | tuple h1 h2 h3 h4=>exact ⟨a,o,_,_,us,n,Z,B,L,G,h1,h2⟩
   have F:∀ u∈v::vs, ∃ b ob,bZ s.heap u=some (.ref b)/\s.heap.get? b=some ob/\ob.cls = .type "tuple" := fun u z=>by
    obtain ⟨a,o,b,ob,us,n,rfl,B,L,G,O,e6⟩:=hf u z;exact ⟨b,ob,by simp [bZ,B,G],O,e6⟩
   rw [Nj];refine b3 (dr (g:=bZ s.heap) (fun u z R r => ?_) ?_)
   ·obtain ⟨a,o,b,ob,us,n,rfl,B,L,G,O,e6⟩:=hf u (by simpa using z)
    refine jJ B L G ?_;simpa [bZ,B,G] using r
   ·rw [mv (fun u z=>let ⟨i,t,e,_⟩:=F u z; ⟨_,e⟩)];refine b3 (FU ?_);obtain ⟨i0,t0,e0,_⟩:=F v (by simp)
    refine b3 (eN (T := "tuple") (su e0) (fun u z R r => ?_) ?_)
    ·obtain ⟨u',U,e⟩:=sr z;obtain ⟨b,ob,e',O,e6⟩:=F u' U;rw [e'] at e;cases e;exact xW O e6 r
    ·exact gV q
  ·obtain ⟨zs,xs,rfl⟩:=J d hd;obtain ⟨zs',ys,rfl⟩:=J e he;have l1:=hs.lay _ hd;have l2:=hs.lay _ he;exact jK (n:=n) (fun h=>by cases h) (hs.cmp _ hd _ he) ra rb (by simpa [Hw] using l1.1) (by simpa [Hw] using l2.1) (by have:=l1.2;simp [FF] at this;lia) z q
end
end Srt
end L2
namespace L2
namespace Srt
open PySem PySem.Spec PyProof.Rows
inductive Pl:Fg->Prop where
 | int (i:Int):Pl (.int i)
 | tup (xs:List Fg):(∀ x∈xs,Pl x)->Pl (.tuple xs)
theorem b9 {h h':Heap} (k:∀ b o,h.get? b=some o->o.cls = .type "tuple" -> h'.get? b=some o) {d:Fg} (p:Pl d):∀ {v:e7} {as:List Addr},HN h v d as->HN h' v d as:=by
 induction p with
 | int i=>intro v as r;cases r;exact .int _ _
 | tup xs hx ih =>
   intro v as r
   cases r with
   | tuple h1 h2 q z =>
     refine .tuple (k _ _ h1 h2) h2 q ?_;have g:∀ (xs:List Fg),(∀ x∈xs, ∀ {v:e7} {as:List Addr},HN h v x as->HN h' v x as) -> ∀ (vs:List e7) (as:List Addr),Jy h vs xs as->Jy h' vs xs as:=by
      intro xs
      induction xs with
      | nil=>intro _ vs as r;cases r;exact .nil
      | cons x xs ihx =>
        intro j vs as r
        cases r with
        | cons B p2=>exact .cons (j x (by simp) B) (ihx (fun y F=>j y (by simp [F])) _ _ p2)
     exact g xs ih _ _ z
section
variable {prog:Er} {w:EH} {A:EK} {E:e7->g6->Prop} {s:g6}
theorem xX {cap:Nat} (S:fA cap) {m:Nat} {a:Addr} {vs:List e7} {n:Nat} {ds:List Fg} (ha:s.heap.get? a=some (NQ "list" vs.toArray n)) (Z:RdL s.heap vs ds) (hs:mn m ds) (hp:∀ d∈ds,Pl d) (hl:vs.length<=D0) (C2:vs.length<=cap) (hu:A.units+m+1 < G0) {Q:PySem.Fin->g6->Prop}
 (q:∀ (h':Heap) (out:List e7) (n':Nat),(∀ b o,b≠a->s.heap.get? b=some o->h'.get? b=some o)->h'.get? a=some (NQ "list" out.toArray n')->out.Perm vs->out.Pairwise (fun x y=>ltK (toK (G1 s.heap y)) (toK (G1 s.heap x))=false)->Q (.done (.ret .none)) { s with heap:=h' }) :
 Ee (El prog w) A (GI.«list.sort» ⟨[.ref a],[]⟩) Q E s:=by
 rw [list_sort_plain];refine b3 (Mt ha rfl ?_);refine b3 (Lw ha rfl ?_ (by simpa using hl) (by simp))
 have g1:=KA ha (fun _ => #[]);generalize C3:s.heap.update a (HY fun _ => #[])=h1 at g1;generalize (if ((#[]:Array e7).size==vs.toArray.size)=true then n else n+1)=n1 at g1
 refine b3 (Nk g1 rfl ?_);refine b3 (Jw ?_ (by simpa using hl))
 refine b3 (Lv ?_ (by simp))
 refine FO ?_;dsimp only;generalize O:({ heap:=(h1.push { cls:=Fk "tuple",data:=KQ vs.toArray.toList.toArray }).push { cls:=Fk "list",data:=KQ [].toArray },gens:=s.gens,drawn:=s.drawn,toks:=s.toks,os:=s.os }:g6)=s3;have g3:s3.heap.get? a=some (NQ "list" #[] n1):=by
  rw [<- O];exact g0 _ (g0 _ g1)
 have keep:∀ b o,b≠a->s.heap.get? b=some o->s3.heap.get? b=some o:=fun b o G J=>by
  rw [<- O, <- C3];exact g0 _ (g0 _ (by rw [Jc _ _ _ _ G];exact J))
 have keepT:∀ b o,s.heap.get? b=some o->o.cls = .type "tuple" -> s3.heap.get? b=some o:=fun b o G hc=>keep b o (fun z=>by
  rw [z,ha] at G;cases G;simp at hc) G
 have C4:RdL s3.heap vs ds:=fun v hv=>by
  obtain ⟨d,hd,as,r⟩:=Z v hv;exact ⟨d,hd,as,b9 keepT (hp d hd) r⟩
 have same:∀ v∈vs,G1 s3.heap v=G1 s.heap v:=fun v hv=>by
  obtain ⟨d,hd,as,r⟩:=Z v hv;rw [GH (hs.lay d hd).1 r,GH (hs.lay d hd).1 (b9 keepT (hp d hd) r)]
 have q:∀ (h':Heap) (out:List e7) (n':Nat),(∀ b o,b≠a->s.heap.get? b=some o->h'.get? b=some o)->h'.get? a=some (NQ "list" out.toArray n')->out.Perm vs->out.Pairwise (fun x y=>ltK (toK (G1 s.heap y)) (toK (G1 s.heap x))=false)->Q (.done (.ret .none)) { s3 with heap:=h' }:=by
  rw [<- O];exact q
 have C5:∀ A':EK,A'.units=A.units->True:=fun _ _=>trivial;clear O
 let Good:F5->Prop:=fun st'=>Gq st'=none/\(EM st').toList.Perm (vs.zip vs)/\(EM st').toList.Pairwise (fun x y=>ltK (cL s3.heap y) (cL s3.heap x)=false)
 by_cases F:vs.toArray.size < 2
 ·rw [if_pos F,if_pos F];refine b3 (gV ?_);have B:vs.length < 2:=by simpa using F
  have run:Ee (El prog w) A ((pure ():StateT F5 Sem Unit).run (IG general' (vs.toArray.zip vs.toArray) #[] 7 none)) (fun r s'=>s'=s3/\Good r.2) E s3:=by
   refine gV ⟨rfl,rfl, ?_, ?_⟩
   ·show (vs.toArray.zip vs.toArray).toList.Perm _;simp
   ·show Lx _ (vs.toArray.zip vs.toArray).toList
    match vs,B with
    | [],_=>simp
    | [x],_=>simp
  refine b3 (G7 (Q:=fun r s'=>s'=s3/\Good r.2) run (fun r s' Z => ?_) (fun _ _ z=>z));obtain ⟨rfl,L,j,U⟩:=Z;obtain ⟨u,st'⟩:=r;refine b3 (Nk g3 rfl ?_);refine b3 (Lw g3 rfl ?_ (by simp) (by simp only [Array.size_map];have:=j.length_eq;simp at this;rw [this];lia))
  dsimp only at L;rw [L];simp only [bne_self_eq_false,EV,if_false];refine gV ?_;have gq:=KA g3 (fun _=>II (fun x=>x.snd) (EM st'));have eo:II (fun x=>x.snd) (EM st')=((EM st').toList.map fun x=>x.snd).toArray:=by apply IH.mp;simp
  refine q _ ((EM st').toList.map fun x=>x.snd) _ (fun b o G J => ?_) (by rw [gq,eo]) ?_ ?_
  ·rw [Jc _ _ _ _ G];exact keep b o G J
  ·have h8:=j.map (fun x:u2=>x.snd);rw [N4 (by simp)] at h8
   exact h8
  ·rw [FN];refine U.imp_of_mem fun {x y} hx hy hxy => ?_;have mx:=Jj (j.mem_iff.mp hx);have my:=Jj (j.mem_iff.mp hy);unfold cL at hxy;rw [mx.1,my.1,same y.2 (by rw [<- my.1];exact my.2),same x.2 (by rw [<- mx.1];exact mx.2)] at hxy
   exact hxy
 ·rw [if_neg F,if_neg F];have B : 2<=vs.length:=by simpa using F
  obtain ⟨v0,Y,BY⟩:∃ v0 Y,vs=v0::Y:=by
   match vs,B with
   | v::t,_=>exact ⟨v,t,rfl⟩
  obtain ⟨kd,BZ,C0⟩:=Ba (prog:=prog) (w:=w) (A:=A) (v:=v0) (vs:=Y) (by rw [<- BY];exact C4) hs hu
  rw [<- BY] at BZ C0;refine b3 (BZ E _ ?_);have run:Ee (El prog w) A (sortRuns'.run (IG kd (vs.toArray.zip vs.toArray) #[] 7 none)) (fun r s'=>s'=s3/\Good r.2) E s3:=by
   have ez:(EM (IG kd (vs.toArray.zip vs.toArray) #[] 7 none)).toList=vs.zip vs:=by
    show (vs.toArray.zip vs.toArray).toList=_;simp
   have h9:wpS (El prog w) A E s3 sortRuns' (fun _ st'=>Good st') (IG kd (vs.toArray.zip vs.toArray) #[] 7 none):=by
    have C1:(EM (IG kd (vs.toArray.zip vs.toArray) #[] 7 none)).size=vs.length:=by rw [<- Es,ez];simp
    refine S _ _ _ _ _ _ _ _ C0 (IG kd (vs.toArray.zip vs.toArray) #[] 7 none) _ rfl rfl rfl (fun x hx => ?_) (by rw [C1];exact B) (by rw [C1];exact C2) fun st' p1 p2 p3=>⟨p3,by rw [ez] at p1;exact p1,p2⟩
    rw [ez] at hx;exact (Jj hx).2
   exact h9
  refine b3 (G7 (Q:=fun r s'=>s'=s3/\Good r.2) run (fun r s' Z => ?_) (fun _ _ z=>z));obtain ⟨rfl,L,j,U⟩:=Z;obtain ⟨u,st'⟩:=r;refine b3 (Nk g3 rfl ?_);refine b3 (Lw g3 rfl ?_ (by simp) (by simp only [Array.size_map];have:=j.length_eq;simp at this;rw [this];lia))
  dsimp only at L;rw [L];simp only [bne_self_eq_false,EV,if_false];refine gV ?_;have gq:=KA g3 (fun _=>II (fun x=>x.snd) (EM st'));have eo:II (fun x=>x.snd) (EM st')=((EM st').toList.map fun x=>x.snd).toArray:=by apply IH.mp;simp
  refine q _ ((EM st').toList.map fun x=>x.snd) _ (fun b o G J => ?_) (by rw [gq,eo]) ?_ ?_
  ·rw [Jc _ _ _ _ G];exact keep b o G J
  ·have h8:=j.map (fun x:u2=>x.snd);rw [N4 (by simp)] at h8
   exact h8
  ·rw [FN];refine U.imp_of_mem fun {x y} hx hy hxy => ?_;have mx:=Jj (j.mem_iff.mp hx);have my:=Jj (j.mem_iff.mp hy);unfold cL at hxy;rw [mx.1,my.1,same y.2 (by rw [<- my.1];exact my.2),same x.2 (by rw [<- mx.1];exact mx.2)] at hxy
   exact hxy
theorem qf (u:e7):N5 "sorted" ⟨[u],[]⟩=pure ():=by kernel_rfl
theorem sv {cap:Nat} (S:fA cap) {m:Nat} {u:e7} {ds:List Fg} {C:Heap->List e7->Prop} {Q:e7->g6->Prop} (hu:A.units+m+3 < G0) (hs:mn m ds) (F:∀ d∈ds,Pl d)
 (G:∀ (E:e7->g6->Prop) (R:List e7->g6->Prop),(∀ (h':Heap) (vs':List e7) (t':Nat),C h' vs'->RdL h' vs' ds->vs'.length<=D0/\vs'.length<=cap->s.toks<=t'->R vs' { s with heap:=h',toks:=t' })->Ee (El prog w) A.in1 (collect u) R E s)
 (q:∀ (h1 h2:Heap) (vs out:List e7) (n' t':Nat),C h1 vs->(∀ b o,h1.get? b=some o->h2.get? b=some o)->h2.get? h1.objs.size=some (NQ "list" out.toArray n')->out.Perm vs->out.Pairwise (fun x y=>ltK (toK (G1 h2 y)) (toK (G1 h2 x))=false)->RdL h2 out ds->vs.length<=D0->s.toks<=t'->Q (.ref h1.objs.size) { s with heap:=h2,toks:=t' }) :
 Ee (El prog w) A (call (.builtin "sorted") [u]) Q E s:=by
 refine NG (L6 plain_sorted entry_sorted (IU (qf u) ?_));unfold Builtin.sorted;refine b3 (IU (a:=()) (by kernel_rfl) ?_)
 refine b3 (G _ _ fun h1 vs t' hC L J ht => ?_);obtain ⟨J,O⟩:=J;refine b3 (Lv ?_ J);refine b3 (FO ?_);have U:RdL (h1.push { cls:=Fk "list",data:=KQ vs.toArray }) vs ds:=fun v B=>by
  obtain ⟨d,hd,as,r⟩:=L v B;exact ⟨d,hd,as,b9 (fun b o z _=>g0 _ z) (F d hd) r⟩
 have ha:(h1.push { cls:=Fk "list",data:=KQ vs.toArray }).get? h1.objs.size=some (NQ "list" vs.toArray 0):=D1 _ rfl;refine EG slot_list_sort (T := "list") ⟨_,ha,rfl⟩ entry_list_sort ?_ (args_list_sort _);refine xX S (m:=m) ha U hs F J O (by show A.units+1+1+m+1 < G0;lia) fun h2 out n' keep g2 j Y=>⟨_,rfl,gV ?_⟩
 have old:∀ b o,h1.get? b=some o->h2.get? b=some o:=fun b o z=>keep b o (EN (Ed z)) (g0 _ z);have Z:RdL h2 vs ds:=fun v B=>by
  obtain ⟨d,hd,as,r⟩:=L v B;exact ⟨d,hd,as,b9 (fun b o z _=>old b o z) (F d hd) r⟩
 refine q h1 h2 vs out n' t' hC old g2 j ?_ (fun v B=>Z v (j.mem_iff.mp B)) J ht;have same:∀ v∈vs,G1 (h1.push { cls:=Fk "list",data:=KQ vs.toArray }) v=G1 h2 v:=fun v B=>by
  obtain ⟨d,hd,as,r⟩:=L v B;rw [GH (hs.lay d hd).1 (b9 (fun b o z _=>old b o z) (F d hd) r),GH (hs.lay d hd).1 (b9 (fun b o z _=>g0 _ z) (F d hd) r)]
 refine Y.imp_of_mem fun {x y} hx hy hxy => ?_;rw [same y (j.mem_iff.mp hy),same x (j.mem_iff.mp hx)] at hxy;exact hxy
end
end Srt
end L2
namespace L2
namespace It
open PySem PySem.Spec PyProof.Rows
noncomputable def iO (f0:e7) (b:Bool) (d:Addr) (i n ep:Nat) (ok ov:e7):Obj := { cls := .type "dict_itemiterator",data := .fields #[f0, .bool b, .ref d, .int i 0, .int n 0, .int ep 0,ok,ov] }
theorem slot_next:Slot "dict_itemiterator" "__next__" "dict_itemiterator.__next__" := .of (owner := "dict_itemiterator") (n := "__next__") (by rw [typeLookup_type,KJ];kernel_rfl) (by decide +kernel) (by decide +kernel) (by decide +kernel) (.inl (by decide +kernel)) (by rw [L5];kernel_rfl)
theorem iD:entryFor table "dict_itemiterator.__next__" = some GI.«dict_itemiterator.__next__» := entryFor_of_tree (by kernel_rfl)
theorem jM (a:e7):LQ "dict_itemiterator.__next__" ⟨[a],[]⟩:=by unfold LQ;kernel_rfl
theorem mw:mroOf (.type "dict_itemiterator")=pure [.type "dict_itemiterator", .type "object"]:=by rw [mroOf_type];kernel_rfl
section
variable {prog:Er} {w:EH} {A:EK} {E:e7->g6->Prop} {s:g6}
theorem mz {it:Addr} (ty:s.TypeIs (.ref it) "dict_itemiterator") {types:List String} {Q:Bool->g6->Prop} (q:Q (types.any fun t => [Fk "dict_itemiterator",Fk "object"].contains (Fk t)) s):Ee (model prog w) A (JE (.ref it) types) Q E s:=by
 have hm:=mw;unfold JE
 wp_walk
 exact q
theorem nx_end {it d:Addr} {f0:e7} {b:Bool} {ep:Nat} {ok ov cd:e7} {dd:Option Addr} {sl:Array (Option e7)} {es:Array IC} {Q:Option e7->g6->Prop} (j:A.handled=none) (hi:s.heap.get? it=some (iO f0 b d es.size es.size ep ok ov)) (hd:s.heap.get? d=some { cls:=cd,dict:=dd,data := .dict es ep,slots:=sl })
 (q:∀ h',(∀ b o,b≠it->s.heap.get? b=some o->h'.get? b=some o)->Q none { s with heap:=h' }):Ee (model prog w) A (Hl (.ref it)) Q E s:=by
 have ty:s.TypeIs (.ref it) "dict_itemiterator" := ⟨_,hi,rfl⟩;unfold Hl;refine b3 (HM (ET (name:=Fe "__next__") ty slot_next (EG slot_next ty iD ?_ (jM _))));unfold GI.«dict_itemiterator.__next__»;have hm:=mw
 wp_walk
 dsimp only;rw [if_neg (by simp)]
 wp_walk
 have he:es[es.size]? = none:=Array.getElem?_eq_none (Ec _);simp only [Fh,he];refine b3 (G7 (Q:=fun n s'=>n=2/\s'=s) ?_ (fun n s' hs => ?_) fun _ _ z=>z)
 ·wp_walk
  exact ⟨by kernel_rfl,rfl⟩
 obtain ⟨rfl,rfl⟩:=hs;refine b3 (Ex hi (by simp) fun h1 F s1 => ?_)
 refine b3 (m:=newExc (.type "StopIteration") []) ?_;simp only [newExc,newTuple];refine b3 (Fs ?_ (by size_fits))
 refine b3 (m:=Jv _ _) (IU (a:=Hs) (by first | rfl | (simp only [Jv];rfl)) (Fs ?_ (by size_fits)))
 simp only [raiseNew];refine b3 (wpAny_handled ?_)
 first | rw [show A.in1.handled=none from j] | rw [j]
 refine b3 (gV (wpAny_throw ?_));exact b3 (HB (T := "StopIteration") (b:=true) ⟨_,D1 _ rfl,rfl⟩ KW (gV (q _ fun b o B e=>g0 _ (g0 _ (s1.extBut b o B e)))))
end
end It
end L2
namespace L2
namespace It
open PySem PySem.Spec PyProof.Rows
end It
end L2
namespace L2
namespace It
open PySem PySem.Spec PyProof.Rows
section
variable {prog:Er} {w:EH} {A:EK} {E:e7->g6->Prop} {s:g6}
theorem it_view {v d:Addr} {es:Array IC} {ep:Nat} {cd:e7} {dd:Option Addr} {sl:Array (Option e7)} {Q:e7->g6->Prop} (j:s.heap.get? v=some { cls := .type "dict_items",data := .fields #[.ref d] }) (hd:s.heap.get? d=some { cls:=cd,dict:=dd,data := .dict es ep,slots:=sl })
 (q:Q (.ref s.heap.objs.size) { s with heap:=s.heap.push (iO .none false d 0 es.size ep .none .none) }):Ee (model prog w) A (Ke (.ref v)) Q E s:=by
 have ty:s.TypeIs (.ref v) "dict_items" := ⟨_,j,rfl⟩;refine Mv ty Km (EG Km ty F.entry_dict_items_iter ?_ (F.args_dict_items_iter_1 _));unfold GI.«dict_items.__iter__»
 wp_walk
 exact ⟨_,rfl, "dict_itemiterator",_,⟨_,D1 _ rfl,rfl⟩,slot_next.lookup,q⟩
end
end It
end L2
namespace L2
open PySem PySem.Spec PyProof.Rows
section
section
variable {P:Er} {w:EH} {H:Hp} {h:Heap} {a:Addr} {o:HO}
theorem ObjOk.there (x:ObjOk P w H h a o):∃ ob,h.get? a=some ob:=by
 cases o with
 | lst xs=>obtain ⟨_,_,_,_,e⟩:=x;exact ⟨_,e⟩
 | tup xs=>obtain ⟨_,_,_,_,e,_⟩:=x;exact ⟨_,e⟩
 | dK kvs=>obtain ⟨_,_,_,_,o,_,_,e,_⟩:=x;exact ⟨_,e⟩
 | dT kvs=>obtain ⟨_,_,_,_,o,_,_,e,_⟩:=x;exact ⟨_,e⟩
 | set S n=>obtain ⟨o,_,_,_,e,_⟩:=x;exact ⟨_,e⟩
 | ins C dx fs=>obtain ⟨_,_,_,e,_⟩:=x;exact ⟨_,e⟩
 | own y=>obtain ⟨_,e⟩:=x;exact ⟨_,e⟩
 | xd fs=>obtain ⟨_,⟨_,_,_,e,_⟩,_⟩:=x;exact ⟨_,e⟩
 | rng lo hi=>obtain ⟨_,_,_,e⟩:=x;exact ⟨_,e⟩
 | frz ob u=>obtain ⟨e,_⟩:=x;exact ⟨_,e⟩
 | tbl ps=>exact ⟨_,show h.get? a=some _ from x⟩
 | met f y=>exact ⟨_,show h.get? a=some _ from x⟩
 | ext φ => obtain ⟨_,⟨_,e⟩,_⟩:=x;exact ⟨_,e⟩
end
noncomputable def lay (H:Hp) (N:Addr->Option HO):Hp:=fun b=>match N b with | some o=>some o | none=>H b
section
variable {X:Cx} {pins:List (Addr×Obj)} {σ:List (Option V)} {H:Hp} {s:g6} {h':Heap} {N:Addr->Option HO}
theorem xY {b:Addr} {o:HO} (e:N b=some o):lay H N b=some o:=by unfold lay;rw [e]
theorem j8 {b:Addr} (e:N b=none):lay H N b=H b:=by unfold lay;rw [e]
theorem Inv.fresh' (I:Inv X pins σ H s) {b:Addr} (e:s.heap.get? b=none):H b=none:=by
 cases q:H b with
 | none=>rfl
 | some o=>obtain ⟨ob,eo⟩:=(I.hok b o q).there;rw [e] at eo;cases eo
theorem Inv.laidN {t':Nat} (I:Inv X pins σ H s) (k:∀ b u,s.heap.get? b=some u->h'.get? b=some u) (j:∀ b o,N b=some o->s.heap.get? b=none) (new:∀ b o,N b=some o->ObjOk X.prog X.w (lay H N) h' b o):Inv X pins σ (lay H N) { s with heap:=h',toks:=t' }:=by
 have old:∀ b u,s.heap.get? b=some u->N b=none:=fun b u e=>by
  cases q:N b with
  | none=>rfl
  | some o=>rw [j b o q] at e;cases e
 have oldH:∀ b o,H b=some o->lay H N b=some o:=fun b o e=>by
  obtain ⟨ob,eo⟩:=(I.hok b o e).there;rw [j8 (old b ob eo)];exact e
 refine I.un ⟨fun b u q _ _ _=>k b u q,fun b u q _ _ _=>⟨u.slots,k b u q⟩,fun b u q n _=>by rw [j8 (old b u q)];exact n,fun b u q _=>⟨u,k b u q⟩,fun b xs q=>oldH b _ q,fun b u xs q=>oldH b _ q,fun b ps q=>⟨#[],by rw [oldH b _ q];simp⟩⟩ fun b o e => ?_
 cases q:N b with
 | some o'=>rw [xY q] at e;cases e;exact new b o q
 | none =>
   rw [j8 q] at e;exact (I.hok b o e).stay (fun c v _ q=>k c v q) (fun c q=>oldH c _ q) fun c xs q=>oldH c _ q
end
namespace Mi
open L2.Srt
inductive Sh where
 | int
 | tup (l:List Sh)
mutual
noncomputable def hs:Sh->D->Bool
 | .int, .int _=>true
 | .tup l, .tup ds=>hss l ds
 | _,_=>false
noncomputable def hss:List Sh->List D->Bool
 | [],[] => true
 | s::l,d::ds=>hs s d&&hss l ds
 | _,_=>false
end
mutual
noncomputable def pd:D->Fg
 | .int i => .int i
 | .tup ds => .tuple (pds ds)
 | _ => .none
noncomputable def pds:List D->List Fg
 | [] => []
 | d::ds=>pd d::pds ds
end
mutual
noncomputable def dep:Sh->Nat
 | .int => 0
 | .tup l=>deps l+1
noncomputable def deps:List Sh->Nat
 | [] => 0
 | s::l=>max (dep s) (deps l)
end
noncomputable def j9:Sh->Bool
 | .int=>true
 | .tup (.int::l)=>decide (deps l<=6)
 | .tup (.tup a::l)=>decide (deps (.tup a::l)<=6)
 | .tup [] => false
noncomputable def kyD (d:D):Ky:=toK (pd d)
mutual
theorem sx:∀ (s:Sh) (x y:D),hs s x=true->hs s y=true->Cmpb (pd x) (pd y)
 | .int, .int a, .int b,_,_=>by simp only [pd];exact .int a b
 | .tup l, .tup a, .tup b,h,g=>by simp only [hs] at h g;simp only [pd];exact hss_cmp l a b h g
 | .int, .int _, .non,_,g=>by simp [hs] at g
 | .int, .int _, .bl _,_,g=>by simp [hs] at g
 | .int, .int _, .str _,_,g=>by simp [hs] at g
 | .int, .int _, .tup _,_,g=>by simp [hs] at g
 | .int, .int _, .con _,_,g=>by simp [hs] at g
 | .int, .int _, .ref _,_,g=>by simp [hs] at g
 | .int, .non,_,h,_=>by simp [hs] at h
 | .int, .bl _,_,h,_=>by simp [hs] at h
 | .int, .str _,_,h,_=>by simp [hs] at h
 | .int, .tup _,_,h,_=>by simp [hs] at h
 | .int, .con _,_,h,_=>by simp [hs] at h
 | .int, .ref _,_,h,_=>by simp [hs] at h
 | .tup _, .non,_,h,_=>by simp [hs] at h
 | .tup _, .bl _,_,h,_=>by simp [hs] at h
 | .tup _, .int _,_,h,_=>by simp [hs] at h
 | .tup _, .str _,_,h,_=>by simp [hs] at h
 | .tup _, .con _,_,h,_=>by simp [hs] at h
 | .tup _, .ref _,_,h,_=>by simp [hs] at h
 | .tup _, .tup _, .non,_,g=>by simp [hs] at g
 | .tup _, .tup _, .bl _,_,g=>by simp [hs] at g
 | .tup _, .tup _, .int _,_,g=>by simp [hs] at g
 | .tup _, .tup _, .str _,_,g=>by simp [hs] at g
 | .tup _, .tup _, .con _,_,g=>by simp [hs] at g
 | .tup _, .tup _, .ref _,_,g=>by simp [hs] at g
theorem hss_cmp:∀ (l:List Sh) (a b:List D),hss l a=true->hss l b=true->Cmpb (.tuple (pds a)) (.tuple (pds b))
 | [],[],[],_,_=>by simp only [pds];exact .nil _
 | [],[],_::_,_,g=>by simp [hss] at g
 | [],_::_,_,h,_=>by simp [hss] at h
 | _::_,[],_,h,_=>by simp [hss] at h
 | _::_,_::_,[],_,g=>by simp [hss] at g
 | s::l,x::a,y::b,h,g=>by
   simp only [hss,g8] at h g;simp only [pds];exact .cons (sx s x y h.1 g.1) (hss_cmp l a b h.2 g.2)
end
mutual
theorem qg:∀ (s:Sh) (x:D),hs s x=true->Pl (pd x)/\(pd x).canLay0=true/\(pd x).depth<=dep s
 | .int, .int a,_=>by simp only [pd];exact ⟨.int a,rfl,by simp [FF]⟩
 | .tup l, .tup a,h=>by
  simp only [hs] at h;obtain ⟨h1,h2,j⟩:=hss_pl l a h;simp only [pd];exact ⟨.tup _ h1,by simpa [Hw] using h2,by simp [FF,dep];lia⟩
 | .int, .non,h=>by simp [hs] at h
 | .int, .bl _,h=>by simp [hs] at h
 | .int, .str _,h=>by simp [hs] at h
 | .int, .tup _,h=>by simp [hs] at h
 | .int, .con _,h=>by simp [hs] at h
 | .int, .ref _,h=>by simp [hs] at h
 | .tup _, .non,h=>by simp [hs] at h
 | .tup _, .bl _,h=>by simp [hs] at h
 | .tup _, .int _,h=>by simp [hs] at h
 | .tup _, .str _,h=>by simp [hs] at h
 | .tup _, .con _,h=>by simp [hs] at h
 | .tup _, .ref _,h=>by simp [hs] at h
theorem hss_pl:∀ (l:List Sh) (a:List D),hss l a=true->(∀ x∈pds a,Pl x)/\EU (pds a)=true/\F9 (pds a)<=deps l
 | [],[],_=>by simp [pds,EU,F9]
 | [],_::_,h=>by simp [hss] at h
 | _::_,[],h=>by simp [hss] at h
 | s::l,x::a,h=>by
   simp only [hss,g8] at h;obtain ⟨h1,h2,q⟩:=qg s x h.1;obtain ⟨g1,g2,g3⟩:=hss_pl l a h.2;simp only [pds];refine ⟨fun y j => ?_,by simp [EU,h2,g2],by simp [F9,deps];lia⟩
   rcases Eb.mp j with z | z
   ·rw [z];exact h1
   ·exact g1 y z
end
mutual
theorem wt (M:Mem):∀ (s:Sh) (x:D) (n:Nat),hs s x=true->dep s<=n->rb n M x=some (pd x)
 | .int, .int a,n,_,_=>by cases n <;> simp [rb,pd]
 | .tup l, .tup a,n,h,j=>by
  simp only [hs] at h;simp only [dep] at j;obtain ⟨k,rfl⟩:∃ k,n=k+1:=⟨n - 1,by lia⟩
  simp only [rb,pd];rw [hss_rb M l a k h (by lia)];rfl
 | .int, .non,_,h,_=>by simp [hs] at h
 | .int, .bl _,_,h,_=>by simp [hs] at h
 | .int, .str _,_,h,_=>by simp [hs] at h
 | .int, .tup _,_,h,_=>by simp [hs] at h
 | .int, .con _,_,h,_=>by simp [hs] at h
 | .int, .ref _,_,h,_=>by simp [hs] at h
 | .tup _, .non,_,h,_=>by simp [hs] at h
 | .tup _, .bl _,_,h,_=>by simp [hs] at h
 | .tup _, .int _,_,h,_=>by simp [hs] at h
 | .tup _, .str _,_,h,_=>by simp [hs] at h
 | .tup _, .con _,_,h,_=>by simp [hs] at h
 | .tup _, .ref _,_,h,_=>by simp [hs] at h
theorem hss_rb (M:Mem):∀ (l:List Sh) (a:List D) (n:Nat),hss l a=true->deps l<=n->az (rb n M) a=some (pds a)
 | [],[],_,_,_=>by simp [pds,az]
 | [],_::_,_,h,_=>by simp [hss] at h
 | _::_,[],_,h,_=>by simp [hss] at h
 | s::l,x::a,n,h,j=>by
   simp only [hss,g8] at h;simp only [deps] at j;simp only [pds,az];rw [wt M s x n h.1 (by lia),hss_rb M l a n h.2 (by lia)];rfl
end
theorem mC {s:Sh} (h:j9 s=true):dep s<=7:=by
 match s,h with
 | .int,_=>simp [dep]
 | .tup (.int::l),h=>simp [j9] at h;simp [dep,deps];lia
 | .tup (.tup a::l),h=>simp only [j9,decide_eq_true_eq] at h;simp only [dep];lia
theorem xZ {s:Sh} (h:j9 s=true) {xs:List D} (hx:∀ x∈xs,hs s x=true):mn 7 (xs.map pd) /\ ∀ d∈xs.map pd,Pl d:=by
 refine ⟨⟨?_, ?_, ?_⟩, ?_⟩
 ·intro d hd e he;obtain ⟨x,h1,rfl⟩:=EA.mp hd;obtain ⟨y,h2,rfl⟩:=EA.mp he;exact sx s x y (hx x h1) (hx y h2)
 ·intro d hd;obtain ⟨x,h1,rfl⟩:=EA.mp hd;obtain ⟨_,g2,g3⟩:=qg s x (hx x h1);exact ⟨g2,by have:=mC h;lia⟩
 ·match s,h with
  | .int,_ =>
   left
   intro d hd;obtain ⟨x,h1,rfl⟩:=EA.mp hd;have:=hx x h1
   cases x <;> simp [hs] at this
   exact ⟨_,rfl⟩
  | .tup (.int::l),_ =>
   right;left
   intro d hd;obtain ⟨x,h1,rfl⟩:=EA.mp hd;have:=hx x h1
   cases x <;> simp [hs] at this
   rename_i ds
   cases ds with
   | nil=>simp [hss] at this
   | cons y ys =>
     simp [hss] at this
     cases y <;> simp [hs] at this
     exact ⟨_,_,rfl⟩
  | .tup (.tup a::l),_ =>
   right;right
   intro d hd;obtain ⟨x,h1,rfl⟩:=EA.mp hd;have:=hx x h1
   cases x <;> simp [hs] at this
   rename_i ds
   cases ds with
   | nil=>simp [hss] at this
   | cons y ys =>
     simp [hss] at this
     cases y <;> simp [hs] at this
     exact ⟨_,_,rfl⟩
 ·intro d hd;obtain ⟨x,h1,rfl⟩:=EA.mp hd;exact (qg s x (hx x h1)).1
theorem sy {α β:Type} (f : α -> β):∀ {l m:List β},l.Perm m -> ∀ {t:List α},t.map f=m -> ∃ t':List α,t'.Perm t/\t'.map f=l:=by
 intro l m h
 induction h with
 | nil=>intro t e;exact ⟨[],by rw [Lo.mp e],rfl⟩
 | cons x h ih =>
   intro t e
   cases t with
   | nil=>simp at e
   | cons a t =>
     simp at e;obtain ⟨t',h1,h2⟩:=ih e.2;exact ⟨a::t',h1.cons a,by simp [h2,e.1]⟩
 | swap x y l =>
   intro t e
   match t,e with
   | a::b::t,e =>
     simp at e;exact ⟨b::a::t, .swap _ _ _,by simp [e]⟩
 | trans h1 h2 j q =>
   intro t e;obtain ⟨G,p2,z⟩:=q e;obtain ⟨t1,B,F⟩:=j z;exact ⟨t1,B.trans p2,F⟩
def gy (ys:List D):Prop:=ys.Pairwise fun a b=>ltK (kyD b) (kyD a)=false
noncomputable def ja:RAd:=fun ds M Q => ∃ x xs sh,ds=[x]/\aq M x=some xs/\j9 sh=true/\(∀ d∈xs,hs sh d=true) /\ ∀ p ys,M p=none->ys.Perm xs->gy ys->Q (.ref p) (af M p (.lst ys))
theorem fW:aR ja:=fun _ _ _ _ h ⟨x,xs,sh,e,l,o,a,q⟩=>⟨x,xs,sh,e,l,o,a,fun p ys n j hs=>h _ _ (q p ys n j hs)⟩
theorem oC {K:Frag} {H:Hp}:∀ {ds:List D} {vs:List V} {us:List e7},RDs K H ds vs->Vals vs us -> ∃ t:List (D×V×e7),t.map (·.1)=ds/\t.map (·.2.1)=vs/\t.map (·.2.2)=us /\ ∀ p∈t,RD K H p.1 p.2.1/\RelV p.2.1 p.2.2
 | [],vs,us,h,g=>by
  cases RDs.nil_iff.mp h
  cases g
  exact ⟨[],rfl,rfl,rfl,fun _ h=>by simp at h⟩
 | d::ds,vs,us,h,g=>by
   obtain ⟨v,r,rfl,h1,h2⟩:=Oa.mp h
   cases g with
   | cons g1 g2 =>
     rename_i u us;obtain ⟨t,j,q,B,F⟩:=oC h2 g2;exact ⟨(d,v,u)::t,by simp [j],by simp [q],by simp [B],fun p G=>by
      rcases Eb.mp G with z | z
      ·rw [z];exact ⟨h1,g1⟩
      ·exact F p z⟩
theorem oD {K:Frag} {H:Hp}:∀ {t:List (D×V×e7)},(∀ p∈t,RD K H p.1 p.2.1/\RelV p.2.1 p.2.2)->RDs K H (t.map (·.1)) (t.map (·.2.1))/\Vals (t.map (·.2.1)) (t.map (·.2.2))
 | [],_=>⟨RDs.nil, .nil⟩
 | p::t,h=>by
   obtain ⟨h1,h2⟩:=oD (t:=t) fun q j=>h q (by simp [j])
   exact ⟨RDs.cons (h p (by simp)).1 h1, .cons (h p (by simp)).2 h2⟩
section
variable {X:Cx}
theorem fX {cap:Nat} (S:fA cap) (L:X.A.units+16 < G0) {pins:List (Addr×Obj)} {s:g6} {σ:St} {H:Hp} {Q:VK} (I:Inv X pins σ H s) {M:Mem} (rm:RM X.K M H) {es:List D} {sh:Sh} {vs:List V} {p:Addr} (rvs:RDs X.K H es vs) (hok:j9 sh=true) (O:∀ d∈es,hs sh d=true)
 (q:∀ p ys,M p=none->ys.Perm es->gy ys->KE' X.K M H Q (.ref p) (af M p (.lst ys))) {its:List e7} (hv:Vals vs its) (hl:vs.length<=D0) (C0:vs.length<=cap)
 (U:∀ (E:e7->g6->Prop) (R:List e7->g6->Prop),(∀ (h':Heap) (tk:Nat),(∀ b o,s.heap.get? b=some o->h'.get? b=some o)->s.toks<=tk->R its { s with heap:=h',toks:=tk })->Ee (El X.prog X.w) X.A.in1 (collect (.ref p)) R E s) :
 Ee (El X.prog X.w) X.A (call (.builtin "sorted") [.ref p]) (EP X pins σ Q) X.xe s:=by
 obtain ⟨hS,J⟩:=xZ hok O;have C3:=mC hok;obtain ⟨t,t1,t2,t3,t4⟩:=oC rvs hv;have Y:∀ pp∈t, ∃ as,HN s.heap pp.2.2 (pd pp.1) as:=fun pp j=>by
  have hm:pp.1∈es:=by rw [<- t1];exact FJ j
  exact br I rm 16 pp.1 (pd pp.1) pp.2.1 pp.2.2 (wt M sh pp.1 16 (O _ hm) (by lia)) (t4 pp j).1 (t4 pp j).2
 have Z:RdL s.heap its (es.map pd):=fun u L=>by
  rw [<- t3] at L;obtain ⟨pp,j,rfl⟩:=EA.mp L;obtain ⟨as,ra⟩:=Y pp j;exact ⟨pd pp.1,FJ (by rw [<- t1];exact FJ j),as,ra⟩
 refine sv S (m := 7) (ds:=es.map pd) (C:=fun h' vs'=>vs'=its /\ ∀ b o,s.heap.get? b=some o->h'.get? b=some o) (by lia) hS J (fun E R hR => ?_) fun h1 h2 vs' out n' tk hC old g2 F BY C4 C5 ht => ?_
 ·refine U E R fun h' tk kp C1=>hR h' its tk ⟨rfl,kp⟩ (fun u L => ?_) ⟨by rw [<- hv.length];exact hl,by rw [<- hv.length];exact C0⟩ C1
  obtain ⟨d,hd,as,ra⟩:=Z u L;exact ⟨d,hd,as,b9 (fun b o e _=>kp b o e) (J d hd) ra⟩
 ·obtain ⟨rfl,kp⟩:=hC;rw [<- t3] at F;obtain ⟨t',p1,p2⟩:=sy (fun pp:D×V×e7=>pp.2.2) F rfl;have hz:=oD (t:=t') fun pp j=>t4 pp (p1.mem_iff.mp j);have BZ:∀ b o,s.heap.get? b=some o->h2.get? b=some o:=fun b o e=>old b o (kp b o e);have z:s.heap.get? h1.objs.size=none:=by
   cases hq:s.heap.get? h1.objs.size with
   | none=>rfl
   | some o=>exact absurd (Ed (kp _ _ hq)) (Fn _)
  have C2:=I.fresh' z;have hlen:(t'.map (·.2.1)).length<=D0:=by
   rw [Eg,p1.length_eq, <- Eg (f:=fun pp:D×V×e7=>pp.2.1),t2];exact hl
  have I2:=I.laidN (t':=tk) (h':=h2) (N:=fun b=>if b=h1.objs.size then some (.lst (t'.map (·.2.1))) else none) BZ (fun b o e=>by
   by_cases B:b=h1.objs.size
   ·rw [B];exact z
   ·rw [if_neg B] at e;cases e) (fun b o e=>by
   by_cases B:b=h1.objs.size
   ·subst B;rw [if_pos rfl] at e;cases e;exact ⟨hlen,out,n',by rw [<- p2];exact hz.2,g2⟩
   ·rw [if_neg B] at e;cases e)
  have eH:lay H (fun b=>if b=h1.objs.size then some (.lst (t'.map (·.2.1))) else none)=upd H h1.objs.size (.lst (t'.map (·.2.1))):=by
   funext b
   unfold lay upd;dsimp only
   by_cases B:b=h1.objs.size
   ·rw [if_pos B,if_pos B]
   ·rw [if_neg B,if_neg B]
  rw [eH] at I2;refine ⟨.ref h1.objs.size,_,I2,rfl, ?_⟩;refine bQ rm hz.1 (fun p' n=>q p' _ n ?_ ?_) C2
  ·have:=p1.map (fun pp:D×V×e7=>pp.1);rw [t1] at this;exact this
  ·unfold gy;rw [FN];rw [<- p2,FN] at BY;refine BY.imp_of_mem fun {a b} ha B hab => ?_;have rd:∀ pp∈t',G1 h2 pp.2.2=pd pp.1:=fun pp j=>by
    have G:=p1.mem_iff.mp j;obtain ⟨as,ra⟩:=Y pp G;have hm:pp.1∈es:=by rw [<- t1];exact FJ G
    exact GH (hS.lay _ (FJ hm)).1 (b9 (fun b o e _=>BZ b o e) (J _ (FJ hm)) ra)
   rw [rd a ha,rd b B] at hab;exact hab
theorem kc (G:X.A.units+16 < G0):CallR X (.builtin "sorted") (lR X.K ja):=by
 intro pins s σ H xs us Q I r h;obtain ⟨ds,M,rm,rs,x,es,sh,rfl,j,hok,z,q⟩:=h;obtain ⟨v,rfl,rv⟩:=rs.one;obtain ⟨u,rfl,ru⟩:=cr r;obtain ⟨p,vs,rfl,sq,rvs⟩:=kZ rm rv j
 cases ru
 rcases sq with sq | sq
 ·obtain ⟨its,r',pl,hz⟩:=I.list sq;have hlen:=r'.length;obtain ⟨o,ho,B,n,hd⟩:=pl.isList;exact fX iA G I rm rvs hok z q r' hz hz fun E R F=>Mw p (.inl rfl) ho B hd (fun h' kp=>F h' s.toks kp (Ec _)) (by simp only [E9] <;> lia)
 ·obtain ⟨its,r',pl,hz⟩:=I.tuple sq;have hlen:=r'.length;obtain ⟨o,ho,B,n,hd⟩:=pl;exact fX iA G I rm rvs hok z q r' hz hz fun E R F=>Mw p (.inr rfl) ho B hd (fun h' kp=>F h' s.toks kp (Ec _)) (by simp only [E9] <;> lia)
end
end Mi
end
end L2
namespace L2
namespace Mi
open PySem PySem.Spec PyProof.Rows L2.Srt
section
variable {X:Cx}
theorem sB {d:Addr} {Q:e7->g6->Prop} {A:EK} {E:e7->g6->Prop} {s:g6} {cd:e7} {dd:Option Addr} {sl:Array (Option e7)} {es:Array IC} {ep:Nat} {prog:Er} {w:EH} (ty:s.TypeIs (.ref d) "dict") (z:(d==G6)=false) (hd:s.heap.get? d=some { cls:=cd,dict:=dd,data := .dict es ep,slots:=sl })
 (q:Q (.ref s.heap.objs.size) { s with heap:=s.heap.push { cls := .type "dict_items",data := .fields #[.ref d] } }):Ee (model prog w) A (call (.builtin "dict.items") [.ref d]) Q E s:=by
 have j:cd = .type "dict" := by
  obtain ⟨o,h1,h2⟩:=ty;rw [hd] at h1;cases h1;exact h2
 subst j;refine EG Mx ty F.entry_dict_items ?_ (F.args_dict_items_1 _);unfold GI.«dict.items»
 wp_walk
 exact ⟨_,rfl,q⟩
end
end Mi
end L2
namespace L2
open PySem PySem.Spec PyProof.Rows
namespace Mi
end Mi
end L2
namespace L2
open PySem PySem.Spec PyProof.Rows
section
noncomputable def cv {α:Type} (xs:List α) (c p:Nat):List α := (ED ((xs.length - c+p - 1) / p)).filterMap fun k=>xs[c+p*k]?
theorem jb (its:List e7) (c p:Nat) (B : 0 < p):MN its.toArray (some (c:Int)) none (some (p:Int))=(cv its c p).toArray:=by
 have j:(G3 (some (c:Int)) none (some (p:Int)) its.toArray.size).fst=((min c its.length:Nat):Int):=by
  simp only [G3,K8,E9];rw [if_neg (show ¬ ((c:Int) < 0) by lia),if_pos (show (p:Int) > 0 by lia)];lia
 have q:(G3 (some (c:Int)) none (some (p:Int)) its.toArray.size).snd.fst=(its.length:Int):=by
  simp only [G3,K8,E9];rw [if_pos (by lia)]
 have z:(G3 (some (c:Int)) none (some (p:Int)) its.toArray.size).snd.snd=(p:Int):=by
  simp only [G3,K8]
 unfold MN;rw [j,q,z];congr 1;simp only [sliceRange,cv];rw [if_pos (by lia),LH]
 by_cases h:c < its.length
 ·rw [if_pos (by lia),Gn (by lia)]
  have ec:(((its.length:Int) - (c:Nat)+p - 1) / p).toNat=(its.length - c+p - 1) / p:=by
   rw [show ((its.length:Int) - (c:Nat)+p - 1)=((its.length - c+p - 1:Nat):Int) by lia, <- Int.natCast_ediv,Fh]
  rw [ec];congr 1
  funext k
  show its.toArray[((c:Int)+p*k).toNat]? = its[c+p*k]?;rw [show ((c:Int)+(p:Int)*(k:Int)).toNat=c+p*k by rw [<- Nv];lia]
  simp
 ·rw [if_neg (by lia)]
  have ec:(its.length - c+p - 1) / p=0:=by rw [show its.length - c+p - 1=p - 1 by lia];exact N6 (by lia)
  rw [ec];rfl
theorem mD {α:Type} (xs:List α) (c p:Nat) (j : 0 < p):(cv xs c p).length<=xs.length:=by
 unfold cv;refine Fb (List.length_filterMap_le _ _) ?_;rw [Hr]
 by_cases h:c < xs.length
 ·refine Fb (Nat.div_le_of_le_mul ?_) (Ec _);have:xs.length<=p*xs.length:=Nat.le_mul_of_pos_left _ j;have h2:p<=p*xs.length:=K9 _ (by lia)
  have z:(xs.length - c)+(p - 1)<=p*xs.length:=by
   obtain ⟨q,rfl⟩:∃ q,p=q+1:=⟨p - 1,by lia⟩
   rw [Mh];have:q<=q*xs.length:=K9 _ (by lia)
   lia
  lia
 ·rw [show xs.length - c+p - 1=p - 1 by lia,N6 (by lia)];lia
theorem Vals.pick {xs:List V} {us:List e7} (r:Vals xs us) (f:Nat->Nat):∀ ks:List Nat,Vals (ks.filterMap fun k=>xs[f k]?) (ks.filterMap fun k=>us[f k]?)
 | [] => .nil
 | k::ks=>by
   cases e:xs[f k]? with
   | none =>
     have j:us[f k]? = none:=by rw [JI] at e ⊢;rw [<- r.length];exact e
     rw [GP (f:=fun k=>xs[f k]?) (a:=k) e,GP (f:=fun k=>us[f k]?) (a:=k) j];exact Vals.pick r f ks
   | some x =>
     obtain ⟨u,j,rx⟩:=r.get e;rw [GQ (f:=fun k=>xs[f k]?) (a:=k) e,GQ (f:=fun k=>us[f k]?) (a:=k) j];exact .cons rx (Vals.pick r f ks)
section
variable {X:Cx}
noncomputable def Bb (K:Frag) (te:TE) (tl ts:TO):TE:=fun σ H Q=>te σ H fun x H1=>tl σ H1 fun l H2=>ts σ H2 fun st H3 => ∃ a xs, ∃ c p:Nat,x = .ref a/\SqL K H3 a xs/\l=some (c:Int)/\st=some (p:Int)/\0 < p /\ ∀ q,H3 q=none->Q (.ref q) (upd H3 q (.lst (cv xs c p)))
theorem ya {e:Expr} {lo:Option Expr} {st:Expr} {te:TE} {tl ts:TO} {p2 pos:Pos} (he:PE X e te) (G:PO X lo tl) (hs:PO X (some st) ts):PE X (.Subscript e (.Slice lo none (some st) p2) pos) (Bb X.K te tl ts):=by
 intro pins s σ H Q I h;refine NJ (thn (he pins s σ H _ I h) fun v s1 ⟨x,H1,J,L,O⟩ => ?_);refine wpAny_Slice (thn (G pins s1 σ H1 _ J O) fun vl s2 ⟨l,H2,U,pl,Y⟩ => ?_);rw [Ls];refine gV (thn (hs pins s2 σ H2 _ U Y) fun vs s3 ⟨u,Z,I3,ps,q3⟩ => ?_);have j:Inv X pins σ Z { s3 with heap:=s3.heap.push { cls := .type "slice",data := .fields #[vl, .none,vs] } }:=I3.kept (t':=s3.toks) fun b ob q=>g0 _ q
 obtain ⟨a,xs,c,p,rfl,sq,rfl,rfl,B,q⟩:=q3
 cases L
 obtain ⟨its,r,F,hz⟩:=j.list sq;have hlen:=r.length;show Ee (model X.prog X.w) X.A (Lu e (.Slice lo none (some st) p2) (.ref a) (.ref s3.heap.objs.size)) (EP X pins σ Q) X.xe { s3 with heap:=s3.heap.push { cls := .type "slice",data := .fields #[vl, .none,vs] } }
 refine NL (ops := [.ref a, .ref s3.heap.objs.size]) F.isList.typeIs slot_list_getitem.lookup ?_ (by with_unfolding_all rfl)
 refine JR F.isList (LJ ..) pl .none ps (by intro z;have:=FL.inj z;lia) ?_ (by rw [E9] <;> lia)
 rw [jb _ _ _ B];refine ⟨.ref _,_,j.laid (t':=s3.toks) (o := .lst (cv xs c p)) (fun b ob q=>g0 _ q) (Ec _) ?_,rfl,q _ (j.hok.fresh (Ec _))⟩;refine ⟨Fb (mD xs c p B) hz,_,0, ?_,D1 _ rfl⟩;unfold cv;rw [hlen];exact r.pick (fun k=>c+p*k) _
end
namespace Mi
section
variable {X:Cx}
theorem RDs.pick {K:Frag} {H:Hp} {ds:List D} {vs:List V} (r:RDs K H ds vs) (f:Nat->Nat):∀ ks:List Nat,RDs K H (ks.filterMap fun k=>ds[f k]?) (ks.filterMap fun k=>vs[f k]?)
 | [] => .nil
 | k::ks=>by
   cases e:vs[f k]? with
   | none =>
     have j:ds[f k]? = none:=by rw [JI] at e ⊢;rw [<- r.length];exact e
     rw [GP (f:=fun k=>vs[f k]?) (a:=k) e,GP (f:=fun k=>ds[f k]?) (a:=k) j];exact RDs.pick r f ks
   | some x =>
     obtain ⟨u,j,rx⟩:=r.getV e;rw [GQ (f:=fun k=>vs[f k]?) (a:=k) e,GQ (f:=fun k=>ds[f k]?) (a:=k) j];exact .cons rx (RDs.pick r f ks)
noncomputable def iE (te:TEd) (tl ts:TOd):TEd:=fun ρ M Q=>te ρ M fun x M1=>tl ρ M1 fun l M2=>ts ρ M2 fun u M3 => ∃ a ds, ∃ c p:Nat,x = .ref a/\M3 a=some (.lst ds)/\l=some (c:Int)/\u=some (p:Int)/\0 < p /\ ∀ q,M3 q=none->Q (.ref q) (af M3 q (.lst (cv ds c p)))
theorem sC {ta:TEd} {tl th:TOd} (m:ab ta) (ml:bX tl) (mh:bX th):ab (iE ta tl th):=fun ρ M Q Q' i q =>
 m _ _ _ _ (fun x U j=>ml _ _ _ _ (fun l M2 z=>mh _ _ _ _ (fun u Y ⟨a,ds,c,p,B,F,G,J,L,O⟩=>⟨a,ds,c,p,B,F,G,J,L,fun p n=>i _ _ (O p n)⟩) z) j) q
theorem yb {e:Expr} {ta:TEd} {lo:Option Expr} {hi:Expr} {tl th:TOd} {p2 pos:Pos} (m:ab ta) (ml:bX tl) (mh:bX th) (he:PE X e (lE X.K ta)) (Z:PO X lo (lO X.K tl)) (hu:PO X (some hi) (lO X.K th)) :
 PE X (.Subscript e (.Slice lo none (some hi) p2) pos) (lE X.K (iE ta tl th)):=by
 refine PE.imp (ya he Z hu) fun σ H Q h => ?_;obtain ⟨ρ,M,rs,rm,q⟩:=h;refine ⟨ρ,M,rs,rm,m _ _ _ _ (fun x M1 q1 v H1 F j G => ?_) q⟩;refine ⟨ρ,M1,rs.mono (F.stab rm),j,ml _ _ _ _ (fun l M2 q2 H2 J z => ?_) q1⟩;refine ⟨ρ,M2,(rs.mono (F.stab rm)).mono (J.stab j),z,mh _ _ _ _ (fun u M3 L H3 Y B => ?_) q2⟩;have O:=F.trans (J.trans Y);have U:=(G.mono (J.stab j)).mono (Y.stab z);obtain ⟨a,ds,c,p,rfl,e,rfl,rfl,hp,L⟩:=L
 cases O8.mp U
 obtain ⟨vs,ha,r⟩:=B _ _ e;refine ⟨a,vs,c,p,rfl,SqL.of ha,rfl,rfl,hp,fun p' n=>bQ B (ds:=cv ds c p) ?_ (fun p' n'=>(L p' n').ext O) n⟩;unfold cv;rw [<- r.length];exact r.pick (fun k=>c+p*k) _
end
end Mi
end
end L2
namespace L2
open PySem PySem.Spec PyProof.Rows
namespace Mi
end Mi
end L2
namespace L2
open PySem PySem.Spec PyProof.Rows
end L2
namespace L2
namespace Mi
open PySem PySem.Spec PyProof.Rows
end Mi
end L2
namespace L2
namespace Dk
open PySem PySem.Spec PyProof.Rows
end Dk
end L2
namespace L2
namespace Mi
open PySem PySem.Spec PyProof.Rows L2.Srt
end Mi
end L2
namespace L2
open PySem PySem.Spec PyProof.Rows
section
section
variable {X:Cx} {pins:List (Addr×Obj)} {σ:St} {H:Hp} {s:g6}
theorem yc {x:V} {u:e7} {t:String} (I:Inv X pins σ H s) (rx:RelV x u) (ty:bF X.K H x (.type t)):∃ P,PySem.W.KitX X.K u (.type t) P/\P s.heap/\u≠Value.builtin "__main__.__loader__#opaque" := by
 generalize j:Fk t=T at ty
 cases ty with
 | non=>cases (show u=Hs from rx);exact ⟨_,LZ,Fv,fun z=>nomatch z⟩
 | bl y=>cases (show u=Jl y from rx);exact ⟨_,Ma,Fv,fun z=>nomatch z⟩
 | int i=>obtain ⟨t,rfl⟩:=(show ∃ t,u=Iw i t from rx);exact ⟨_,MJ,Fv,fun z=>nomatch z⟩
 | str y=>obtain ⟨t,rfl⟩:=(show ∃ t,u=Lf y t from rx);exact ⟨_,MK,Fv,fun z=>nomatch z⟩
 | flt y=>obtain ⟨t,rfl⟩:=(show ∃ t,u=Nb y t from rx);exact ⟨_,LF,Fv,fun z=>nomatch z⟩
 | @lst a xs ea =>
  cases (show u=ES a from rx)
  obtain ⟨_,_,n,_,h1⟩:=(show ObjOk X.prog X.w H s.heap a (.lst xs) from I.hok a _ ea);exact ⟨_,Ic,⟨_,h1,rfl⟩,fun z=>nomatch z⟩
 | @frz a ob xs ea =>
  cases (show u=ES a from rx)
  obtain ⟨_,_,_,n,_,h1⟩:=(show ObjOk X.prog X.w H s.heap a (.frz ob (.lst xs)) from I.hok a _ ea);exact ⟨_,Ic,⟨_,h1,rfl⟩,fun z=>nomatch z⟩
 | @tup a xs ea =>
  cases (show u=ES a from rx)
  obtain ⟨_,_,⟨o,h1,h2,_⟩,_⟩:=I.tuple ea;exact ⟨_,LG,⟨o,h1,h2⟩,fun z=>nomatch z⟩
 | @dK a kvs ea =>
  cases (show u=ES a from rx)
  obtain ⟨_,_,vs,_,o,es,ep,h1,h2,_⟩:=(show ObjOk X.prog X.w H s.heap a (.dK kvs) from I.hok a _ ea);exact ⟨_,Ie,⟨o,h1,h2.1⟩,fun z=>nomatch z⟩
 | @dT a kvs ea =>
  cases (show u=ES a from rx)
  obtain ⟨_,_,xs,_,o,es,ep,h1,h2,_⟩:=(show ObjOk X.prog X.w H s.heap a (.dT kvs) from I.hok a _ ea);exact ⟨_,Ie,⟨o,h1,h2.1⟩,fun z=>nomatch z⟩
 | ins=>cases j
end
namespace Mi
section
variable {X:Cx}
theorem yd (K:Frag) {T U:String} (q:T∈["bool", "int", "str", "tuple", "list", "dict"]) (z:U∈["bool", "int", "str", "tuple", "list", "dict"]) {t:String} (j:t∈bR):L7 K (.type t) [.type T, .type U]=some (de T t || de U t):=by
 have h1:=j6 K T q t j;have h2:=j6 K U z t j;unfold L7;rw [h1]
 cases e1:de T t with
 | true=>rfl
 | false =>
   dsimp only;unfold L7;rw [h2]
   cases de U t <;> rfl
theorem qh {T U:String} (z:T∈["bool", "int", "str", "tuple", "list", "dict"]) (B:U∈["bool", "int", "str", "tuple", "list", "dict"]):CallR X (.builtin "isinstance") (fun vs H Q => ∃ v t p,vs=[v, .ref p]/\H p=some (.tup [.ty T, .ty U])/\bF X.K H v (.type t)/\t∈bR/\Q (.bl (de T t || de U t)) H):=by
 intro pins s σ H xs us Q I r h;obtain ⟨v,t,p,rfl,F,ty,G,q⟩:=h;obtain ⟨u,c,rfl,ru,rc⟩:=ph r
 cases (show c=ES p from rc)
 obtain ⟨P,g1,g2,g3⟩:=yc I ru ty;obtain ⟨_,its,rv,⟨cls,dd,dat,sl⟩,h1,h2,n,j⟩:=(show ObjOk X.prog X.w H s.heap p (.tup [.ty T, .ty U]) from I.hok p _ F);dsimp only at h2 j;subst h2 j
 cases rv with
 | cons J rv =>
 cases rv with
 | cons L rv =>
 cases rv
 cases J
 cases L
 exact PySem.W.kia_tup g1 I.kIn g2 h1 (yd X.K z B G) g3 fun tk=>⟨.bl _,H,I.tok tk,rfl,q⟩
noncomputable def eO (T U:String) (ta:TEd):TEd:=fun ρ M Q=>ta ρ M fun x M1 => ∃ t,tyN M1 x=some t/\Q (.bl (de T t || de U t)) M1
theorem qi {T U:String} {ta:TEd} (h:ab ta):ab (eO T U ta):=fun ρ M Q Q' i q=>h _ _ _ _ (fun x z ⟨t,e,j⟩=>⟨t,e,i _ _ j⟩) q
theorem ve {e:Expr} {ta:TEd} {T U:String} {y z:Str} {k:Nat} {p p2 j G pos:Pos} (hT:T∈["bool", "int", "str", "tuple", "list", "dict"]) (hU:U∈["bool", "int", "str", "tuple", "list", "dict"]) (m:ab ta) (he:PE X e (lE X.K ta)) (hg:Gl X "isinstance") (hm:X.mg "isinstance" = none)
 (J:Gl X y) (L:X.mg y=none) (hv:Gs y=some (.type T)) (hn:y ≠ "__name__") (O:(y==("__debug__":Str))=false)
 (Y:Gl X z) (Z:X.mg z=none) (BY:Gs z=some (.type U)) (BZ:z ≠ "__name__") (B:(z==("__debug__":Str))=false)
 (hs:Et [e, .Tuple [.Name y p2, .Name z j] k G] X.env=(false,eval e X.env)::Et [.Tuple [.Name y p2, .Name z j] k G] X.env) :
 PE X (.Call (.Name "isinstance" p) [e, .Tuple [.Name y p2, .Name z j] k G] [] pos) (lE X.K (eO T U ta)):=by
 have h2:PE X (.Name y p2) (tC (.ty T)):=iR J L hv rfl hn O;have h3:PE X (.Name z j) (tC (.ty U)):=iR Y Z BY rfl BZ B;have h4:PE X (.Tuple [.Name y p2, .Name z j] k G) _:=qY (cg h2 (cg h3 gU rfl) rfl);refine PE.imp (bp (qh hT hU) hg hm (by decide +kernel) (cg he (cg h4 gU rfl) hs) (by decide) (by decide) hs rfl) fun σ H Q h => ?_
 obtain ⟨ρ,M,rs,rm,q⟩:=h;refine ⟨ρ,M,rs,rm,m _ _ _ _ (fun x M1 ⟨t,e,q1⟩ v H1 x1 rm1 C0 => ?_) q⟩;refine ⟨by simp;decide,fun pp n => ?_⟩
 have st:=(Og (M:=M1) (ho := .tup [.ty T, .ty U]) n).stab rm1;have F:=rm1.new (ho := .tup [.ty T, .ty U]) n;exact ⟨v,t,pp,rfl,ar,wn F (C0.mono st) e,ot e,q1 _ _ (x1.trans (Og n)) F (O9.mpr rfl)⟩
end
end Mi
end
end L2
namespace L2
open PySem PySem.Spec PyProof.Rows
namespace Mi
end Mi
end L2
namespace L2
open PySem PySem.Spec PyProof.Rows
namespace Mi
end Mi
end L2
namespace L2
namespace Mi
open PySem PySem.Spec PyProof.Rows
section
section
variable {lt:Nat->Nat->Bool} {prog:Er} {w:EH} {A:EK} {R:NF->g6->Prop} {I:Addr} {fp wr:List Addr} {n:Nat} {P:Nat->e7->Prop} {St:Nat->Heap->Prop} {h0:Heap} {S:Addr}
def Kpt (wr:List Addr) (S:Addr) (h h':Heap):Prop := ∀ b o,b∉wr->b≠S->h.get? b=some o->h'.get? b=some o
theorem Kpt.trans {wr:List Addr} {S:Addr} {a b c:Heap} (h:Kpt wr S a b) (g:Kpt wr S b c):Kpt wr S a c:=fun x o h1 h2 e=>g x o h1 h2 (h x o h1 h2 e)
noncomputable def lsO (vs:Array e7) (c:Nat):Obj := { cls := .type "list",dict:=none,data := .seq vs c,slots := #[] }
def vf (lt:Nat->Nat->Bool) (prog:Er) (w:EH) (A:EK) (P:Nat->e7->Prop) (wr:List Addr) (S:Addr) (h0:Heap):Prop := ∀ (s:g6) (x y:e7) (i j:Nat) (Q:e7->g6->Prop) (E:e7->g6->Prop),Kpt wr S h0 s.heap->P i x->P j y->Q (.bool (lt i j)) s->Ee (model prog w) A (IT .Lt x y) Q E s
def Lst (lt:Nat->Nat->Bool) (P:Nat->e7->Prop) (j:Nat) (u:e7):Prop := ∃ i,P i u /\ ∀ a,a<=j->lt a i=false
structure vg (lt:Nat->Nat->Bool):Prop where
 tr:∀ a b c,lt a b=true->lt b c=true->lt a c=true
 ir:∀ a,lt a a=false
theorem A3 {kw:List (Str×e7)} (W:Walks prog w A.in1 I fp wr n P St) (U:S∉fp) (Y:vf lt prog w A.in1 P wr S h0) (O:vg lt):∀ (k j:Nat) (s:g6) (u:e7) (c:Nat),n - (j+1)=k->j+1<=n->St (j+1) s.heap->Lst lt P j u->s.heap.get? S=some (lsO #[u,u] c)->Kpt wr S h0 s.heap ->
 (∀ v h' tk,Lst lt P (n - 1) v->Kpt wr S s.heap h'->R (.ok (.ret v)) { s with heap:=h',toks:=tk })->HS (model prog w) A (.builtin "min.loop" ⟨[.ref I, .none, .ref S],kw⟩) R s:=by
 have Z:S∉wr:=fun h=>U (W.sub _ h);have nm:(L8 "min" ++ L8 ".loop":String) = "min.loop" := by decide
 intro k
 induction k with
 | zero =>
   intro j s u c hk hj st L hS _ hR;have ej:j+1=n:=by lia
   refine J8 IJ ?_;rw [Hx FX _];refine b3 (m:=K0 (.ref S)) (Ff hS rfl ?_);refine b3 (m:=My (Hl (.ref I)) _) (Ip (W.done s _ _ (ej ▸ st) fun h' tk kk => ?_));have q:=kk S _ Z hS;refine b3 (m:=updateSeq S (fun _ => #[])) (KD q rfl (b3 (H0 (gV ?_))));exact hR u _ tk (by rw [<- ej];exact L) fun b o BZ C0 e=>(FE _ _ (Ne.symm C0)).trans (kk b o BZ e)
 | succ k ih =>
   intro j s u c hk hj st L hS hK hR;have B:j+1 < n:=by lia
   refine J8 IJ ?_;rw [Hx FX _];refine b3 (m:=K0 (.ref S)) (Ff hS rfl ?_);refine b3 (m:=My (Hl (.ref I)) _) (Ip (W.item (j+1) s _ _ B st fun v h' tk BY st' kk => ?_));have q:=kk S _ Z hS;obtain ⟨i,L,hle⟩:=L;have kk':Kpt wr S s.heap h':=fun b o h1 _ e=>kk b o h1 e;refine b3 (m:=My (holding [v,v] (IT .Lt v u >>= _)) _) (Ip (FO (b3 (Y _ v u (j+1) i _ _ (hK.trans kk') BY L ?_))));refine b3 (FO (Gh ?_));refine b3 (H0 (gV ?_))
   cases hb:lt (j+1) i with
   | true =>
     simp only [if_true];refine b3 (KD q rfl (b3 (H0 ?_)));rw [nm];have up:Kpt wr S s.heap (h'.update S (HY fun _ => #[v,v])):=fun b o h1 h2 e=>(FE _ _ (Ne.symm h2)).trans (kk b o h1 e);refine gV ⟨IQ FX _,ih (j+1) _ v _ (by lia) B (W.frame _ _ _ st' fun b C1 o e => ?_) ⟨j+1,BY,fun a ha => ?_⟩ (GB _ q rfl) (hK.trans up) fun v' G tk'' J z=>hR v' G tk'' J (up.trans z)⟩
     rotate_left
     ·by_cases e:a=j+1
      ·rw [e];exact O.ir _
      ·cases hx:lt a (j+1) with
       | false=>rfl
       | true =>
         have:=O.tr _ _ _ hx hb;rw [hle a (by lia)] at this;cases this
     exact (FE _ _ (fun h:S=b=>U (by rw [h];exact C1))).trans e
   | false =>
     simp only [EV,if_false];refine b3 (H0 ?_);rw [nm];exact gV ⟨IQ FX _,ih (j+1) _ u c (by lia) B st' ⟨i,L,fun a ha=>by
      by_cases e:a=j+1
      ·rw [e];exact hb
      ·exact hle a (by lia)⟩ q (hK.trans kk') fun v' G tk'' J z=>hR v' G tk'' J (kk'.trans z)⟩
theorem sD {kw:List (Str×e7)} (W:Walks prog w A.in1 I fp wr n P St) (j:S∉fp) (q:vf lt prog w A.in1 P wr S h0) (O:vg lt) (Y : 0 < n) {s:g6} {c:Nat} (st:St 0 s.heap) (Z:s.heap.get? S=some (lsO #[] c)) (hK:Kpt wr S h0 s.heap)
 (hR:∀ v h' tk,Lst lt P (n - 1) v->Kpt wr S s.heap h'->R (.ok (.ret v)) { s with heap:=h',toks:=tk }):HS (model prog w) A (.builtin "min.loop" ⟨[.ref I, .none, .ref S],kw⟩) R s:=by
 have G:S∉wr:=fun h=>j (W.sub _ h);have nm:(L8 "min" ++ L8 ".loop":String) = "min.loop" := by decide
 refine J8 IJ ?_;rw [Hx FX _];refine b3 (m:=K0 (.ref S)) (Ff Z rfl ?_);refine b3 (m:=My (Hl (.ref I)) _) (Ip (W.item 0 s _ _ Y st fun v h' tk hP st' kk => ?_));have z:=kk S _ G Z;refine b3 (m:=updateSeq S (fun _ => #[v,v])) (KD z rfl ?_);rw [nm];have up:Kpt wr S s.heap (h'.update S (HY fun _ => #[v,v])):=fun b o h1 h2 e=>(FE _ _ (Ne.symm h2)).trans (kk b o h1 e);refine gV ⟨IQ FX _,A3 W j q O _ 0 _ v _ rfl Y (W.frame _ _ _ st' fun b J o e => ?_) ⟨0,hP,fun a ha=>by rw [Nat.le_zero.mp ha];exact O.ir _⟩ (GB _ z rfl) (hK.trans up) fun v' L tk'' U B=>hR v' L tk'' U (up.trans B)⟩
 exact (FE _ _ (fun h:S=b=>j (by rw [h];exact J))).trans e
end
theorem sF:∀ {a:List Int},HT.lexLt a a=false
 | [] => by simp [HT.lexLt]
 | x::a=>by simp [HT.lexLt,sF (a:=a)]
theorem sH:∀ {a b c:List Int},HT.lexLt a b=true->HT.lexLt b c=true->HT.lexLt a c=true
 | [],[],_,h,_=>by simp [HT.lexLt] at h
 | [],_::_,[],_,g=>by simp [HT.lexLt] at g
 | [],_::_,_::_,_,_=>rfl
 | _::_,[],_,h,_=>by simp [HT.lexLt] at h
 | _::_,_::_,[],_,g=>by simp [HT.lexLt] at g
 | x::a,y::b,z::c,h,g=>by
   rw [HT.lexLt_cons] at h g ⊢
   by_cases e1:x=y
   ·subst e1;rw [if_pos rfl] at h
    by_cases e2:x=z
    ·rw [if_pos e2] at g ⊢;exact sH h g
    ·rw [if_neg e2] at g ⊢;exact g
   ·rw [if_neg e1] at h;have h:=of_decide_eq_true h
    by_cases e2:y=z
    ·subst e2;rw [if_neg e1];exact decide_eq_true h
    ·rw [if_neg e2] at g;have g:=of_decide_eq_true g;rw [if_neg (by lia)]
     exact decide_eq_true (by lia)
end
end Mi
end L2
namespace L2
open PySem PySem.Spec PyProof.Rows
namespace Mi
end Mi
end L2
namespace L2
namespace Mi
open PySem PySem.Spec PyProof.Rows
end Mi
end L2
namespace L2
open PySem PySem.Spec PyProof.Rows
namespace Mi
end Mi
end L2
namespace L2
open PySem PySem.Spec PyProof.Rows
namespace Mi
open L2.Srt
end Mi
end L2
namespace L2
namespace Srt
open PySem PySem.Spec PyProof.Rows
open AutoSeq1 (wpAny_loadPart')
open MeetsSeq MeetsSeq2 MeetsSeq3
end Srt
end L2
namespace L2
namespace Srt
open PySem PySem.Spec PyProof.Rows
end Srt
end L2
namespace L2
namespace Mi
open PySem PySem.Spec PyProof.Rows L2.Srt
end Mi
end L2
namespace L2
open PySem PySem.Spec PyProof.Rows
namespace Mi
end Mi
end L2
namespace L2
open PySem PySem.Spec PyProof.Rows
namespace Mi
end Mi
end L2
namespace L2
namespace Mi
open PySem PySem.Spec PyProof.Rows
end Mi
end L2
namespace L2
namespace It
open PySem PySem.Spec PyProof.Rows
section
variable {prog:Er} {w:EH} {A:EK} {E:e7->g6->Prop} {s:g6}
theorem vh {it d:Addr} {i n ep:Nat} {k v ok ov:e7} {Q:e7->g6->Prop} (hi:s.heap.get? it=some (iO .none false d i n ep ok ov))
 (q:∀ h',h'.get? it=some (iO (Jp s.heap.objs.size) false d i n ep k v)->h'.get? s.heap.objs.size=some { cls := .type "tuple",data := .seq #[k,v] }->(∀ b o,b≠it->s.heap.get? b=some o->h'.get? b=some o)->Q (.ref s.heap.objs.size) { s with heap:=h' }):Ee (model prog w) A (Iq (.ref it) 6 k v) Q E s:=by
 unfold Iq;refine b3 (Jw ?_ (by size_fits))
 have B:=Ed hi;have j:=g0 ({ cls := .type "tuple",data := .seq [k,v].toArray }) hi;unfold Builtin.Dict_items.ownedTupleIsFree;refine b3 (b3 (ER j rfl (x := .none) rfl (gV ?_)));dsimp only;rw [if_pos rfl];refine b3 (ER j rfl (x:=ok) rfl ?_);refine b3 (ER j rfl (x:=ov) rfl ?_);refine b3 (Ex j (by simp) fun h1 G s1 => ?_)
 refine b3 (Ex G (by simp) fun h2 J s2 => ?_)
 refine b3 (Ex J (by simp) fun U L s3 => ?_)
 refine b3 (Ex L (by simp) fun F O s4 => ?_)
 refine b3 (H0 ?_);have kp:∀ b o,b≠it->(s.heap.push { cls := .type "tuple",data := .seq [k,v].toArray }).get? b=some o->F.get? b=some o:=fun b o z e=>s4.extBut b o z (s3.extBut b o z (s2.extBut b o z (s1.extBut b o z e)));refine gV (q F O (kp _ _ (Hz B) (D1 _ rfl)) fun b o z e=>kp b o z (g0 _ e))
theorem nx_any {it d:Addr} {i ep:Nat} {cd ok ov:e7} {dd:Option Addr} {sl:Array (Option e7)} {es:Array IC} {e:IC} {Q:Option e7->g6->Prop} (hi:s.heap.get? it=some (iO .none false d i es.size ep ok ov)) (hd:s.heap.get? d=some { cls:=cd,dict:=dd,data := .dict es ep,slots:=sl }) (he:es[i]? = some e)
 (q:∀ h',h'.get? it=some (iO (Jp s.heap.objs.size) false d (i+1) es.size ep e.key e.val)->h'.get? s.heap.objs.size=some { cls := .type "tuple",data := .seq #[e.key,e.val] }->(∀ b o,b≠it->s.heap.get? b=some o->h'.get? b=some o)->Q (some (.ref s.heap.objs.size)) { s with heap:=h' }):Ee (model prog w) A (Hl (.ref it)) Q E s:=by
 have ty:s.TypeIs (.ref it) "dict_itemiterator" := ⟨_,hi,rfl⟩;unfold Hl;refine b3 (HM (ET (name:=Fe "__next__") ty slot_next (EG slot_next ty iD ?_ (jM _))));unfold GI.«dict_itemiterator.__next__»;have hm:=mw
 wp_walk
 dsimp only;rw [if_neg (by simp)]
 wp_walk
 simp only [Fh,he];refine b3 (G7 (Q:=fun n s'=>n=2/\s'=s) ?_ (fun n s' hs => ?_) fun _ _ z=>z)
 ·wp_walk
  exact ⟨by kernel_rfl,rfl⟩
 obtain ⟨rfl,rfl⟩:=hs;refine b3 (mz ty ?_);refine b3 (Ex hi (by simp) fun h1 j s1 => ?_)
 refine b3 (FO ?_);have B:Shared.TypeIs { s' with heap:=h1 } (.ref it) "dict_itemiterator" := ⟨_,j,rfl⟩
 refine b3 (mz B ?_);rw [if_neg (by decide +kernel)] at j
 have j:h1.get? it=some (iO .none false d (i+1) es.size ep ok ov):=j;have hsz:h1.objs.size=s'.heap.objs.size:=s1.1;refine J6 (by decide +kernel) ?_
 refine b3 (mz B ?_);refine J6 (by decide +kernel) ?_
 refine vh (s := { s' with heap:=h1 }) j fun h2 F G L => ?_
 refine gV ⟨_,rfl,gV ?_⟩;dsimp only at F G ⊢;rw [hsz] at F G ⊢;exact q h2 F G fun b o J e=>L b o J (s1.extBut b o J e)
theorem jN:Slot "dict_itemiterator" "__iter__" "dict_itemiterator.__iter__" := .of (owner := "dict_itemiterator") (n := "__iter__") (by rw [typeLookup_type,KJ];kernel_rfl) (by decide +kernel) (by decide +kernel) (by decide +kernel) (.inl (by decide +kernel)) (by rw [L5];kernel_rfl)
theorem qj:entryFor table "dict_itemiterator.__iter__" = some GI.«dict_keyiterator.__iter__» :=
 entryFor_alias (id' := "dict_keyiterator.__iter__") (by kernel_rfl) (by first | rfl | decide +kernel | (unfold String.splitOn;simp +decide [String.splitOnAux])) (by decide +kernel) (by kernel_rfl)
theorem sJ (a:e7):LQ "dict_itemiterator.__iter__" ⟨[a],[]⟩:=by unfold LQ;kernel_rfl
theorem it_self {it:Addr} {f0 ok ov:e7} {b:Bool} {d:Addr} {i n ep:Nat} {Q:e7->g6->Prop} (hi:s.heap.get? it=some (iO f0 b d i n ep ok ov)) (h:Q (.ref it) s):Ee (model prog w) A (Ke (.ref it)) Q E s:=by
 have ty:s.TypeIs (.ref it) "dict_itemiterator" := ⟨_,hi,rfl⟩;refine Mv ty jN (EG jN ty qj ?_ (sJ _));exact gV ⟨_,rfl, "dict_itemiterator",_,ty,slot_next.lookup,h⟩
end
end It
open PySem PySem.Spec PyProof.Rows
noncomputable def Itp (n:Nat) (G:Hp->Prop) (yl:Nat->V->V->Hp->Prop):It:=⟨fun i H=>i < n/\G H,fun i H x H' => ∃ p u v,H p=none/\x = .ref p/\H'=upd H p (.tup [u,v])/\yl i u v H,fun i H=>n<=i/\G H⟩
theorem qk {P:Er} {w:EH} {K:Frag} {elts:List Expr} {cx} {pos:Pos} (a it:Addr) {cd:e7} {dd:Option Addr} {sl:Array (Option e7)} {es:Array IC} {ep:Nat} {G:Hp->Prop} {yl:Nat->V->V->Hp->Prop}
 (O:∀ H,G H -> ∃ u,H a=some (.frz { cls:=cd,dict:=dd,data := .dict es ep,slots:=sl } u)) (U:∀ i H h,HOk P w H h->G H -> ∀ e,es[i]? = some e -> ∃ u v,RelV u e.key/\RelV v e.val/\yl i u v H) :
 el P w K (.Tuple elts cx pos) (Itp es.size G yl) [it] it (fun i h=>i<=es.size /\ ∃ ok ov,h.get? it=some (It.iO .none false a i es.size ep ok ov)) where
 mem:=by simp
 obj:=fun i h st b B=>by
  have e:b=it:=by simpa using B
  subst e;obtain ⟨_,ok,ov,e⟩:=st;exact ⟨_,e,fun v z=>by cases z⟩
 keep:=fun i h h' st k=>by
  obtain ⟨h1,ok,ov,e⟩:=st;exact ⟨h1,ok,ov,k it (by simp) _ e⟩
 item:=by
  intro X F hw J j i pins s σ H E I hf st q;subst F hw J;obtain ⟨hi,q⟩:=q;obtain ⟨_,ok,ov,st⟩:=st;obtain ⟨u',L⟩:=O H q;obtain ⟨u,v,ru,rv,yx⟩:=U i H s.heap I.hok q es[i] (Fj hi);refine It.nx_any (e:=es[i]) st (I.hok a _ L).1 (Fj hi) fun h1 Y Z k1=>⟨_,rfl, ?_⟩;refine wpAny_letOwnedTupleGo_items (s := { s with heap:=h1 }) Y fun h2 e2 s2 => ?_
  have lt:∀ {c o},s.heap.get? c=some o->c≠s.heap.objs.size:=fun e=>EN (Ed e);have nz:s.heap.objs.size≠it:=(lt st).symm;have up:∀ c o,c≠it->h1.get? c=some o->h2.get? c=some o:=fun c o n e=>s2.extBut _ _ n e;have IL:Inv X pins σ (upd H s.heap.objs.size (.tup [u,v])) { s with heap:=s.heap.push { cls := .type "tuple",data := .seq #[es[i].key,es[i].val] } } :=
   I.laid (t':=s.toks) (fun b o e=>g0 _ e) (Ec _) ⟨by rw [tv];simp,[es[i].key,es[i].val], .cons ru (.cons rv .nil),Iy _ _⟩
  have un:∀ c∈[it],upd H s.heap.objs.size (.tup [u,v]) c=none:=fun c j=>by
   have e:c=it:=by simpa using j
   rw [e,ak nz.symm];exact (hf it (by simp)).1
  have kk:∀ c o,c∉[it]->(s.heap.push { cls := .type "tuple",data := .seq #[es[i].key,es[i].val] }).get? c=some o->h2.get? c=some o:=fun c o j e=>by
   simp only [Eb,Eu,or_false] at j
   rcases IW e with ⟨rfl,rfl⟩ | e
   ·exact up _ _ nz Z
   ·exact up _ _ j (k1 c o j e)
  have I2:Inv X pins σ (upd H s.heap.objs.size (.tup [u,v])) { s with heap:=h2 } :=
   Inv.turnedL (s := { s with heap:=s.heap.push { cls := .type "tuple",data := .seq #[es[i].key,es[i].val] } }) (h':=h2) (t':=s.toks) (fp := [it]) IL (fun c j=>⟨un c j,(hf c j).2⟩) kk
  exact ⟨.ref s.heap.objs.size,_,I2,rfl,⟨_,u,v,I.hok.fresh (Ec _),rfl,rfl,yx⟩,⟨hi,_,_,e2⟩,un⟩
 done:=by
  intro X F hw J j i pins s σ H E I hf st q;subst F hw J;obtain ⟨hi,q⟩:=q;obtain ⟨h0,ok,ov,st⟩:=st;obtain ⟨u,L⟩:=O H q;obtain ⟨f0,f1,f2,f3,f4,f5⟩:=hf it (by simp)
  have e:i=es.size:=by lia
  subst e;exact It.nx_end (I.ok.hd j) st (I.hok a _ L).1 fun h' k=>⟨rfl,I.turned (t':=s.toks) (fun b o B e=>k b o B e) f0 f1 f3 f4 f5⟩
 self:=fun A i s Q E st h=>by
  obtain ⟨_,ok,ov,e⟩:=st;exact It.it_self e h
namespace Mi
end Mi
end L2
namespace L2
open PySem PySem.Spec PyProof.Rows
namespace Mi
end Mi
end L2
namespace L2
open PySem PySem.Spec PyProof.Rows
namespace Mi
open L2.Srt
end Mi
end L2
namespace L2
open PySem PySem.Spec PyProof.Rows
end L2
namespace L2
namespace Mi
open PySem PySem.Spec PyProof.Rows
end Mi
end L2
namespace L2
open PySem PySem.Spec PyProof.Rows
namespace Mi
end Mi
end L2
namespace L2
namespace Mi
open PySem PySem.Spec PyProof.Rows
section
mutual
noncomputable def GV (K:Frag):D->e7->Prop
 | .int i,v => ∃ t,v = .int i t
 | .str x,v => ∃ t,v = .str x t
 | .tup ds,v => ∃ a o its n,v = .ref a/\K.lookup a=some o/\o.cls = .type "tuple" /\ o.data = .seq its n/\its.size<=D0/\fk ds=false/\GVs K ds its.toList
 | _,_=>False
noncomputable def GVs (K:Frag):List D->List e7->Prop
 | [],us=>us=[]
 | d::ds,us => ∃ u r,us=u::r/\GV K d u/\GVs K ds r
end
end
section
noncomputable def kd1:Int ⊕ List Int->D
 | .inl i => .int i
 | .inr ks => .tup (ks.map .int)
noncomputable def kdN (k:NK):D := .tup (k.map kd1)
noncomputable def jc:Int ⊕ List Int->Bool
 | .inl _=>true
 | .inr ks=>fk (ks.map .int)
noncomputable def okK (k:NK):Bool:=fk (k.map kd1)&&k.all jc
noncomputable def ng (kvs:List (NK×D)) (k:NK):Option D:=(kvs.find? fun p=>decide (p.1=k)).map (·.2)
noncomputable def np (kvs:List (NK×D)) (k:NK) (v:D):List (NK×D):=if (ng kvs k).isSome then kvs.map (fun p=>if p.1=k then (p.1,v) else p) else kvs++[(k,v)]
noncomputable def eP:TEd:=fun _ M Q => ∀ p,M p=none->Q (.ref p) (af M p (.dcn []))
noncomputable def vj:R2d:=fun x y M Q => ∃ a kvs k,y = .ref a/\M a=some (.dcn kvs)/\x=kdN k/\okK k=true/\Q (.bl (ng kvs k).isSome) M
noncomputable def vm:R2d:=fun x y M Q => ∃ a kvs k d,x = .ref a/\M a=some (.dcn kvs)/\y=kdN k/\okK k=true/\ng kvs k=some d/\Q d M
def Bc (o i v:D) (M:Mem) (Q:Mem->Prop):Prop := ∃ a kvs k,o = .ref a/\M a=some (.dcn kvs)/\i=kdN k/\okK k=true/\kvs.length < D0/\Q (af M a (.dcn (np kvs k v)))
noncomputable def iF (te to ti:TEd):TSd:=fun D ρ M=>te ρ M fun v M1=>to ρ M1 fun o M2=>ti ρ M2 fun i M3=>Bc o i v M3 fun M'=>D.nx ρ M'
theorem ql:ab eP:=fun _ _ _ _ i q p n=>i _ _ (q p n)
theorem vp:aJ vj:=fun _ _ _ _ _ h ⟨a,kvs,k,j,z,B,F,q⟩=>⟨a,kvs,k,j,z,B,F,h _ _ q⟩
theorem mF:aJ vm:=fun _ _ _ _ _ h ⟨a,kvs,k,d,j,z,B,F,G,q⟩=>⟨a,kvs,k,d,j,z,B,F,G,h _ _ q⟩
theorem sK {te to ti:TEd} (he:ab te) (ho:ab to) (hi:ab ti):ax (iF te to ti):=fun a b ρ M i q =>
 he _ _ _ _ (fun v O j=>ho _ _ _ _ (fun o M2 z=>hi _ _ _ _ (fun k U ⟨a,kvs,k,B,F,G,J,L,q⟩=>⟨a,kvs,k,B,F,G,J,L,i.nx _ _ q⟩) z) j) q
section
variable {K:Frag} {M:Mem} {H:Hp}
theorem mG:∀ {k:NK} {vs:List V},k.all jc=true->RDs K H (k.map kd1) vs->FG (Kt1 H) k vs
 | [],vs,_,r=>by rw [RDs.nil_iff.mp r];exact .nil
 | x::k,vs,ok,r=>by
   obtain ⟨v,vr,rfl,h1,h2⟩:=Oa.mp r;rw [Gb,g8] at ok;refine .cons ?_ (mG ok.2 h2)
   cases x with
   | inl i=>exact O7.mp h1
   | inr ks =>
     obtain ⟨b,us,rfl,j,ru⟩:=Oo ok.1 h1;refine ⟨b,rfl, ?_⟩;have e:us=ks.map V.int:=by
      have:∀ {ks:List Int} {us:List V},RDs K H (ks.map D.int) us->us=ks.map V.int:=by
       intro ks
       induction ks with
       | nil=>intro us r;exact RDs.nil_iff.mp r
       | cons k ks ih =>
         intro us r;obtain ⟨v,vr,rfl,h1,h2⟩:=Oa.mp r;rw [O7.mp h1,ih h2];rfl
      exact this ru
     rw [<- e];exact j
theorem kl {k:NK} {v:V} (ok:okK k=true) (r:RD K H (kdN k) v):∃ b,v = .ref b/\Kt H k b:=by
 obtain ⟨j,q⟩:=IX.mp ok;obtain ⟨b,us,rfl,z,ru⟩:=Oo j r;exact ⟨b,rfl,us,z,mG q ru⟩
noncomputable abbrev PN (K:Frag) (H:Hp):=FG (fun (p:NK×D) (q:NK×Addr×e7)=>p.1=q.1/\Kt H q.1 q.2.1 /\ ∃ v,RelV v q.2.2/\RD K H p.2 v)
theorem dG:∀ {kvs:List (NK×D)} {xs:List (NK×Addr×e7)},PN K H kvs xs -> ∀ x∈xs,Kt H x.1 x.2.1
 | _,_, .nil,_,h=>by cases h
 | _,_, .cons r t,x,h=>by
   rcases Eb.mp h with rfl | h
   ·exact r.2.1
   ·exact dG t x h
theorem fD {k:NK}:∀ {kvs:List (NK×D)} {xs:List (NK×Addr×e7)},PN K H kvs xs->(ng kvs k=none/\HK xs k=none) ∨ ∃ d p v,ng kvs k=some d/\HK xs k=some p/\RelV v p.2/\RD K H d v
 | _,_, .nil => .inl ⟨rfl,rfl⟩
 | _,_, .cons (a:=p) (b:=q) r t=>by
   obtain ⟨e,_,v,rv,rd⟩:=r
   by_cases h:p.1=k
   ·exact .inr ⟨p.2,q.2,v,by simp [ng,h],by simp [HK, <- e,h],rv,rd⟩
   ·have h2 : ¬ q.1=k:=fun z=>h (e.trans z)
    rcases fD (k:=k) t with ⟨a,b⟩ | ⟨d,p',v',a,b,c⟩
    ·exact .inl ⟨by simpa [ng,h] using a,by simpa [HK,h2] using b⟩
    ·exact .inr ⟨d,p',v',by simpa [ng,h] using a,by simpa [HK,h2] using b,c⟩
theorem sL {k:NK} {d:D} {v:V} {u:e7} {b:Addr} (kb:Kt H k b) (rv:RelV v u) (rd:RD K H d v) {kvs:List (NK×D)} {xs:List (NK×Addr×e7)} (r:PN K H kvs xs):PN K H (np kvs k d) (HA xs k b u):=by
 have mp:∀ {kvs:List (NK×D)} {xs:List (NK×Addr×e7)},PN K H kvs xs->PN K H (kvs.map fun p=>if p.1=k then (p.1,d) else p) (xs.map (putAt k u)):=by
  intro kvs xs r
  induction r with
  | nil=>exact .nil
  | @cons p q ps qs h t ih =>
   refine .cons ?_ ih
   by_cases e:p.1=k
   ·have j:q.1=k:=h.1 ▸ e;dsimp only;rw [if_pos e,putAt,if_pos j];exact ⟨h.1,h.2.1,v,rv,rd⟩
   ·have j : ¬ q.1=k:=fun z=>e (h.1.trans z);dsimp only;rw [if_neg e,putAt,if_neg j];exact h
 unfold np HA
 rcases fD (k:=k) r with ⟨B,j⟩ | ⟨d',p,v',B,j,_⟩
 ·rw [B,j];exact r.snoc ⟨rfl,kb,v,rv,rd⟩
 ·rw [B,j];exact mp r
end
section
variable {X:Cx}
theorem vq {pos:Pos}:PE X (.Dict [] [] pos) (lE X.K eP):=by
 intro pins s σ H Q I h;obtain ⟨ρ,M,rs,rm,q⟩:=h;have j:=I.hok.fresh (Ec s.heap.objs.size);have ob:ObjOk X.prog X.w (upd H s.heap.objs.size (.ext (NDict s.heap.objs.size []))) (s.heap.push { cls := .type "dict",data := .dict #[] }) s.heap.objs.size (.ext (NDict s.heap.objs.size [])):=by
  have z:=I.big;refine ⟨⟨Gc _, ?_,_, #[],0,D1 _ rfl,⟨rfl,rfl,rfl⟩,rfl,rfl,L9⟩,⟨_,D1 _ rfl⟩,NDict.stay⟩;exact beq_false_of_ne (by lia)
 exact wpAny_Dict_empty ⟨.ref s.heap.objs.size,_,I.laid (a:=s.heap.objs.size) (o := .ext (NDict s.heap.objs.size [])) (t':=s.toks) (fun _ _ q=>g0 _ q) (Ec _) ob,rfl,
  q _ (rm.out j) _ _ (Ext.lay j) (rm.lay j ⟨[],ar, .nil⟩) (O8.mpr rfl)⟩
theorem vx (j:X.A.units+16 < G0):OpR X (Ft .In) (l2 X.K vj):=by
 intro pins s σ H y x u v Q I ry rx h;obtain ⟨dk,dx,M,rm,rk,rd,a,kvs,k,rfl,e,rfl,ok,q⟩:=h
 cases O8.mp rd
 cases rx
 obtain ⟨b,rfl,kb⟩:=kl ok rk
 cases ry
 obtain ⟨xs,hx,pn⟩:=rm a _ e;refine BO j I hx (dG pn) kb fun s' I'=>⟨.bl (HK xs k).isSome,H,I',rfl, ?_⟩;have:(HK xs k).isSome=(ng kvs k).isSome:=by
  rcases fD (k:=k) pn with ⟨a,b⟩ | ⟨d,p,v,a,b,_⟩ <;> rw [a,b] <;> rfl
 rw [this];exact q _ H Ext.refl rm (O9.mpr rfl)
theorem BS (z:X.A.units+16 < G0):IxR X (l2 X.K vm):=by
 intro value slice pins s σ H x y v u Q I rx ry h hs;obtain ⟨dx,dk,M,rm,rd,rk,a,kvs,k,d,rfl,e,rfl,ok,g,q⟩:=h
 cases O8.mp rd
 cases rx
 obtain ⟨b,rfl,kb⟩:=kl ok rk
 cases ry
 obtain ⟨xs,hx,pn⟩:=rm a _ e
 rcases fD (k:=k) pn with ⟨a1,j⟩ | ⟨d',p,v,a1,j,rv,rd'⟩
 ·rw [g] at a1;cases a1
 rw [g] at a1;cases a1;exact NL (kM I hx) PySem.F.slot_dict_getitem.lookup (rl z I hx (dG pn) kb j fun s' I'=>⟨v,H,I',rv,q v H Ext.refl rm rd'⟩) hs
theorem Bd (j:X.A.units+16 < G0):PSet X (fun o i v H Q => ∃ a b k xs,o = .ref a/\i = .ref b/\H a=some (.ext (NDict a xs))/\(∀ x∈xs,Kt H x.1 x.2.1)/\Kt H k b/\xs.length < D0 /\ ∀ u,RelV v u->Q (upd H a (.ext (NDict a (HA xs k b u))))):=by
 intro pins s σ H o i v ov iv u Q I ro ri rv h;obtain ⟨a,b,k,xs,rfl,rfl,e,ks,kb,l,q⟩:=h
 cases ro
 cases ri
 exact rn j I e ks kb l fun s' I'=>⟨_,I',q u rv⟩
theorem ye {o i e:Expr} {te to ti:TEd} {pos tpos:Pos} (hu:X.A.units+16 < G0) (me:ab te) (mo:ab to) (mi:ab ti) (he:PE X e (lE X.K te)) (ho:PE X o (lE X.K to)) (hi:PE X i (lE X.K ti))
 (hs:Hi [.Subscript o i tpos] e pos.line X.env=pure false) (hw:Gx [.Subscript o i tpos] e X.env=pure none)
 (ha:∀ v,assign (.Subscript o i tpos) X.env v=(do
   let ov <- holding [v] (eval o X.env)
   let iv <- holding [v,ov] (eval i X.env)
   Jd tpos
   holding [v,ov,iv] (LW ov iv v)
   release [v,ov,iv] [])):PS X (.Assign [.Subscript o i tpos] e pos) (lS X.K (iF te to ti)):=by
 refine PS.imp (kx he (qP ho hi (Bd hu) ha) hs hw rfl) fun D σ H h => ?_;obtain ⟨ρ,M,A,rs,rm,l,q⟩:=h;refine ⟨ρ,M,rs,rm,me _ _ _ _ (fun v M1 q1 vv H1 J j L => ?_) q⟩;refine ⟨ρ,M1,rs.mono (J.stab rm),j,mo _ _ _ _ (fun ov M2 q2 vo H2 O B U => ?_) q1⟩;refine ⟨ρ,M2,(rs.mono (J.stab rm)).mono (O.stab j),B,mi _ _ _ _ (fun iv M3 q3 vi G x3 z Y => ?_) q2⟩;have F:=J.trans (O.trans x3);obtain ⟨a,kvs,k,rfl,e,rfl,ok,hl,q⟩:=q3
 cases O8.mp U
 obtain ⟨b,rfl,kb⟩:=kl ok Y;obtain ⟨xs,hx,pn⟩:=z a _ e;have rv:=(L.mono (O.stab j)).mono (x3.stab B);refine ⟨a,b,k,xs,rfl,rfl,hx,dG pn,kb,by rw [<- Gw pn];exact hl,fun u ru => ?_⟩
 have st:Stab G (upd G a (.ext (NDict a (HA xs k b u)))):=z.stabPut e;have x4:Ext M3 G (af M3 a (.dcn (np kvs k v))) (upd G a (.ext (NDict a (HA xs k b u)))):=Ext.put e;have Z:=sL kb ru rv pn;exact l.nx ρ _ σ _ (F.trans x4) (rs.mono ((F.trans x4).stab rm)) (z.put (o := .dcn (np kvs k v)) e ⟨_,ar,Ob Z fun _ _ ⟨z1,z2,v,z3,z4⟩=>⟨z1,z2.keeps st.tup,v,z3,z4.mono st⟩⟩) q
end
end
section
section
variable {prog:Er} {w:EH} {A:EK} {E:e7->g6->Prop} {s:g6}
theorem mH {id:String} {b:GI} {args:List e7} {kw:List (Str×e7)} {Q:e7->g6->Prop} (B:builtinKind id=none) (F:plainId id=true)
 (G:entryFor table id=some b) (J:LQ id ⟨args,kw⟩)
 (z:Ee (model prog w) A.in1 (b ⟨args,kw⟩) (fun fin s'=>match fin with
   | .done f=>(match (Except.ok f:NF) with | .ok (.ret v)=>Q v s' | .ok _=>False | .error e=>E e s')
   | .again c'=>c'.quiet=true/\HS (model prog w) A c' (fun r s'=>match r with | .ok (.ret v)=>Q v s' | .ok _=>False | .error e=>E e s') s') E s):Ee (model prog w) A (call (.builtin id) args kw) Q E s:=by
 refine NG (L6 F G ?_);simp only [N5,B]
 cases j:Manifest.signature? id with
 | none=>exact gV z
 | some sig =>
   have q:Bind.checkArgs id sig ⟨args,kw⟩=pure ():=by simpa only [LQ,j] using J
   simp only [q];exact gV z
theorem sM (a b:e7):LQ "min" ⟨[a],[("default",b)]⟩:=by unfold LQ;kernel_rfl
theorem vy {I S:Addr} {fp wr:List Addr} {P:Nat->e7->Prop} {St:Nat->Heap->Prop} {c:Nat} {R:NF->g6->Prop} {d:e7} (W:Walks prog w A.in1 I fp wr 0 P St) (st:St 0 s.heap) (j:s.heap.get? S=some (lsO #[] c))
 (q:∀ h' tk,(∀ b o,b∉wr->s.heap.get? b=some o->h'.get? b=some o)->R (.ok (.ret d)) { s with heap:=h',toks:=tk }):HS (model prog w) A (.builtin "min.loop" ⟨[.ref I, .none, .ref S],[("default",d)]⟩) R s:=by
 refine J8 IJ ?_;rw [Hx FX _];refine b3 (m:=K0 (.ref S)) (Ff j rfl ?_);refine b3 (m:=My (Hl (.ref I)) _) (Ip (W.done s _ _ st fun h' tk kk => ?_));refine b3 (FU (gV ?_));exact q h' tk kk
theorem sN {x d:e7} {Q:e7->g6->Prop}
 (h:Ee (model prog w) A.in1 (Ke x) (fun it s₂ => ∃ I fp wr n P St lt,it = .ref I/\Walks prog w A.in1 I fp wr n P St/\St 0 s₂.heap/\(∀ b∈fp,b < s₂.heap.objs.size)/\vf lt prog w A.in1 P wr s₂.heap.objs.size s₂.heap/\vg lt /\
   (n=0 -> ∀ h' tk,(∀ b o,b∉wr->s₂.heap.get? b=some o->h'.get? b=some o)->Q d { s₂ with heap:=h',toks:=tk }) /\
   (0 < n -> ∀ v h' tk,Lst lt P (n - 1) v->(∀ b o,b∉wr->s₂.heap.get? b=some o->h'.get? b=some o)->Q v { s₂ with heap:=h',toks:=tk })) E s) :
 Ee (model prog w) A (call (.builtin "min") [x] [("default",d)]) Q E s:=by
 have nm:(L8 "min" ++ L8 ".loop":String) = "min.loop" := by decide
 refine mH F.kind_min F.plain_min F.entry_min (sM _ _) ?_;refine b3 (m:=Jk "min" ["key", "default"] 0 ⟨[],[("default",d)]⟩) (IU (show Jk "min" ["key", "default"] 0 ⟨[],[("default",d)]⟩=pure [none,some d] from rfl) ?_);refine b3 (gV ?_);refine b3 (G7 h (fun it s₂ U => ?_) fun _ _ e=>e);obtain ⟨I,fp,wr,n,P,St,lt,rfl,W,st,B,q,O,G,Y⟩:=U;refine b3 (Fs ?_);have J:s₂.heap.objs.size∉fp:=fun hm=>Fn _ (B _ hm);rw [nm]
 rcases Nat.eq_zero_or_pos n with z | z
 ·subst z;refine gV ⟨IQ FX _,vy W (W.frame _ _ _ st fun b _ o e=>g0 _ e) (D1 _ rfl) fun h' tk L => ?_⟩;exact G rfl h' tk fun b o j e=>L b o j (g0 _ e)
 ·refine gV ⟨IQ FX _,sD W J q O z (W.frame _ _ _ st fun b _ o e=>g0 _ e) (D1 _ rfl) (fun b o _ _ e=>g0 _ e) fun v h' tk Z L => ?_⟩;exact Y z v h' tk Z fun b o j e=>L b o j (EN (Ed e)) (g0 _ e)
end
section
variable {X:Cx}
noncomputable def iG (ta:TEd):TEd:=fun ρ M Q=>ta ρ M fun x M1 => ∃ (a:Addr) (nss:List (List Int)),x = .ref a/\M1 a=some (.lst (nss.map fun ns => .tup (ns.map .int)))/\(nss=[]->Q .non M1) /\ ∀ ns∈nss,(∀ ms∈nss,HT.lexLt ms ns=false)->Q (.tup (ns.map .int)) M1
theorem sP {ta:TEd} (m:ab ta):ab (iG ta):=fun ρ M Q Q' h q=>m _ _ _ _ (fun x J ⟨a,nss,e,j,B,F⟩=>⟨a,nss,e,j,fun z=>h _ _ (B z),fun i hi G=>h _ _ (F i hi G)⟩) q
theorem yf {e:Expr} {ta:TEd} {p pos kp np:Pos} {j:Nat} (hu:X.A.units+16 < G0) (hc:X.calm=true) (m:ab ta) (ha:PA X [e] (lA X.K (aF ta bm))) (hg:Gl X "min") (hm:X.mg "min" = none)
 (he:Hk pos (Et [e] X.env)=(false,eval e X.env)::Hk pos (Et [] X.env)) (BY:(Hk pos (Et [e] X.env)).any (·.1)=false) :
 PE X (.Call (.Name "min" p) [e] [⟨some "default", .Constant .none j np,kp⟩] pos) (lE X.K (iG ta)):=by
 intro pins s σ H Q I h;obtain ⟨ρ,M,rs,rm,h⟩:=h;refine H9 (cX I hg hm (u := .builtin "min") (by decide +kernel) ?_ (by decide) (by decide))
 refine PyProof.Rows.callWith_kw (thn (ha pos pins s σ H (fun vs H1 => ∃ G v a nss,vs=[v]/\Ext M H G H1/\RM X.K G H1/\v = .ref a/\G a=some (.lst (nss.map fun ns => .tup (ns.map .int)))/\(nss=[]->KE' X.K M H Q .non G) /\ ∀ ns∈nss,(∀ ms∈nss,HT.lexLt ms ns=false)->KE' X.K M H Q (.tup (ns.map .int)) G) I ⟨ρ,M,rs,rm,m _ _ _ _ (fun x G ⟨a,nss,e,L,q0,q1⟩ vs H1 Z z rds => ?qa) h⟩) fun us s1 ⟨vs,H1,I1,r1,G,v,a,nss,ev,Z,z,ex,ea,q0,q⟩ => ?qb) he BY rfl rfl
 case qa =>
  obtain ⟨v,rfl,rv⟩:=rds.one;subst e;exact ⟨G,v,a,nss,rfl,Z,z,O8.mp rv,L,q0,q1⟩
 subst ev ex;refine kws_cons (Constant_none (kws_nil ?_));obtain ⟨u,rfl,ru⟩:=cr r1
 cases (show u=ES a from ru)
 show Ee _ _ (call (.builtin "min") [.ref a] [("default", .none)]) _ _ _;obtain ⟨vs,ha,rvs⟩:=z _ _ ea;obtain ⟨its,r1,p1,hz⟩:=I1.list (SqL.of ha);have hl:=r1.length;have BZ:=rvs.length;rw [Eg] at BZ;have hL:s1.heap.IsList a its.toArray:=p1.isList;have lt:=Ed hL.choose_spec.1;have hn:X.A.in1.handled=none:=I.ok.hd hc;have B:∀ (i:Nat) (v:e7),its.toArray[i]? = some v -> ∃ (ns:List Int) (t:Addr) (ws:List e7),nss[i]? = some ns/\RD X.K H1 (.tup (ns.map .int)) (.ref t)/\v = .ref t/\Nc s1.heap t ws.toArray/\HU ws.toArray.toList ns:=fun i v e=>by
  have e':its[i]? = some v:=by simpa using e
  have hi:i < its.length:=(o7.mp e').1;have O:i < nss.length:=by lia
  obtain ⟨x,hx,rx⟩:=rvs.get (i:=i) (d := .tup (nss[i].map .int)) (by rw [Eo,h7 O];rfl)
  obtain ⟨y,hy,ry⟩:=r1.get hx;rw [e'] at hy;cases hy;obtain ⟨t,ts,rfl,ht,rts⟩:=Od rx;rw [rts.ints_eq] at ht;obtain ⟨ws,r2,p2,_⟩:=I1.tuple ht;exact ⟨nss[i],t,ws,h7 O,rx,ry,p2,pA r2⟩
 refine sN (Gk hL ?_);refine ⟨_,[_,a],[_],_,_,_,fun i j=>HT.lexLt (nss.getD i []) (nss.getD j []),rfl,Walks.list (A:=X.A.in1) hn _ a (EN lt) its.toArray,⟨⟨_,D1 _ rfl,rfl,rfl⟩,hL.push _⟩,fun d hd => ?_,fun s' x y i j Q' E' U hx hy J => ?_,⟨fun a b c=>sH,fun a=>sF⟩,fun h0 h' tk U => ?_,fun h0 v h' tk hP U => ?_⟩
 ·rw [Fx]
  rcases Eb.mp hd with rfl | hd
  ·exact MY _
  ·rcases Eb.mp hd with rfl | hd
   ·exact Mk lt
   ·cases hd
 ·obtain ⟨n1,t1,w1,f1,_,rfl,p1,i1⟩:=B i x hx;obtain ⟨n2,t2,w2,f2,_,rfl,p2,i2⟩:=B j y hy;dsimp only at J;rw [Fy,Fy,f1,f2] at J;have up:∀ {t:Addr} {o:Obj},s1.heap.get? t=some o->s'.heap.get? t=some o:=fun {t o} e=>by
   have F:=Ed e;refine U t o (fun hm => ?_) ?_ (g0 _ e)
   ·simp only [Eb,Eu,or_false] at hm;rw [hm] at F;exact Fn _ F
   ·intro hm;rw [hm,Fx] at F;exact absurd F (by lia)
  obtain ⟨o1,g1,h1⟩:=p1;obtain ⟨o2,g2,h2⟩:=p2;exact HT.lt_tupInts ⟨o1,up g1,h1⟩ ⟨o2,up g2,h2⟩ i1 i2 (by show X.A.units+1 < G0;lia) J
 ·have h0:its.length=0:=by simpa using h0
  refine ⟨.non,H1,I1.kept (fun b o e=>U b o (fun hm => ?_) (g0 _ e)),rfl,q0 (EL.mp (by lia)) _ H1 Z z (Oe.mpr rfl)⟩
  rcases Eb.mp hm with L | hm
  ·exact absurd (L ▸ Ed e) (Fn _)
  ·cases hm
 ·obtain ⟨i,hP,hle⟩:=hP;obtain ⟨ns,t,ws,hm,rx,rfl,_,_⟩:=B i v hP;have hle:∀ ms∈nss,HT.lexLt ms ns=false:=fun ms C0=>by
   obtain ⟨k,Y⟩:=Gg C0;have C1:=(o7.mp Y).1;have:=hle k (by simp;lia)
   dsimp only at this;rw [Fy,Fy,Y,hm] at this;exact this
  refine ⟨.ref t,H1,I1.kept (fun b o e=>U b o (fun hm => ?_) (g0 _ e)),rfl,q ns (EI hm) hle _ H1 Z z rx⟩
  rcases Eb.mp hm with L | hm
  ·exact absurd (L ▸ Ed e) (Fn _)
  ·cases hm
noncomputable def iH (to ti:TEd):TSd:=fun D ρ M=>to ρ M fun x M1=>ti ρ M1 fun i M2 => ∃ (a:Addr) (ds:List _) (n:Nat),x = .ref a/\M2 a=some (.lst ds)/\i = .int (n:Nat)/\n < ds.length/\n < 2 ^ 62/\D.nx ρ (af M2 a (.lst (ds.eraseIdx n)))
theorem sQ {to ti:TEd} (h1:ab to) (h2:ab ti):ax (iH to ti):=fun a b ρ M i q=>h1 _ _ _ _ (fun x L j=>h2 _ _ _ _ (fun k M2 ⟨a,ds,n,e,z,B,F,G,J⟩=>⟨a,ds,n,e,z,B,F,G,i.nx _ _ J⟩) j) q
theorem yg {o i:Expr} {to ti:TEd} {tpos pos:Pos} (mo:ab to) (mi:ab ti) (ho:PE X o (lE X.K to)) (hi:PE X i (lE X.K ti)):PS X (.Delete [.Subscript o i tpos] pos) (lS X.K (iH to ti)):=by
 intro pins s σ H D I h;obtain ⟨ρ,M,A,rs,rm,l,q⟩:=h;refine wpAny_Delete (wpAny_deleteEach_cons (wpAny_delete_Subscript (thn (ho pins s σ H (fun v H1 => ∃ B x,Ext M H B H1/\RM X.K B H1/\RD X.K H1 x v/\ti ρ B fun i M2 => ∃ (a:Addr) (ds:List _) (n:Nat),x = .ref a/\M2 a=some (.lst ds)/\i = .int (n:Nat)/\n < ds.length/\n < 2 ^ 62/\A.nx ρ (af M2 a (.lst (ds.eraseIdx n)))) I ⟨ρ,M,rs,rm,mo _ _ _ _ (fun x B Y v H1 U F G=>⟨B,x,U,F,G,Y⟩) q⟩) fun u s1 ⟨v1,H1,I1,rx,B,x,U,F,G,Y⟩ => ?_)));refine thn (hi pins s1 σ H1 (fun v H2 => ∃ M2 a ds n,Ext B H1 M2 H2/\RM X.K M2 H2/\v = .int (n:Nat)/\x = .ref a/\M2 a=some (.lst ds)/\n < ds.length/\n < 2 ^ 62/\A.nx ρ (af M2 a (.lst (ds.eraseIdx n)))) I1 ⟨ρ,B,rs.mono (U.stab rm),F,mi _ _ _ _ (fun i M2 ⟨a,ds,n,e,L,e2,e3,e4,Z⟩ v H2 x2 j BY => ?qa) Y⟩) fun iv s2 ⟨y,H2,I2,ry,M2,a,ds,n,x2,j,ey,ex,L,hn,BZ,Z⟩ => ?qb
 case qa =>
  subst e2;exact ⟨M2,a,ds,n,x2,j,O7.mp BY,e,L,e3,e4,Z⟩
 subst ey ex
 cases O8.mp G
 cases rx
 obtain ⟨t,rfl⟩:=(show ∃ t,iv=Iw (n:Nat) t from ry);obtain ⟨vs,ha,rvs⟩:=j _ _ L;obtain ⟨z,its,m,rv,hl⟩:=(show ObjOk X.prog X.w H2 s2.heap a (.lst vs) from I2.hok a _ ha);have l1:=rvs.length;have l2:=rv.length;have fit:JF (n:Nat)=true:=by
  unfold JF;simp only [g8,decide_eq_true_eq];lia
 have hk:seqIndex? (n:Nat) its.toArray.size=some n:=(iU (by unfold ixN;rw [if_pos (by lia),if_pos (by simp;lia),Fh])).1
 refine wpAny_delItem_plain (hsz:=by simp;lia) (⟨m,hl⟩:s2.heap.PlainList a its.toArray) fit hk fun h' pl hs=>wpAny_deleteEach_nil ?_
 obtain ⟨m',J⟩:=pl;have re:Vals (vs.eraseIdx n) (its.eraseIdx n):=by
  rw [G5,G5];exact (rv.take n).append (rv.drop (n+1))
 have hL:(its.toArray.eraseIdxIfInBounds n)=(its.eraseIdx n).toArray:=by simp
 rw [hL] at J;have I3:Inv X pins σ (upd H2 a (.lst (vs.eraseIdx n))) { s2 with heap:=h' }:=dB I2 (by rw [ha];exact Fv) hs ⟨_,J⟩ ⟨Fb (List.length_eraseIdx_le _ _) z,its.eraseIdx n,m',re,J⟩
 have st:Stab H2 (upd H2 a (.lst (vs.eraseIdx n))):=j.stabPut L;have x3:Ext M2 H2 (af M2 a (.lst (ds.eraseIdx n))) (upd H2 a (.lst (vs.eraseIdx n))):=Ext.put L;have O:=U.trans (x2.trans x3);have rde:RDs X.K H2 (ds.eraseIdx n) (vs.eraseIdx n):=by
  rw [G5,G5];exact (rvs.take n).append (rvs.drop (n+1))
 exact ⟨σ,_,I3,l.nx ρ _ σ _ O (rs.mono (O.stab rm)) (j.put (o := .lst (ds.eraseIdx n)) L ⟨_,ar,rde.mono st⟩) Z⟩
end
end
end Mi
end L2
namespace L2
open PySem PySem.Spec PyProof.Rows
section
section
variable {prog:Er} {w:EH} {A:EK} {E:e7->g6->Prop} {s:g6} {K:Type} [DecidableEq K] {knd:HeapKind prog w K}
theorem nO {d a:Addr} {xs:List (K×Addr×e7)} {k:K} {z:e7} {Q:e7->g6->Prop} (L:knd.room A) (q:knd.is s.heap k a) (hm:s.heap.DictOfH knd d xs) (hsz:xs.length<=D0)
 (h1:∀ p,HK xs k=some p->Q p.2 { s with toks:=s.toks+knd.draws k })
 (h2:HK xs k=none -> ∀ h',h'.DictOfH knd d (HA xs k a z)->FC d s.heap h'->Q z { s with heap:=h',toks:=s.toks+knd.draws k }) :
 Ee (model prog w) A (La d (.ref a) z) Q E s:=by
 obtain ⟨o,es,ep,ho,Y,hd,he,F,J⟩:=hm;unfold La
 try with_reducible refine FO ?_
 refine b3 (knd.pyHash L q ?_);refine b3 (wpAny_dictFind_heap (s := { s with toks:=s.toks+knd.draws k }) L q ho hd he F J ?_ ?_)
 ·intro B;have G:k∉xs.map (·.1):=not_mem_keys_of_get B;refine b3 (FU (b3 (wpAny_updateDictKeys (hz:=by have e:=size_of_entries he;omega) (s := { s with toks:=s.toks+knd.draws k }) ho hd (gV (h2 (Ir B) _ ⟨_,_,ep+1,GB _ ho (Obj.isFreed_of_dict (Lb hd _)),
   Y.mapDictKeys _,Lb hd _, ?_, ?_, ?_⟩ (GS ..))))))
  ·rw [Nl (Ir B)];simp [he,entryOfKey]
  ·rw [Nl (Ir B)];intro x hx
   rcases Ea.mp hx with hx | hx
   ·exact knd.keeps (F x hx) ho hd (GS ..)
   ·simp only [LR] at hx;subst hx;exact knd.keeps q ho hd (GS ..)
  ·rw [Nl (Ir B)];rw [FA,Iu];refine ⟨J,by simp, ?_⟩
   intro x hx y O;simp only [Ew,Ii,LR] at O;subst O;exact fun e=>G (e ▸ hx)
 ·intro j p U;refine b3 (wpAny_dictEntries (s := { s with toks:=s.toks+knd.draws k }) ho hd ?_)
  rw [entry_at he j,U];exact b3 (FU (gV (h1 p (atKey_of_get J U))))
end
section
variable {X:Cx} {pins:List (Addr×Obj)} {σ:St} {H:Hp} {s:g6} {a b:Addr} {A:EK} {E:e7->g6->Prop} {xs:List (NK×Addr×e7)} {k:NK}
theorem vz (I:Inv X pins σ H s) (e:H a=some (.ext (NDict a xs))):∀ b,ES a = .ref b -> ∃ ob,s.heap.get? b=some ob/\ob.dict=none:=fun b q=>by
 cases q
 obtain ⟨⟨z,y,o,es,ep,h1,h2,_⟩,_⟩:=(show ObjOk X.prog X.w H s.heap a (.ext (NDict a xs)) from I.hok a _ e);exact ⟨o,h1,h2.2.1⟩
theorem A4 {z:e7} {Q:e7->g6->Prop} (B:A.units+16 < G0) (I:Inv X pins σ H s) (e:H a=some (.ext (NDict a xs))) (ks:∀ x∈xs,Kt H x.1 x.2.1) (kb:Kt H k b) (U:xs.length < D0)
 (h1:∀ p s',HK xs k=some p->Inv X pins σ H s'->Q p.2 s') (h2:HK xs k=none -> ∀ s',Inv X pins σ (upd H a (.ext (NDict a (HA xs k b z)))) s'->Q z s') :
 Ee (model X.prog X.w) A (call (.builtin "dict.setdefault") [.ref a, .ref b,z]) Q E s:=by
 obtain ⟨hz,hd,dd⟩:=kf I.hok e ks;refine EG J9 dd.typeIs PySem.F.entry_dict_setdefault ?_ (PySem.F.args_dict_setdefault_3 _ _ _);unfold GI.«dict.setdefault»;refine b3 ?_;unfold Builtin.Dict.keyAndDefault;refine b3 (wpAny_notOrdered_dict dd.typeIs ?_);show Ee _ _ (pure (a,ES b,some z)) _ _ s;refine gV ?_;show Ee _ _ (if (a==G6)=true then _ else (La a (.ref b) z >>= _)) _ _ s
 rw [if_neg (by rw [hd];exact D2)]
 refine b3 (nO (knd:=gd X.prog X.w) (kg B) (dC I.hok kb) dd hz (fun p G=>gV ⟨_,rfl,h1 p _ G (I.tok _)⟩) fun J h' dd' hs=>gV ⟨_,rfl,h2 J _ ?_⟩);obtain ⟨q,es,ep,j,g2,g3,L,_,O⟩:=dd';refine dB I (by rw [e];exact Fv) hs ⟨q,j⟩ ⟨⟨?_,hd,q,es,ep,j,g2,g3,L,O⟩,⟨q,j⟩,NDict.stay⟩
 have:=fS xs k b z;lia
theorem Inv.freezeN (I:Inv X pins σ H s) (e:H a=some (.ext (NDict a xs))):∃ o,Inv X pins σ (upd H a (.frz o (.ext (NDict a xs)))) s:=by
 obtain ⟨⟨z,y,o,es,ep,h1,h2⟩,j⟩:=id (show ObjOk X.prog X.w H s.heap a (.ext (NDict a xs)) from I.hok a _ e);have mu:Mut (H a):=by rw [e];exact Fv
 have u:Un X.fs [] H (upd H a (.frz o (.ext (NDict a xs)))) s.heap s.heap:=Un.write mu (.inl rfl) (fun b u _ q=>q) ⟨_,h1⟩;have ok:HOk X.prog X.w (upd H a (.frz o (.ext (NDict a xs)))) s.heap:=HOk.write I.hok mu (.inl rfl) (fun b u _ q=>q) ⟨_,h1⟩
  ⟨h1,(I.hok a _ e).stay (fun b u _ q=>q) (fun b q=>by rw [ak (fun z=>by subst z;rw [e] at q;cases q)];exact q) (fun b xs q=>by rw [ak (fun z=>by subst z;rw [e] at q;cases q)];exact q)⟩
 exact ⟨o,I.un (t':=s.toks) u ok⟩
end
namespace Mi
section
variable {K:Frag} {M:Mem} {H:Hp}
theorem sR:∀ {k:NK} {vs:List V},FG (Kt1 H) k vs->RDs K H (k.map kd1) vs
 | [],_,p=>by cases p;exact RDs.nil
 | x::k,_,p=>by
   cases p with
   | cons j p2 =>
     refine RDs.cons ?_ (sR p2)
     cases x with
     | inl i=>exact O7.mpr j
     | inr ks =>
       obtain ⟨b,rfl,e⟩:=j;exact Oh ⟨b,_,rfl,e,Oq ks⟩
theorem Be {k:NK} {b:Addr} (h:Kt H k b):RD K H (kdN k) (.ref b):=by
 obtain ⟨vs,e,p⟩:=h;exact Oh ⟨b,vs,rfl,e,sR p⟩
theorem sU:∀ {kvs:List (NK×D)} {xs:List (NK×Addr×e7)},PN K H kvs xs -> ∀ (i:Nat) x,xs[i]? = some x -> ∃ (kv:NK×D) (v:V),kvs[i]? = some kv/\RD K H (kdN kv.1) (.ref x.2.1)/\RelV v x.2.2/\RD K H kv.2 v
 | _,_, .nil,_,_,h=>by simp at h
 | _,_, .cons (a:=kv) r t,0,_,h=>by
   simp at h;subst h;obtain ⟨e,kt,v,rv,rd⟩:=r;exact ⟨kv,v,rfl,by rw [e];exact Be kt,rv,rd⟩
 | _,_, .cons _ t,i+1,x,h=>by
   obtain ⟨kv,v,h1,h2⟩:=sU t i x (by simpa using h)
   exact ⟨kv,v,by simpa using h1,h2⟩
noncomputable def kvN (kv:NK×D):D := .tup [kdN kv.1,kv.2]
noncomputable def iI (to tk tx:TEd):TEd:=fun ρ M Q=>to ρ M fun x M1 => ∃ a kvs,x = .ref a/\M1 a=some (.dcn kvs)/\tk ρ M1 fun k M2=>tx ρ M2 fun z M3 => ∃ kvs' q,M3 a=some (.dcn kvs')/\k=kdN q/\okK q=true/\kvs'.length < D0 /\
 (∀ d,ng kvs' q=some d->Q d M3)/\(ng kvs' q=none->Q z (af M3 a (.dcn (np kvs' q z))))
theorem sV {to tk tx:TEd} (mo:ab to) (mk:ab tk) (mx:ab tx):ab (iI to tk tx):=fun ρ M Q Q' h q =>
 mo _ _ _ _ (fun x M1 ⟨a,kvs,e,j,B⟩=>⟨a,kvs,e,j,mk _ _ _ _ (fun k M2 F=>mx _ _ _ _ (fun z M3 ⟨kvs',q,G,J,L,O,U,Y⟩=>⟨kvs',q,G,J,L,O,fun d hd=>h _ _ (U d hd),fun Z=>h _ _ (Y Z)⟩) F) B⟩) q
noncomputable def qm (i:Nat) (t:TSd):TSd:=fun A ρ M => ∃ a kvs, ρ[i]? = some (some (.ref a))/\M a=some (.dcn kvs)/\t A ρ (af M a (.fdn kvs))
theorem sW {i:Nat} {t:TSd} (h:ax t):ax (qm i t):=fun a b ρ M l ⟨p,kvs,e,m,q⟩=>⟨p,kvs,e,m,h _ _ _ _ l q⟩
noncomputable def dH (ta:TEd):TId:=fun ρ M R=>ta ρ M fun x M1 => ∃ a kvs,x = .ref a/\M1 a=some (.fdn kvs)/\R (kvs.map kvN) (fun _=>True) M1
theorem nQ {ta:TEd} (h:ab ta):bK (dH ta):=fun ρ M Q Q' i q=>h _ _ _ _ (fun x B ⟨a,ds,e,j,z⟩=>⟨a,ds,e,j,i _ _ _ z⟩) q
end
section
variable {X:Cx}
theorem yh {o e f:Expr} {to tk tx:TEd} {apos cpos:Pos} (hu:X.A.units+16 < G0) (mo:ab to) (mk:ab tk) (mx:ab tx) (ho:PE X o (lE X.K to)) (he:PE X e (lE X.K tk)) (hf:PE X f (lE X.K tx)) (m:M2 X o "setdefault" apos e f cpos) :
 PE X (.Call (.Attribute o "setdefault" apos) [e,f] [] cpos) (lE X.K (iI to tk tx)):=by
 intro pins s σ H Q I h;obtain ⟨ρ,M,rs,rm,q⟩:=h;have hq:lE X.K to σ H (fun v H1 => ∃ O a kvs,Ext M H O H1/\RM X.K O H1/\v = .ref a/\O a=some (.dcn kvs)/\tk ρ O fun k M2=>tx ρ M2 fun z j => ∃ kvs' q,j a=some (.dcn kvs')/\k=kdN q/\okK q=true/\kvs'.length < D0/\(∀ d,ng kvs' q=some d->KE' X.K M H Q d j)/\(ng kvs' q=none->KE' X.K M H Q z (af j a (.dcn (np kvs' q z))))) :=
  ⟨ρ,M,rs,rm,mo _ _ _ _ (fun x O ⟨a,kvs,e,e1,q1⟩ v H1 x1 G C1=>by
    subst e;exact ⟨O,a,kvs,x1,G,O8.mp C1,e1,q1⟩) q⟩
 refine wpAny_Call_method m.base m.few m.line PySem.F.plainAttrs_dict J9 PySem.F.type_dict_setdefault (thn (ho pins s σ H _ I hq) fun u s1 ⟨x,H1,I1,rx,O,a,kvs,x1,G,ex,e1,q1⟩ => ?_);subst ex;obtain rfl:u=ES a:=rx;obtain ⟨xs,hx,pn⟩:=G a _ e1;refine ⟨kM I1 hx,vz I1 hx, ?_⟩;rw [m.trees];have BZ:=rs.mono (x1.stab rm);have C2:lE X.K tk σ H1 (fun v H2 => ∃ M2 k,Ext O H1 M2 H2/\RM X.K M2 H2/\RD X.K H2 k v/\tx ρ M2 fun z j => ∃ kvs' q,j a=some (.dcn kvs')/\k=kdN q/\okK q=true/\kvs'.length < D0/\(∀ d,ng kvs' q=some d->KE' X.K M H Q d j)/\(ng kvs' q=none->KE' X.K M H Q z (af j a (.dcn (np kvs' q z))))) :=
  ⟨ρ,O,BZ,G,mk _ _ _ _ (fun k M2 q2 v H2 x2 U BY=>⟨M2,k,x2,U,BY,q2⟩) q1⟩
 refine Ij rfl (KP (Jq (thn (he pins s1 σ H1 _ I1 C2) fun iv s2 ⟨y,H2,I2,ry,M2,k,x2,U,BY,q2⟩ => ?_)));have C3:=BZ.mono (x2.stab G);have C4:lE X.K tx σ H2 (fun v J => ∃ j z kvs' q,Ext M2 H2 j J/\RM X.K j J/\RD X.K J z v/\j a=some (.dcn kvs')/\k=kdN q/\okK q=true/\kvs'.length < D0/\(∀ d,ng kvs' q=some d->KE' X.K M H Q d j)/\(ng kvs' q=none->KE' X.K M H Q z (af j a (.dcn (np kvs' q z))))) :=
  ⟨ρ,M2,C3,U,mx _ _ _ _ (fun z j ⟨kvs',q,h1,h2,h3,h4,h5,h6⟩ v J x3 B Y=>⟨j,z,kvs',q,x3,B,Y,h1,h2,h3,h4,h5,h6⟩) q2⟩
 refine Jq (thn (hf pins s2 σ H2 _ I2 C4) fun fv s3 ⟨z,J,I3,rz,j,zd,kvs',kq,x3,B,Y,e3,ek,ok,hl,q3,q4⟩=>Mb ?_);subst ek;obtain ⟨b,rfl,kb⟩:=kl ok (BY.mono (x3.stab U))
 cases ry
 obtain ⟨ys,hy,L⟩:=B a _ e3;have C0:=x1.trans (x2.trans x3);refine A4 hu I3 hy (dG L) kb (by rw [<- Gw L];exact hl) (fun p s4 hp I4 => ?_) fun hn s4 I4 => ?_
 ·rcases fD (k:=kq) L with ⟨a1,Z⟩ | ⟨d,p',v,a1,Z,rv,rd⟩
  ·rw [hp] at Z;cases Z
  ·rw [hp] at Z;cases Z;exact ⟨v,J,I4,rv,q3 d a1 v J C0 B rd⟩
 ·rcases fD (k:=kq) L with ⟨a1,Z⟩ | ⟨d,p',v,a1,Z,rv,rd⟩
  ·have st:Stab J (upd J a (.ext (NDict a (HA ys kq b fv)))):=B.stabPut e3;have x4:Ext j J (af j a (.dcn (np kvs' kq zd))) (upd J a (.ext (NDict a (HA ys kq b fv)))):=Ext.put e3;have C5:=sL kb rz Y L;refine ⟨z,_,I4,rz,q4 a1 z _ (C0.trans x4) (B.put (o := .dcn (np kvs' kq zd)) e3 ⟨_,ar,Ob C5 fun _ _ ⟨z1,z2,v,z3,z4⟩=>⟨z1,z2.keeps st.tup,v,z3,z4.mono st⟩⟩) (Y.mono st)⟩
  ·rw [hn] at Z;cases Z
theorem yi {st:Stmt} {i:Nat} {t:TSd} (h:PS X st (lS X.K t)):PS X st (lS X.K (qm i t)):=by
 intro pins s σ H D I ⟨ρ,M,A,rs,rm,lk,a,kvs,e,m,q⟩;obtain ⟨xs,hx,pn⟩:=rm a _ m;obtain ⟨o,I'⟩:=I.freezeN hx;have sb:Stab H (upd H a (.frz o (.ext (NDict a xs)))):=rm.stabPut m;exact h pins s σ _ D I' ⟨ρ,af M a (.fdn kvs),A,rs.mono sb,rm.put m ⟨o,xs,ar,Ob pn fun _ _ ⟨j,z,v,B,F⟩=>⟨j,z.keeps sb.tup,v,B,F.mono sb⟩⟩,lk.ext (Ext.put m),q⟩
theorem sX {elts:List Expr} {cx} {tpos:Pos} {e:Expr} {ta:TEd} {apos cpos:Pos} (m:ab ta) (he:PE X e (lE X.K ta)) (z:JS e "items" X.env (eval e X.env)=eval e X.env) (B:(apos.endLine==cpos.line)=true) :
 PI X (.Tuple elts cx tpos) (.Call (.Attribute e "items" apos) [] [] cpos) (lI X.K (dH ta)):=by
 intro pins s σ H R I h;obtain ⟨ρ,M,rs,rm,q⟩:=h;have hq:lE X.K ta σ H (fun v H1 => ∃ a kvs L,v = .ref a/\Ext M H L H1/\RM X.K L H1/\L a=some (.fdn kvs) /\ ∀ J,eF X.K H1 (kvs.map kvN) (fun _=>True) J->R J H1) :=
  ⟨ρ,M,rs,rm,m _ _ _ _ (fun x L ⟨a,kvs,e,e1,q1⟩ v H1 x1 j rd1=>by
    subst e
    cases O8.mp rd1
    exact ⟨a,kvs,L,rfl,x1,j,e1,fun J ij=>q1 J H1 x1 j ij⟩) q⟩
 refine wpAny_Call_method0_late z B (thn (he pins s σ H _ I hq) fun u s1 ⟨x,H1,I1,r1,a,kvs,L,e0,x1,j,e1,q1⟩ => ?_);subst e0;obtain rfl:u=ES a:=r1;obtain ⟨o,xs,hp,pn⟩:=j _ _ e1;obtain ⟨O,⟨hz,BY,o',es,ep,g1,g2,g3,g4,g5⟩,_⟩:=I1.hok a _ hp;rw [O] at g1
 cases g1
 have ty:s1.TypeIs (.ref a) "dict" := ⟨o,O,g2.1⟩;have t2:∀ b,ES a = .ref b -> ∃ ob,s1.heap.get? b=some ob/\ob.dict=none:=fun b q=>by cases q;exact ⟨o,O,g2.2.1⟩
 obtain ⟨cd,dd,dat,sl⟩:=o;dsimp only at g3;subst g3;obtain rfl:cd = .type "dict" := g2.1;have lz:kvs.length=es.size:=by
  have h1:=Gw pn;have h2:=congrArg GZ g4;simp at h2;lia
 refine ⟨"dict", "dict.items",F.plainAttrs_dict,Mx,F.type_dict_items,ty,t2,Ij rfl (PySem.evalArgs_none ?_)⟩;refine sB ty BY O ?_;have kpv:∀ b o,s1.heap.get? b=some o->(s1.heap.push { cls:=Fk "dict_items",data:=JN #[ES a] }).get? b=some o:=fun b o e=>g0 _ e;have I2:Inv X pins σ H1 { s1 with heap:=s1.heap.push { cls:=Fk "dict_items",data:=JN #[ES a] } }:=I1.kept (t':=s1.toks) kpv
 refine It.it_view (s := { s1 with heap:=s1.heap.push { cls:=Fk "dict_items",data:=JN #[ES a] } }) (D1 _ rfl) (kpv _ _ O) ?_
 refine ⟨_,_,_,_,H1,rfl,I2.kept (t':=s1.toks) fun b o e=>g0 _ e,qk (G:=fun H=>H a=some (.frz { cls := .type "dict",dict:=dd,data := .dict es ep,slots:=sl } (.ext (NDict a xs)))/\PN X.K H kvs xs) (yl:=fun i u v H => ∃ kv,kvs[i]? = some kv/\RD X.K H (kdN kv.1) u/\RD X.K H kv.2 v) a _ (fun H h=>⟨_,h.1⟩) (fun i H h hok ⟨ha,pn'⟩ e he => ?_),⟨Gc _,_,_,D1 _ rfl⟩,fun b hb => ?_,q1 _ ?_⟩
 ·have U:es.toList[i]? = some e:=by simpa using he
  rw [g4,Eo] at U;obtain ⟨x,hx,rfl⟩:=Hb.mp U;obtain ⟨kv,v,y1,y2,y3,y4⟩:=sU pn' i x hx;exact ⟨.ref x.2.1,v,rfl,y3,kv,y1,y2,y4⟩
 ·have e:b=(s1.heap.push { cls:=Fk "dict_items",data:=JN #[ES a] }).objs.size:=by simpa using hb
  subst e;exact I2.fpOk (Ec _) (I2.hok.fresh (Ec _))
 ·intro M' H' st rm' _ i;have Y:=st.frz _ _ _ hp;have pn':PN X.K H' kvs xs:=Ob pn fun _ _ ⟨z1,z2,v,z3,z4⟩=>⟨z1,z2.keeps st.tup,v,z3,z4.mono st⟩;rw [Eg,lz];refine ⟨fun hi=>⟨hi,Y,pn'⟩,fun hi=>⟨⟨hi,Y,pn'⟩,fun x H'' y => ?_⟩⟩;obtain ⟨p,u,v,n,e,e2,kv,y1,y2,y3⟩:=y;subst e e2;have Z:Stab H' (upd H' p (.tup [u,v])):=(Og (M:=M') n).stab rm';exact ⟨.inr ⟨p,[u,v],n,rfl⟩,kvN kv,by rw [Eo,y1];rfl,Oh ⟨p,[u,v],rfl,ar,RDs.cons (y2.mono Z) (RDs.cons (y3.mono Z) RDs.nil)⟩⟩
end
section
inductive BOp where | add | sub | mul | fdiv | mod | pow
inductive COp where | eq | ne | lt | gt | ge | is | isn | inN
inductive BF where | len | abs | min2 | int | list | tuple | all | any | sorted
inductive MF where | append
inductive MF0 where | clear
mutual
inductive MG where
 | name (i:Nat)
 | tup (gs:MGs)
inductive MGs where
 | nil
 | cons (g:MG) (r:MGs)
end
mutual
inductive ME where
 | var (i:Nat)
 | int (i:Int)
 | bl (b:Bool)
 | non
 | bin (op:BOp) (a b:ME)
 | neg (a:ME)
 | cmp (op:COp) (a b:ME)
 | and (es:MEs)
 | or (es:MEs)
 | not (a:ME)
 | ite (c:MT) (a b:ME)
 | tup (es:MEs)
 | lst (es:MEs)
 | ix (a b:ME)
 | sl (a:ME) (lo hi:MO)
 | step (a:ME) (lo:MO) (st:ME)
 | call (f:Nat) (es:MEs)
 | blt (f:BF) (es:MEs)
 | isin (a:ME) (T:String)
 | isin2 (a:ME) (T U:String)
 | dnewN
 | ixN (a b:ME)
 | minD (a:ME)
 | sdef (o k x:ME)
 | meth (m:MF) (o a:ME)
 | comp (fr:List (Option Nat)) (N:List Str) (c:MC)
inductive MEs where
 | nil
 | cons (e:ME) (r:MEs)
inductive MO where
 | none
 | some (e:ME)
inductive MT where
 | tru (e:ME)
 | cmp (op:COp) (a b:ME)
 | and (ts:MTs)
 | or (ts:MTs)
 | not (t:MT)
inductive MTs where
 | nil
 | cons (t:MT) (r:MTs)
inductive MI where
 | seq (e:ME)
 | rng1 (a:ME)
 | zip (a b:ME)
 | enum (a:ME)
 | itemsN (a:ME)
inductive MC where
 | last (src:MI) (g:MG) (ifs:MTs) (elt:ME)
 | more (src:MI) (g:MG) (ifs:MTs) (rest:MC)
end
mutual
inductive MS where
 | asg (g:MG) (e:ME)
 | par (i j:Nat) (a b:ME)
 | put (o i e:ME)
 | drop (e:ME)
 | ret (e:ME)
 | ite (c:MT) (a b:MSs)
 | for (g:MG) (src:MI) (b:MSs)
 | while (c:MT) (b:MSs)
 | frzN (i:Nat) (s:MS)
 | dell (o i:ME)
 | putN (o i e:ME)
 | pass | brk | cnt
inductive MSs where
 | nil
 | cons (s:MS) (r:MSs)
end
noncomputable def opB:BOp->R2d
 | .add=>gh | .sub=>pM | .mul=>j0 | .fdiv=>kh | .mod=>pN | .pow=>pO
noncomputable def opC:COp->R2d
 | .eq=>wEq | .ne=>wNe | .lt=>wLt| .gt=>wGt | .ge=>wGe | .is=>wIs | .isn=>q8| .inN=>vj
noncomputable def opF:BF->RAd
 | .len=>dy| .abs=>kW| .min2=>ki | .int=>j5 | .list=>pT | .tuple=>lc| .all=>q9 | .any=>va | .sorted=>ja
noncomputable def opM:MF->D->List D->Mem->QD->Prop
 | .append=>j7
noncomputable def A5:MF0->D->List D->Mem->QD->Prop
 | .clear=>zQ
theorem mJ:∀ o,aJ (opB o)
 | .add=>uz | .sub=>uA | .mul=>uB | .fdiv=>rC | .mod=>uC | .pow=>uD
theorem e9:∀ o,aJ (opC o)
 | .eq=>xo | .ne=>xp | .lt=>xt| .gt=>xu | .ge=>xv | .is=>xP | .isn=>v7| .inN=>vp
theorem vA:∀ o,aR (opF o)
 | .len=>kU| .abs=>kX| .min2=>jz | .int=>kY | .list=>jA | .tuple=>i8| .all=>lL | .any=>lM | .sorted=>fW
theorem vB:∀ o,kj (opM o)
 | .append=>fT
noncomputable abbrev Phi:=Nat->RAd
mutual
noncomputable def bG:MG->BT
 | .name i=>bn i
 | .tup gs=>pV (bGs gs)
noncomputable def bGs:MGs->BTs
 | .nil=>gn
 | .cons g r=>bY (bG g) (bGs r)
end
mutual
noncomputable def wE (Φ:Phi):ME->TEd
 | .var i=>bI i
 | .int i=>wC (.int i)
 | .bl b=>wC (.bl b)
 | .non=>wC .non
 | .bin op a b=>wOp (opB op) (wE Φ a) (wE Φ b)
 | .neg a=>wUn j3 (wE Φ a)
 | .cmp op a b=>wOp (opC op) (wE Φ a) (wE Φ b)
 | .and es=>wAnds Φ es
 | .or es=>wOrs Φ es
 | .not a=>ig (wE Φ a)
 | .ite c a b=>wIf (wT Φ c) (wE Φ a) (wE Φ b)
 | .tup es=>wAr kQ (wA Φ es)
 | .lst es=>wAr iY (wA Φ es)
 | .ix a b=>wOp wIx (wE Φ a) (wE Φ b)
 | .sl a lo hi=>wSl (wE Φ a) (wO Φ lo) (wO Φ hi)
 | .step a lo st=>iE (wE Φ a) (wO Φ lo) (fe (wE Φ st))
 | .call f es=>wAr (Φ f) (wA Φ es)
 | .blt f es=>wAr (opF f) (wA Φ es)
 | .isin a T=>ii T (wE Φ a)
 | .isin2 a T U=>eO T U (wE Φ a)
 | .dnewN=>eP
 | .ixN a b=>wOp vm (wE Φ a) (wE Φ b)
 | .minD a=>iG (wE Φ a)
 | .sdef o k x=>iI (wE Φ o) (wE Φ k) (wE Φ x)
 | .meth m o a=>wBM (opM m) (wE Φ o) (aF (wE Φ a) bm)
 | .comp fr _ c=>wCmp Φ fr c
noncomputable def wA (Φ:Phi):MEs->TAd
 | .nil=>bm
 | .cons e r=>aF (wE Φ e) (wA Φ r)
noncomputable def wAnds (Φ:Phi):MEs->TEd
 | .nil=>fun _ _ _=>False
 | .cons e .nil=>wE Φ e
 | .cons e (.cons f r)=>ie (wE Φ e) (wAnds Φ (.cons f r))
noncomputable def wOrs (Φ:Phi):MEs->TEd
 | .nil=>fun _ _ _=>False
 | .cons e .nil=>wE Φ e
 | .cons e (.cons f r)=>ll (wE Φ e) (wOrs Φ (.cons f r))
noncomputable def wO (Φ:Phi):MO->TOd
 | .none=>dD
 | .some e=>fe (wE Φ e)
noncomputable def wT (Φ:Phi):MT->TTd
 | .tru e=>lh (wE Φ e)
 | .cmp op a b=>dY (wOp (opC op) (wE Φ a) (wE Φ b))
 | .and ts=>wAndTs Φ ts
 | .or ts=>wOrTs Φ ts
 | .not t=>i9 (wT Φ t)
noncomputable def wAndTs (Φ:Phi):MTs->TTd
 | .nil=>fun _ _ _=>False
 | .cons e .nil=>wT Φ e
 | .cons e (.cons f r)=>ic (wT Φ e) (wAndTs Φ (.cons f r))
noncomputable def wOrTs (Φ:Phi):MTs->TTd
 | .nil=>fun _ _ _=>False
 | .cons e .nil=>wT Φ e
 | .cons e (.cons f r)=>lj (wT Φ e) (wOrTs Φ (.cons f r))
noncomputable def wTl (Φ:Phi):MTs->List TTd
 | .nil => []
 | .cons t r=>wT Φ t::wTl Φ r
noncomputable def wI (Φ:Phi):MI->TId
 | .seq e=>ln (wE Φ e)
 | .rng1 a=>ik (aF (wE Φ a) bm)
 | .zip a b=>lq (wE Φ a) (wE Φ b)
 | .enum a=>im (wE Φ a)
 | .itemsN a=>dH (wE Φ a)
noncomputable def wCl (Φ:Phi):MC->TCd
 | .last src g ifs elt=>cT (wI Φ src) (bG g) (b6 (wTl Φ ifs) (bM (wE Φ elt)))
 | .more src g ifs rest=>cT (wI Φ src) (bG g) (b6 (wTl Φ ifs) (wCl Φ rest))
noncomputable def wCmp (Φ:Phi) (fr:List (Option Nat)):MC->TEd
 | .last src g ifs elt=>fg fr (wI Φ src) (bG g) (b6 (wTl Φ ifs) (bM (wE Φ elt)))
 | .more src g ifs rest=>fg fr (wI Φ src) (bG g) (b6 (wTl Φ ifs) (wCl Φ rest))
end
mutual
noncomputable def wS (Φ:Phi):MS->TSd
 | .asg g e=>gp (wE Φ e) (bG g)
 | .par i j a b=>lF (aF (wE Φ a) (aF (wE Φ b) bm)) (bY (bn i) (bY (bn j) gn))
 | .put o i e=>lJ (wE Φ e) (wE Φ o) (wE Φ i)
 | .drop e=>iu (wE Φ e)
 | .ret e=>lD (wE Φ e)
 | .ite c a b=>sIf (wT Φ c) (wSs Φ a) (wSs Φ b)
 | .for g src b=>lH (wI Φ src) (bG g) (wSs Φ b)
 | .while c b=>eK (wT Φ c) (wSs Φ b)
 | .frzN i s=>qm i (wS Φ s)
 | .dell o i=>iH (wE Φ o) (wE Φ i)
 | .putN o i e=>iF (wE Φ e) (wE Φ o) (wE Φ i)
 | .pass=>fh
 | .brk=>eJ
 | .cnt=>iq
noncomputable def wSs (Φ:Phi):MSs->TSd
 | .nil=>fh
 | .cons s r=>lB (wS Φ s) (wSs Φ r)
end
section
variable {Φ:Phi} (hΦ:∀ f,aR (Φ f))
include hΦ
mutual
theorem mE:∀ m,ab (wE Φ m)
 | .var _=>ur
 | .int _=>kP
 | .bl _=>kP
 | .non=>kP
 | .bin op a b=>cR (mJ op) (mE a) (mE b)
 | .neg a=>xj kS (mE a)
 | .cmp op a b=>cR (e9 op) (mE a) (mE b)
 | .and es=>mAnds es
 | .or es=>mOrs es
 | .not a=>rJ (mE a)
 | .ite c a b=>xD (mT c) (mE a) (mE b)
 | .tup es=>eY rq (mA es)
 | .lst es=>eY rA (mA es)
 | .ix a b=>cR oj (mE a) (mE b)
 | .sl a lo hi=>xF (mE a) (mO lo) (mO hi)
 | .step a lo st=>sC (mE a) (mO lo) (eD (mE st))
 | .call f es=>eY (hΦ f) (mA es)
 | .blt f es=>eY (vA f) (mA es)
 | .isin a T=>rL (mE a)
 | .isin2 a T U=>qi (mE a)
 | .dnewN=>ql
 | .ixN a b=>cR mF (mE a) (mE b)
 | .minD a=>sP (mE a)
 | .sdef o k x=>sV (mE o) (mE k) (mE x)
 | .meth m o a=>xH (vB m) (mE o) (aE (mE a) aD)
 | .comp fr _ c=>mCmp fr c
theorem mA:∀ m,b7 (wA Φ m)
 | .nil=>aD
 | .cons e r=>aE (mE e) (mA r)
theorem mAnds:∀ m,ab (wAnds Φ m)
 | .nil=>fun _ _ _ _ _ q=>q.elim
 | .cons e .nil=>mE e
 | .cons e (.cons f r)=>rH (mE e) (mAnds (.cons f r))
theorem mOrs:∀ m,ab (wOrs Φ m)
 | .nil=>fun _ _ _ _ _ q=>q.elim
 | .cons e .nil=>mE e
 | .cons e (.cons f r)=>uN (mE e) (mOrs (.cons f r))
theorem mO:∀ m,bX (wO Φ m)
 | .none=>nI
 | .some e=>eD (mE e)
theorem mT:∀ m,aB (wT Φ m)
 | .tru e=>uL (mE e)
 | .cmp op a b=>uu (cR (e9 op) (mE a) (mE b))
 | .and ts=>mAndTs ts
 | .or ts=>mOrTs ts
 | .not t=>rF (mT t)
theorem mAndTs:∀ m,aB (wAndTs Φ m)
 | .nil=>fun _ _ _ _ _ q=>q.elim
 | .cons e .nil=>mT e
 | .cons e (.cons f r)=>rG (mT e) (mAndTs (.cons f r))
theorem mOrTs:∀ m,aB (wOrTs Φ m)
 | .nil=>fun _ _ _ _ _ q=>q.elim
 | .cons e .nil=>mT e
 | .cons e (.cons f r)=>uM (mT e) (mOrTs (.cons f r))
theorem mTl:∀ m, ∀ t∈wTl Φ m,aB t
 | .nil=>by rw [wTl];intro t j;simp at j
 | .cons t r=>by
  rw [wTl];intro t' j
  rcases Eb.mp j with e | e
  ·rw [e];exact mT t
  ·exact mTl r t' e
theorem mI:∀ m,bK (wI Φ m)
 | .seq e=>uQ (mE e)
 | .rng1 a=>rO (aE (mE a) aD)
 | .zip a b=>uR (mE a) (mE b)
 | .enum a=>rP (mE a)
 | .itemsN a=>nQ (mE a)
theorem mCl:∀ m,bC (wCl Φ m)
 | .last src g ifs elt=>fU (mI src) (aG (bb (mE elt)) (mTl ifs))
 | .more src g ifs rest=>fU (mI src) (aG (mCl rest) (mTl ifs))
theorem mCmp (fr:List (Option Nat)):∀ m,ab (wCmp Φ fr m)
 | .last src g ifs elt=>jB (mI src) (aG (bb (mE elt)) (mTl ifs))
 | .more src g ifs rest=>jB (mI src) (aG (mCl rest) (mTl ifs))
end
mutual
theorem mS:∀ m,ax (wS Φ m)
 | .asg g e=>uU (mE hΦ e)
 | .par i j a b=>uV (aE (mE hΦ a) (aE (mE hΦ b) aD))
 | .put o i e=>v4 (mE hΦ e) (mE hΦ o) (mE hΦ i)
 | .drop e=>rS (mE hΦ e)
 | .ret e=>uS (mE hΦ e)
 | .ite c a b=>uT (mT hΦ c) (mSs a) (mSs b)
 | .for g src b=>uW (mI hΦ src) (mSs b)
 | .while c b=>pX (mT hΦ c) (mSs b)
 | .frzN i s=>sW (mS s)
 | .dell o i=>sQ (mE hΦ o) (mE hΦ i)
 | .putN o i e=>sK (mE hΦ e) (mE hΦ o) (mE hΦ i)
 | .pass=>jD
 | .brk=>pW
 | .cnt=>rQ
theorem mSs:∀ m,ax (wSs Φ m)
 | .nil=>jD
 | .cons s r=>rR (mS s) (mSs r)
end
end
end
section
structure Ctx where
 Γ:List Str
 N:List Str
 sc:Scope
 fn:List Str
 cs:List (Str×D)
noncomputable def glB (sc:Scope) (x:Str):Bool:=sc.names.lookup x==some .globalImplicit
noncomputable def vC (sc:Scope) (x:Str):Bool:=sc.names.lookup x==some .local || sc.names.lookup x==some .cell || sc.names.lookup x==some .free
noncomputable def vD (sc:Scope) (x:Str):Bool:=sc.names.lookup x==some .local || sc.names.lookup x==some .cell
noncomputable def aI:Expr->Bool
 | .Starred .. => false
 | _=>true
noncomputable def mK:Expr->Bool
 | .Name .. | .Call .. | .Subscript .. | .Constant .. | .BinOp .. | .Attribute .. => true
 | _=>false
noncomputable def bS:Expr->Bool
 | .Slice .. => false
 | _=>true
noncomputable def dI:Expr->Bool
 | .ListComp .. | .SetComp .. | .DictComp .. => false
 | _=>true
noncomputable def km:Expr->Bool
 | .Set .. => false
 | _=>true
noncomputable def dJ:Expr->Bool
 | .Call _ (_::_) _ _=>true
 | .Call .. => false
 | _=>true
noncomputable def opO:BOp->LY
 | .add => .Add | .sub => .Sub | .mul => .Mult | .fdiv => .FloorDiv | .mod => .Mod | .pow => .Pow
noncomputable def vE:COp->CmpOp
 | .eq => .Eq | .ne => .NotEq | .lt => .Lt| .gt => .Gt | .ge => .GtE | .is => .Is | .isn => .IsNot| .inN => .In
noncomputable def mM:BF->Str
 | .len => "len"| .abs => "abs"| .min2 => "min" | .int => "int" | .list => "list" | .tuple => "tuple"| .all => "all" | .any => "any" | .sorted => "sorted"
noncomputable def A6:MF->Str
 | .append => "append"
noncomputable def bltNames:List Str := ["len", "abs", "max", "min", "int", "list", "tuple", "sum", "isinstance", "range", "bool", "str", "dict", "zip", "enumerate", "reversed", "sorted", "all", "any", "set"]
noncomputable def gz (sc osc:Scope):Scope :=
 { sc with names:=sc.names.map fun (n,k)=>if (k == .free&&osc.kind == .function&&osc.names.lookup n==some .cell) then (n, .cell) else (n,k) }
theorem nR (sc:Scope) (env:Env):relabel sc env=gz sc env.scope:=rfl
noncomputable def vF (sc osc:Scope) (oN N':List Str) (fr:List (Option Nat)):Bool :=
 decide (sc.kind = .function)&&decide ((sc.names.map (·.1)).Nodup)&&decide (N'.Nodup)
  && sc.names.all (fun x => !(x.2 == .free) || osc.names.lookup x.1==some .cell || osc.names.lookup x.1==some .free)
  && decide (fr.length=N'.length)
  && (ED N'.length).all fun i=>match fr[i]?,N'[i]? with
   | some (some j),some x=>decide (oN[j]? = some x)&&sc.names.any (fun y=>decide (y=(x,EF)))
   | _,_=>true
theorem pk {p:Prop} [d:Decidable p] {t:p->Bool} (h:dite p t (fun _=>false)=true):∃ c,t c=true:=by
 cases d with
 | isTrue c=>exact ⟨c,h⟩
 | isFalse c=>cases h
noncomputable def cw (e:Expr) (f:Str->Pos->Bool):Bool:=if h:e.ctorIdx=23 then @NX.elim (fun _=>Bool) e h f else false
@[elab_as_elim]
theorem cM {P:Expr->Prop} (e:Expr) {f:Str->Pos->Bool} (h:cw e f=true) (k:∀ a b,f a b=true->P (.Name a b)):P e :=
 (pk h).elim fun c => @NX.elim (fun e => ∀ c, @NX.elim (fun _=>Bool) e c f=true->P e) e c (fun a b _ h=>k a b h) c
noncomputable def cA (e:Expr) (f:Const->Nat->Pos->Bool):Bool:=if h:e.ctorIdx=19 then @Ly.elim (fun _=>Bool) e h f else false
@[elab_as_elim]
theorem du {P:Expr->Prop} (e:Expr) {f:Const->Nat->Pos->Bool} (h:cA e f=true) (k:∀ a b c,f a b c=true->P (.Constant a b c)):P e :=
 (pk h).elim fun c => @Ly.elim (fun e => ∀ c, @Ly.elim (fun _=>Bool) e c f=true->P e) e c (fun a b c _ h=>k a b c h) c
noncomputable def sY (e:Expr) (f:Expr->LY->Expr->Pos->Bool):Bool:=if h:e.ctorIdx=2 then @NR.elim (fun _=>Bool) e h f else false
@[elab_as_elim]
theorem A7 {P:Expr->Prop} (e:Expr) {f:Expr->LY->Expr->Pos->Bool} (h:sY e f=true) (k:∀ a b c d,f a b c d=true->P (.BinOp a b c d)):P e :=
 (pk h).elim fun c => @NR.elim (fun e => ∀ c, @NR.elim (fun _=>Bool) e c f=true->P e) e c (fun a b c d _ h=>k a b c d h) c
noncomputable def ed (e:Expr) (f:UnaryOp->Expr->Pos->Bool):Bool:=if h:e.ctorIdx=3 then @Mz.elim (fun _=>Bool) e h f else false
@[elab_as_elim]
theorem gA {P:Expr->Prop} (e:Expr) {f:UnaryOp->Expr->Pos->Bool} (h:ed e f=true) (k:∀ a b c,f a b c=true->P (.UnaryOp a b c)):P e :=
 (pk h).elim fun c => @Mz.elim (fun e => ∀ c, @Mz.elim (fun _=>Bool) e c f=true->P e) e c (fun a b c _ h=>k a b c h) c
noncomputable def gB (e:Expr) (f:Expr->List CmpOp->List Expr->Pos->Bool):Bool:=if h:e.ctorIdx=15 then @MA.elim (fun _=>Bool) e h f else false
@[elab_as_elim]
theorem mN {P:Expr->Prop} (e:Expr) {f:Expr->List CmpOp->List Expr->Pos->Bool} (h:gB e f=true) (k:∀ a b c d,f a b c d=true->P (.Compare a b c d)):P e :=
 (pk h).elim fun c => @MA.elim (fun e => ∀ c, @MA.elim (fun _=>Bool) e c f=true->P e) e c (fun a b c d _ h=>k a b c d h) c
noncomputable def dL (e:Expr) (f:BoolOp->List Expr->Pos->Bool):Bool:=if h:e.ctorIdx=0 then @Nm.elim (fun _=>Bool) e h f else false
@[elab_as_elim]
theorem fE {P:Expr->Prop} (e:Expr) {f:BoolOp->List Expr->Pos->Bool} (h:dL e f=true) (k:∀ a b c,f a b c=true->P (.BoolOp a b c)):P e :=
 (pk h).elim fun c => @Nm.elim (fun e => ∀ c, @Nm.elim (fun _=>Bool) e c f=true->P e) e c (fun a b c _ h=>k a b c h) c
noncomputable def sZ (e:Expr) (f:Expr->Expr->Expr->Pos->Bool):Bool:=if h:e.ctorIdx=5 then @NS.elim (fun _=>Bool) e h f else false
@[elab_as_elim]
theorem A8 {P:Expr->Prop} (e:Expr) {f:Expr->Expr->Expr->Pos->Bool} (h:sZ e f=true) (k:∀ a b c d,f a b c d=true->P (.IfExp a b c d)):P e :=
 (pk h).elim fun c => @NS.elim (fun e => ∀ c, @NS.elim (fun _=>Bool) e c f=true->P e) e c (fun a b c d _ h=>k a b c d h) c
noncomputable def ca (e:Expr) (f:List Expr->Nat->Pos->Bool):Bool:=if h:e.ctorIdx=25 then @NT.elim (fun _=>Bool) e h f else false
@[elab_as_elim]
theorem cB {P:Expr->Prop} (e:Expr) {f:List Expr->Nat->Pos->Bool} (h:ca e f=true) (k:∀ a b c,f a b c=true->P (.Tuple a b c)):P e :=
 (pk h).elim fun c => @NT.elim (fun e => ∀ c, @NT.elim (fun _=>Bool) e c f=true->P e) e c (fun a b c _ h=>k a b c h) c
noncomputable def wu (e:Expr) (f:List Expr->Pos->Bool):Bool:=if h:e.ctorIdx=24 then @NY.elim (fun _=>Bool) e h f else false
@[elab_as_elim]
theorem Bf {P:Expr->Prop} (e:Expr) {f:List Expr->Pos->Bool} (h:wu e f=true) (k:∀ a b,f a b=true->P (.List a b)):P e :=
 (pk h).elim fun c => @NY.elim (fun e => ∀ c, @NY.elim (fun _=>Bool) e c f=true->P e) e c (fun a b _ h=>k a b h) c
noncomputable def bh (e:Expr) (f:Expr->Expr->Pos->Bool):Bool:=if h:e.ctorIdx=21 then @Lc.elim (fun _=>Bool) e h f else false
@[elab_as_elim]
theorem bD {P:Expr->Prop} (e:Expr) {f:Expr->Expr->Pos->Bool} (h:bh e f=true) (k:∀ a b c,f a b c=true->P (.Subscript a b c)):P e :=
 (pk h).elim fun c => @Lc.elim (fun e => ∀ c, @Lc.elim (fun _=>Bool) e c f=true->P e) e c (fun a b c _ h=>k a b c h) c
noncomputable def kn (e:Expr) (f:Expr->List Expr->List Ki->Pos->Bool):Bool:=if h:e.ctorIdx=16 then @NZ.elim (fun _=>Bool) e h f else false
@[elab_as_elim]
theorem qo {P:Expr->Prop} (e:Expr) {f:Expr->List Expr->List Ki->Pos->Bool} (h:kn e f=true) (k:∀ a b c d,f a b c d=true->P (.Call a b c d)):P e :=
 (pk h).elim fun c => @NZ.elim (fun e => ∀ c, @NZ.elim (fun _=>Bool) e c f=true->P e) e c (fun a b c d _ h=>k a b c d h) c
noncomputable def iJ (e:Expr) (f:Expr->Str->Pos->Bool):Bool:=if h:e.ctorIdx=20 then @Ld.elim (fun _=>Bool) e h f else false
@[elab_as_elim]
theorem qq {P:Expr->Prop} (e:Expr) {f:Expr->Str->Pos->Bool} (h:iJ e f=true) (k:∀ a b c,f a b c=true->P (.Attribute a b c)):P e :=
 (pk h).elim fun c => @Ld.elim (fun e => ∀ c, @Ld.elim (fun _=>Bool) e c f=true->P e) e c (fun a b c _ h=>k a b c h) c
noncomputable def t5 (e:Expr) (f:Option Expr->Option Expr->Option Expr->Pos->Bool):Bool:=if h:e.ctorIdx=26 then @NU.elim (fun _=>Bool) e h f else false
@[elab_as_elim]
theorem A9 {P:Expr->Prop} (e:Expr) {f:Option Expr->Option Expr->Option Expr->Pos->Bool} (h:t5 e f=true) (k:∀ a b c d,f a b c d=true->P (.Slice a b c d)):P e :=
 (pk h).elim fun c => @NU.elim (fun e => ∀ c, @NU.elim (fun _=>Bool) e c f=true->P e) e c (fun a b c d _ h=>k a b c d h) c
noncomputable def jO (e:Expr) (f:Expr->List F6->Scope->Pos->Bool):Bool:=if h:e.ctorIdx=8 then @Lz.elim (fun _=>Bool) e h f else false
@[elab_as_elim]
theorem t6 {P:Expr->Prop} (e:Expr) {f:Expr->List F6->Scope->Pos->Bool} (h:jO e f=true) (k:∀ a b c d,f a b c d=true->P (.ListComp a b c d)):P e :=
 (pk h).elim fun c => @Lz.elim (fun e => ∀ c, @Lz.elim (fun _=>Bool) e c f=true->P e) e c (fun a b c d _ h=>k a b c d h) c
noncomputable def wv (e:Expr) (f:List (Option Expr)->List Expr->Pos->Bool):Bool:=if h:e.ctorIdx=6 then @O0.elim (fun _=>Bool) e h f else false
@[elab_as_elim]
theorem Bg {P:Expr->Prop} (e:Expr) {f:List (Option Expr)->List Expr->Pos->Bool} (h:wv e f=true) (k:∀ a b c,f a b c=true->P (.Dict a b c)):P e :=
 (pk h).elim fun c => @O0.elim (fun e => ∀ c, @O0.elim (fun _=>Bool) e c f=true->P e) e c (fun a b c _ h=>k a b c h) c
noncomputable def di (e:Stmt) (f:List Expr->Expr->Pos->Bool):Bool:=if h:e.ctorIdx=5 then @Np.elim (fun _=>Bool) e h f else false
@[elab_as_elim]
theorem ee {P:Stmt->Prop} (e:Stmt) {f:List Expr->Expr->Pos->Bool} (h:di e f=true) (k:∀ a b c,f a b c=true->P (.Assign a b c)):P e :=
 (pk h).elim fun c => @Np.elim (fun e => ∀ c, @Np.elim (fun _=>Bool) e c f=true->P e) e c (fun a b c _ h=>k a b c h) c
noncomputable def mQ (e:Stmt) (f:List Expr->Pos->Bool):Bool:=if h:e.ctorIdx=4 then @Nq.elim (fun _=>Bool) e h f else false
@[elab_as_elim]
theorem vG {P:Stmt->Prop} (e:Stmt) {f:List Expr->Pos->Bool} (h:mQ e f=true) (k:∀ a b,f a b=true->P (.Delete a b)):P e :=
 (pk h).elim fun c => @Nq.elim (fun e => ∀ c, @Nq.elim (fun _=>Bool) e c f=true->P e) e c (fun a b _ h=>k a b h) c
noncomputable def t7 (e:Stmt) (f:Expr->Pos->Bool):Bool:=if h:e.ctorIdx=24 then @O1.elim (fun _=>Bool) e h f else false
@[elab_as_elim]
theorem Aa {P:Stmt->Prop} (e:Stmt) {f:Expr->Pos->Bool} (h:t7 e f=true) (k:∀ a b,f a b=true->P (.Expr a b)):P e :=
 (pk h).elim fun c => @O1.elim (fun e => ∀ c, @O1.elim (fun _=>Bool) e c f=true->P e) e c (fun a b _ h=>k a b h) c
noncomputable def mU (e:Stmt) (f:Option Expr->Pos->Bool):Bool:=if h:e.ctorIdx=3 then @Nr.elim (fun _=>Bool) e h f else false
@[elab_as_elim]
theorem vH {P:Stmt->Prop} (e:Stmt) {f:Option Expr->Pos->Bool} (h:mU e f=true) (k:∀ a b,f a b=true->P (.Return a b)):P e :=
 (pk h).elim fun c => @Nr.elim (fun e => ∀ c, @Nr.elim (fun _=>Bool) e c f=true->P e) e c (fun a b _ h=>k a b h) c
noncomputable def Ab (e:Stmt) (f:Expr->List Stmt->List Stmt->Pos->Bool):Bool:=if h:e.ctorIdx=12 then @Stmt.If.elim (fun _=>Bool) e h f else false
@[elab_as_elim]
theorem BU {P:Stmt->Prop} (e:Stmt) {f:Expr->List Stmt->List Stmt->Pos->Bool} (h:Ab e f=true) (k:∀ a b c d,f a b c d=true->P (.If a b c d)):P e :=
 (pk h).elim fun c => @Stmt.If.elim (fun e => ∀ c, @Stmt.If.elim (fun _=>Bool) e c f=true->P e) e c (fun a b c d _ h=>k a b c d h) c
noncomputable def ww (e:Stmt) (f:Expr->Expr->List Stmt->List Stmt->Pos->Bool):Bool:=if h:e.ctorIdx=9 then @Stmt.For.elim (fun _=>Bool) e h f else false
@[elab_as_elim]
theorem Bh {P:Stmt->Prop} (e:Stmt) {f:Expr->Expr->List Stmt->List Stmt->Pos->Bool} (h:ww e f=true) (k:∀ a b c d e,f a b c d e=true->P (.For a b c d e)):P e :=
 (pk h).elim fun c => @Stmt.For.elim (fun e => ∀ c, @Stmt.For.elim (fun _=>Bool) e c f=true->P e) e c (fun a b c d e _ h=>k a b c d e h) c
noncomputable def oE (e:Stmt) (f:Expr->List Stmt->List Stmt->Pos->Bool):Bool:=if h:e.ctorIdx=11 then @NV.elim (fun _=>Bool) e h f else false
@[elab_as_elim]
theorem yj {P:Stmt->Prop} (e:Stmt) {f:Expr->List Stmt->List Stmt->Pos->Bool} (h:oE e f=true) (k:∀ a b c d,f a b c d=true->P (.While a b c d)):P e :=
 (pk h).elim fun c => @NV.elim (fun e => ∀ c, @NV.elim (fun _=>Bool) e c f=true->P e) e c (fun a b c d _ h=>k a b c d h) c
noncomputable def t8 (e:Stmt) (f:Pos->Bool):Bool:=if h:e.ctorIdx=25 then @O6.elim (fun _=>Bool) e h f else false
@[elab_as_elim]
theorem Ac {P:Stmt->Prop} (e:Stmt) {f:Pos->Bool} (h:t8 e f=true) (k:∀ a,f a=true->P (.Pass a)):P e :=
 (pk h).elim fun c => @O6.elim (fun e => ∀ c, @O6.elim (fun _=>Bool) e c f=true->P e) e c (fun a _ h=>k a h) c
noncomputable def oF (e:Stmt) (f:Pos->Bool):Bool:=if h:e.ctorIdx=26 then @NW.elim (fun _=>Bool) e h f else false
@[elab_as_elim]
theorem yk {P:Stmt->Prop} (e:Stmt) {f:Pos->Bool} (h:oF e f=true) (k:∀ a,f a=true->P (.Break a)):P e :=
 (pk h).elim fun c => @NW.elim (fun e => ∀ c, @NW.elim (fun _=>Bool) e c f=true->P e) e c (fun a _ h=>k a h) c
noncomputable def iK (e:Stmt) (f:Pos->Bool):Bool:=if h:e.ctorIdx=27 then @LA.elim (fun _=>Bool) e h f else false
@[elab_as_elim]
theorem qr {P:Stmt->Prop} (e:Stmt) {f:Pos->Bool} (h:iK e f=true) (k:∀ a,f a=true->P (.Continue a)):P e :=
 (pk h).elim fun c => @LA.elim (fun e => ∀ c, @LA.elim (fun _=>Bool) e c f=true->P e) e c (fun a _ h=>k a h) c
noncomputable def lv0 {α:Type} (xs:List α) (b:Bool):Bool:=xs.isEmpty&&b
noncomputable def lvc {α:Type} (xs:List α) (f : α -> List α -> Bool):Bool:=match xs with
 | y::r=>f y r
 | [] => false
noncomputable def lv1 {α:Type} (xs:List α) (f : α -> Bool):Bool:=lvc xs fun y r=>lv0 r (f y)
noncomputable def lv2 {α:Type} (xs:List α) (f : α -> α -> Bool):Bool:=lvc xs fun y r=>lv1 r (f y)
noncomputable def os {α:Type} (o:Option α) (f : α -> Bool):Bool:=match o with
 | some x=>f x
 | none=>false
noncomputable def on {α:Type} (o:Option α) (b:Bool):Bool:=o.isNone&&b
@[elab_as_elim]
theorem eQ {α:Type} {P:List α -> Prop} (xs:List α) {b:Bool} (h:lv0 xs b=true) (k:b=true->P []):P xs:=by
 cases xs with
 | nil=>exact k h
 | cons _ _=>cases h
@[elab_as_elim]
theorem Ad {α:Type} {P:List α -> Prop} (xs:List α) {f : α -> List α -> Bool} (h:lvc xs f=true) (k:∀ y r,f y r=true->P (y::r)):P xs:=by
 cases xs with
 | nil=>cases h
 | cons y r=>exact k y r h
@[elab_as_elim]
theorem bP {α:Type} {P:List α -> Prop} (xs:List α) {f : α -> Bool} (h:lv1 xs f=true) (k:∀ y,f y=true->P [y]):P xs :=
 Ad xs h fun y r h=>eQ r h fun h=>k y h
@[elab_as_elim]
theorem gC {α:Type} {P:List α -> Prop} (xs:List α) {f : α -> α -> Bool} (h:lv2 xs f=true) (k:∀ y z,f y z=true->P [y,z]):P xs :=
 Ad xs h fun y r h=>bP r h fun z h=>k y z h
@[elab_as_elim]
theorem jos {α:Type} {P:Option α -> Prop} (o:Option α) {f : α -> Bool} (h:os o f=true) (k:∀ x,f x=true->P (some x)):P o:=by
 cases o with
 | none=>cases h
 | some x=>exact k x h
@[elab_as_elim]
theorem jon {α:Type} {P:Option α -> Prop} (o:Option α) {b:Bool} (h:on o b=true) (k:b=true->P none):P o:=by
 cases o with
 | none=>exact k h
 | some x=>cases h
theorem bo {a b:Bool} (h:(a&&b)=true):a=true/\b=true:=by rwa [g8] at h
noncomputable def cC (e:Expr) (g:Str->List Expr->Bool):Bool:=kn e fun f xs ks _=>lv0 ks (cw f fun x _=>g x xs)
@[elab_as_elim]
theorem dj {P:Expr->Prop} (e:Expr) {g:Str->List Expr->Bool} (h:cC e g=true) (k:∀ x xs p pos,g x xs=true->P (.Call (.Name x p) xs [] pos)):P e :=
 qo e h fun f xs ks pos h=>eQ ks h fun h=>cM f h fun x p h=>k x xs p pos h
noncomputable def ko (e:Expr) (g:Expr->Str->List Expr->Pos->Pos->Bool):Bool:=kn e fun f xs ks p=>lv0 ks (iJ f fun o n q=>g o n xs q p)
@[elab_as_elim]
theorem qt {P:Expr->Prop} (e:Expr) {g:Expr->Str->List Expr->Pos->Pos->Bool} (h:ko e g=true) (k:∀ o n xs q p,g o n xs q p=true->P (.Call (.Attribute o n q) xs [] p)):P e :=
 qo e h fun f xs ks pos h=>eQ ks h fun h=>qq f h fun o n q h=>k o n xs q pos h
noncomputable def iSl (e:Expr) (g:Expr->Option Expr->Option Expr->Option Expr->Bool):Bool:=bh e fun x y _=>t5 y fun l u s _=>g x l u s
@[elab_as_elim]
theorem jSl {P:Expr->Prop} (e:Expr) {g:Expr->Option Expr->Option Expr->Option Expr->Bool} (h:iSl e g=true) (k:∀ x l u s p pos,g x l u s=true->P (.Subscript x (.Slice l u s p) pos)):P e :=
 bD e h fun x y pos h=>A9 y h fun l u s p h=>k x l u s p pos h
mutual
noncomputable def okG:MG->Ctx->Expr->Bool
 | .name i,C,e=>cw e fun x _=>decide (C.N[i]? = some x)&&vD C.sc x&&(C.sc.names.lookup x==some .local || C.fn.contains x)
 | .tup gs,C,e=>ca e fun es _ _=>okGs gs C es
noncomputable def okGs:MGs->Ctx->List Expr->Bool
 | .nil,_,es=>es.isEmpty
 | .cons g r,C,es=>match es with
  | e::es=>aI e&&okG g C e&&okGs r C es
  | [] => false
end
mutual
noncomputable def okE:ME->Ctx->Expr->Bool
 | .var i,C,e=>cw e fun x _=>decide (C.N[i]? = some x)&&vC C.sc x && !(x==("__debug__":Str)) && !(x==("__classdict__":Str))
 | .int i,_,e=>cA e fun c _ _=>decide (c = .int i)
 | .bl i,_,e=>cA e fun c _ _=>decide (c = .bool i)
 | .non,_,e=>cA e fun c _ _=>decide (c = .none)
 | .bin op a b,C,e=>sY e fun l o r _=>decide (o=opO op)&&okE a C l&&okE b C r
 | .neg a,C,e=>ed e fun o x _=>decide (o = .USub)&&okE a C x
 | .cmp op a b,C,e=>gB e fun l os rs _=>lv1 os fun o=>lv1 rs fun r=>decide (o=vE op)&&okE a C l&&okE b C r && !(HG o r)
 | .and es,C,e=>dL e fun o xs _=>decide (o = .And) && !xs.isEmpty&&okEs es C xs
 | .or es,C,e=>dL e fun o xs _=>decide (o = .Or) && !xs.isEmpty&&okEs es C xs
 | .not a,C,e=>ed e fun o x _=>decide (o = .Not)&&okE a C x
 | .ite c a b,C,e=>sZ e fun t x y _=>okT c C t&&okE a C x&&okE b C y
 | .tup es,C,e=>ca e fun xs _ _=>okEs es C xs
 | .lst es,C,e=>wu e fun xs _=>okEs es C xs
 | .ix a b,C,e=>bh e fun x y _=>bS y&&okE a C x&&okE b C y
 | .sl a lo hi,C,e=>iSl e fun x l u s=>on s (okE a C x&&okO lo C l&&okO hi C u)
 | .step a lo st,C,e=>iSl e fun x l u s=>on u (os s fun s=>okE a C x&&okO lo C l&&okE st C s)
 | .call f es,C,e=>cC e fun x xs=>decide (C.Γ[f]? = some x)&&glB C.sc x && !(x==("__debug__":Str))&&okEs es C xs
 | .blt f es,C,e=>cC e fun x xs=>decide (x=mM f)&&glB C.sc x && !xs.isEmpty&&okEs es C xs
 | .isin2 a T U,C,e=>cC e fun x xs=>lv2 xs fun y w=>ca w fun ws _ _=>lv2 ws fun z' v'=>cw z' fun z _=>cw v' fun v _=>decide (x = "isinstance")&&glB C.sc x&&glB C.sc z&&glB C.sc v&&decide (z=Fe T)&&decide (v=Fe U)&&decide (T∈["bool", "int", "str", "tuple", "list", "dict"])&&decide (U∈["bool", "int", "str", "tuple", "list", "dict"])&&aI y&&okE a C y
 | .isin a T,C,e=>cC e fun x xs=>lv2 xs fun y w=>cw w fun z _=>decide (x = "isinstance")&&glB C.sc x&&glB C.sc z&&decide (z=Fe T)&&decide (T∈["bool", "int", "str", "tuple", "list", "dict"])&&aI y&&okE a C y
 | .dnewN,_,e=>wv e fun ks vs _=>lv0 ks (lv0 vs true)
 | .ixN a b,C,e=>bh e fun x y _=>bS y&&okE a C x&&okE b C y
 | .minD a,C,e=>kn e fun f xs ks _=>cw f fun x _=>lv1 xs fun w=>lv1 ks fun q=>cA q.value fun c _ _=>decide (x = "min")&&glB C.sc x&&aI w&&decide (q.arg=some "default")&&decide (c = .none)&&okE a C w
 | .sdef o k x,C,e=>ko e fun y n xs ap cp=>lv2 xs fun e1 e2=>decide (n = "setdefault")&&dJ y&&(ap.endLine==cp.line)&&aI e1&&aI e2&&okE o C y&&okE k C e1&&okE x C e2
 | .meth m o a,C,e=>ko e fun x n xs ap cp=>lv1 xs fun y=>decide (n=A6 m)&&dJ x&&(ap.endLine==cp.line)&&aI y&&okE o C x&&okE a C y
 | .comp fr N' c,C,e=>jO e fun elt gens sc _=>vF sc C.sc C.N N' fr&&okC c C ⟨C.Γ,N',gz sc C.sc,(sc.names.filter (·.2 == .cell)).map (·.1),C.cs⟩ gens elt
noncomputable def okEs:MEs->Ctx->List Expr->Bool
 | .nil,_,es=>es.isEmpty
 | .cons m r,C,es=>match es with
  | e::es=>aI e&&okE m C e&&okEs r C es
  | [] => false
noncomputable def okO:MO->Ctx->Option Expr->Bool
 | .none,_,e=>e.isNone
 | .some m,C,e=>match e with
  | some e=>okE m C e
  | none=>false
noncomputable def okT:MT->Ctx->Expr->Bool
 | .tru m,C,e=>mK e&&okE m C e
 | .cmp op a b,C,e=>gB e fun l os rs _=>lv1 os fun o=>lv1 rs fun r=>decide (o=vE op)&&okE a C l&&okE b C r && !(HG o r)
 | .and ts,C,e=>dL e fun o xs _=>decide (o = .And) && !xs.isEmpty&&okTs ts C xs
 | .or ts,C,e=>dL e fun o xs _=>decide (o = .Or) && !xs.isEmpty&&okTs ts C xs
 | .not t,C,e=>ed e fun o x _=>decide (o = .Not)&&okT t C x
noncomputable def okTs:MTs->Ctx->List Expr->Bool
 | .nil,_,es=>es.isEmpty
 | .cons m r,C,es=>match es with
  | e::es=>okT m C e&&okTs r C es
  | [] => false
noncomputable def okI:MI->Ctx->Expr->Expr->Bool
 | .seq m,C,_,e=>km e&&okE m C e
 | .itemsN a,C,t,e=>ko e fun x n xs ap cp=>lv0 xs (ca t fun _ _ _=>decide (n = "items")&&dJ x&&(ap.endLine==cp.line)&&okE a C x)
 | .rng1 a,C,_,e=>cC e fun x xs=>lv1 xs fun y=>decide (x = "range")&&glB C.sc x&&aI y&&okE a C y
 | .enum a,C,t,e=>cC e fun x xs=>lv1 xs fun y=>ca t fun _ _ _=>decide (x = "enumerate")&&glB C.sc x&&aI y&&okE a C y
 | .zip a b,C,t,e=>cC e fun x xs=>lv2 xs fun y z=>ca t fun _ _ _=>decide (x = "zip")&&glB C.sc x&&aI y&&aI z&&okE a C y&&okE b C z
noncomputable def okC:MC->Ctx->Ctx->List F6->Expr->Bool
 | .last src g ifs m,Cs,C,gens,elt=>match gens with
  | [⟨t,it,fs,a⟩] => decide (a=0)&&okI src Cs t it&&okG g C t&&okTs ifs C fs&&okE m C elt
  | _=>false
 | .more src g ifs rest,Cs,C,gens,elt=>match gens with
  | ⟨t,it,fs,a⟩::g2::gs=>decide (a=0)&&okI src Cs t it&&okG g C t&&okTs ifs C fs&&okC rest C C (g2::gs) elt
  | _=>false
end
noncomputable def aT (sc:Scope) (ts:List Expr):List Str:=ts.filterMap fun
 | .Name id pos=>if sc.names.lookup id==some .local&&pos.line==(ts.head?.map (·.pos.line)).getD 0 then some id else none
 | _=>none
noncomputable def qu (sc:Scope) (ts vs:List Expr):Bool := !(ts.length==2 || ts.length==3) || vs.length != ts.length || (aT sc ts).length != ts.length || (aT sc ts).eraseDups.length != (aT sc ts).length || vs.all (LB 8)
noncomputable def qw (C:Ctx) (i:Nat) (x:Str):Bool:=decide (C.N[i]? = some x)&&decide (C.sc.names.lookup x=some .local)
noncomputable def qz (sc:Scope) (ts vs:List Expr) (ns:List Str):Bool := !(!(ts.length==2 || ts.length==3) || vs.length != ts.length) && !(vs.any fun | .Starred .. => true | _=>false)&&decide (aT sc ts=ns) && !((aT sc ts).length != ts.length || (aT sc ts).eraseDups.length != (aT sc ts).length) && !(vs.all (LB 8)) && !(vs.all (constantsAlone 8))
noncomputable def iL (sc:Scope) (tg e:Expr):Bool:=match tg,e with
 | .Tuple ts _ _, .Tuple vs _ _=>qu sc ts vs
 | .Tuple ..,_=>true
 | .Name ..,_=>true
 | _,_=>false
noncomputable def Ae (sc:Scope) (x:Str) (px:Pos) (e:Expr):Bool:=match e with
 | .DictComp _ _ _ s _ => !(sc.names.lookup x==some .local&&px.line==e.pos.line && !(s.names.any fun (n,k)=>n==x&&(k == .local || k == .cell)))
 | _=>true
noncomputable def qA (sc:Scope) (x:Str) (px:Pos) (e:Expr):Bool:=match e with
 | .ListComp _ _ s _=>sc.names.lookup x==some .local&&px.line==e.pos.line && !(s.names.any fun (n,k)=>n==x&&(k == .local || k == .cell))
 | _=>false
mutual
noncomputable def okS:MS->Ctx->Stmt->Bool
 | .asg g m,C,s=>di s fun ts e _=>lv1 ts fun tg=>okG g C tg&&okE m C e&&iL C.sc tg e&&(match tg with | .Name x px=>Ae C.sc x px e | _=>dI e)
 | .par i j a b,C,s=>di s fun ts e _=>lv1 ts fun tg=>ca tg fun ts _ _=>ca e fun es _ _=>lv2 ts fun t u=>lv2 es fun e f=>cw t fun x px=>cw u fun y py=>qw C i x&&qw C j y&&decide (i≠j)&&aI e&&aI f&&okE a C e&&okE b C f&&qz C.sc [.Name x px, .Name y py] [e,f] [x,y]
 | .put o i m,C,s=>di s fun ts e _=>lv1 ts fun tg=>bh tg fun x y _=>bS y&&dI e&&okE o C x&&okE i C y&&okE m C e
 | .drop m,C,s=>t7 s fun e _=>dI e&&okE m C e
 | .ret m,C,s=>mU s fun o _=>os o fun e=>okE m C e
 | .ite c a b,C,s=>Ab s fun t x y _=>okT c C t&&okSs a C x&&okSs b C y
 | .for g src b,C,s=>ww s fun tg it body els _=>lv0 els (km it&&okG g C tg&&okI src C tg it&&okSs b C body)
 | .while c b,C,s=>oE s fun t body els _=>lv0 els (okT c C t&&okSs b C body)
 | .frzN _ m,C,s=>okS m C s
 | .dell o i,C,s=>mQ s fun ts _=>lv1 ts fun t=>bh t fun x y _=>okE o C x&&okE i C y
 | .putN o i m,C,s=>di s fun ts e _=>lv1 ts fun tg=>bh tg fun x y _=>bS y&&dI e&&okE o C x&&okE i C y&&okE m C e
 | .pass,_,s=>t8 s fun _=>true
 | .brk,_,s=>oF s fun _=>true
 | .cnt,_,s=>iK s fun _=>true
noncomputable def okSs:MSs->Ctx->List Stmt->Bool
 | .nil,_,ss=>ss.isEmpty
 | .cons m r,C,ss=>match ss with
  | s::ss=>okS m C s&&okSs r C ss
  | [] => false
end
theorem al {e:Expr} {es:List Expr} {env:Env} (h:aI e=true):Et (e::es) env=(false,eval e env)::Et es env:=by
 cases e <;> first | rfl | (simp [aI] at h;done)
theorem jP {e:Expr} {es:List Expr} {env:Env} (h:aI e=true):G8 (e::es) env=(false,assign e env)::G8 es env:=by
 cases e <;> first | rfl | (simp [aI] at h;done)
theorem qB {e:Expr} {env:Env} (h:mK e=true):∀ whole,isTrue e env whole=(do let v <- whole;Jd e.pos;holding [v] (truthy v)):=by
 intro w
 cases e <;> first | rfl | (simp [mK] at h;done)
theorem mV {e:Expr} (h:bS e=true):iV e:=by
 intro o i
 cases e <;> first | rfl | (simp [bS] at h;done)
theorem t9 {e:Expr} {env:Env} (h:km e=true):∀ x,Gi e env x=pure x:=by
 intro x
 cases e <;> first | rfl | (simp [km] at h;done)
theorem gD {e:Expr} {n:Str} {env:Env} (h:dJ e=true):JS e n env (eval e env)=eval e env:=by
 cases e <;> first
  | rfl
  | (rename_i f xs _ _;cases xs with
     | nil=>simp [dJ] at h
     | cons _ _=>cases f <;> rfl)
theorem fF {e:Expr} {t:Option Expr} {l:Nat} {env:Env} (h:dI e=true):I8 e t l env=pure false:=by
 cases e <;> first | rfl | (simp [dI] at h;done)
end
section
noncomputable def lSp (K:Frag) (r:RAd):Sp:=fun vs H Q _=>lR K r vs H Q
structure Good (C:Ctx) (Φ:Phi) (k:Nat) (X:Cx):Prop where
 hx:∀ e s,X.xe e s->False
 calm:X.calm=true
 N:X.N=C.N
 sc:X.env.scope=C.sc
 nd:X.N.Nodup
 fn:∀ x∈C.fn,X.fn x=true
 room:Room k X.A
 mgB:∀ x∈bltNames,X.mg x=none
 fns:∀ (i:Nat) (x:Str),C.Γ[i]? = some x -> ∃ f fd ps,X.mg x=some (.ref f)/\Ik X.K Fo x=some (some (.ref f))/\Hu X.K (.ref f)=true/\Binds X.K fd ps []/\cY X.prog X.w X.K X.mg X.base CX0 k f fd ps (lSp X.K (Φ i))
 mono:∀ f,aR (Φ f)
 cs:∀ x d,(x,d)∈C.cs -> ∃ u,X.mg x=some u/\GV X.K d u
section
variable {C:Ctx} {Φ:Phi} {k:Nat} {X:Cx}
theorem Good.units (G:Good C Φ k X):X.A.units+64 < G0:=G.room.units
theorem Good.gl (G:Good C Φ k X) {x:Str} (h:glB C.sc x=true):Gl X x:=by
 show X.env.scope.names.lookup x=_;rw [G.sc];simpa [glB] using h
theorem Good.vis (G:Good C Φ k X) {x:Str} (h:vC C.sc x=true):Vis X.env.scope x:=by
 unfold Vis;rw [G.sc];simp [vC] at h
 rcases h with (h | h) | h
 ·exact .inl h
 ·exact .inr (.inl h)
 ·exact .inr (.inr h)
theorem Good.loc (G:Good C Φ k X) {x:Str} (h:vD C.sc x=true):Loc X.env.scope x:=by
 unfold Loc;rw [G.sc];simpa [vD] using h
theorem Good.own (G:Good C Φ k X) {x:Str} (h:(C.sc.names.lookup x==some .local || C.fn.contains x)=true):X.fn x=true∨X.env.scope.names.lookup x=some .local:=by
 rw [G.sc];simp at h
 rcases h with h | h
 ·exact .inr h
 ·exact .inl (G.fn x h)
theorem Af (G:Good C Φ k X):∀ o:BOp,OpR X (FP (opO o)) (l2 X.K (opB o))
 | .add=>uE | .sub=>uF | .mul=>uG | .fdiv=>rD | .mod=>uI | .pow=>uJ
theorem oG (G:Good C Φ k X):∀ o:COp,OpR X (Ft (vE o)) (l2 X.K (opC o))
 | .eq=>xq (by have:=G.units;lia) | .ne=>xr (by have:=G.units;lia) | .lt=>xw| .gt=>xx | .ge=>xz | .is=>xR | .isn=>v9| .inN=>vx (by have:=G.units;lia)
theorem Ag (G:Good C Φ k X) {f:BF} {e:Expr} {es:List Expr} {t:TAd} {p pos:Pos} (mt:b7 t) (q:Gl X (mM f)) (z:PA X (e::es) (lA X.K t))
 (he:Et (e::es) X.env=(false,eval e X.env)::Et es X.env) (j:(Hk pos (Et es X.env)).any (·.1)=false):PE X (.Call (.Name (mM f) p) (e::es) [] pos) (lE X.K (wAr (opF f) t)):=by
 cases f with
 | len=>exact PE.imp (bp pQ q (G.mgB _ (by decide)) PySem.boot_len z (by decide) (by decide) he j) (bj kU mt)
 | abs=>exact PE.imp (bp pR q (G.mgB _ (by decide)) (by decide +kernel) z (by decide) (by decide) he j) (bj kX mt)
 | min2=>exact PE.imp (bp (nG G.calm) q (G.mgB _ (by decide)) (by decide +kernel) z (by decide) (by decide) he j) (bj jz mt)
 | int=>exact PE.imp (et pS q (G.mgB _ (by decide)) (by decide +kernel) z (by decide) (by decide) he j) (bj kY mt)
 | list=>exact PE.imp (et nH q (G.mgB _ (by decide)) (by decide +kernel) z (by decide) (by decide) he j) (bj jA mt)
 | tuple=>exact PE.imp (et lf q (G.mgB _ (by decide)) (by decide +kernel) z (by decide) (by decide) he j) (bj i8 mt)
 | all=>exact PE.imp (bp (qc G.calm) q (G.mgB _ (by decide)) (by decide +kernel) z (by decide) (by decide) he j) (bj lL mt)
 | any=>exact PE.imp (bp (qd G.calm) q (G.mgB _ (by decide)) (by decide +kernel) z (by decide) (by decide) he j) (bj lM mt)
 | sorted=>exact PE.imp (bp (kc (by have:=G.units;lia)) q (G.mgB _ (by decide)) (by decide +kernel) z (by decide) (by decide) he j) (bj fW mt)
theorem ym (G:Good C Φ k X) {f:Nat} {x:Str} {e:Expr} {es:List Expr} {t:TAd} {p pos:Pos} (mt:b7 t) (hf:C.Γ[f]? = some x) (z:Gl X x) (j:(x==("__debug__":Str))=false) (B:PA X (e::es) (lA X.K t))
 (he:Et (e::es) X.env=(false,eval e X.env)::Et es X.env) (q:(Hk pos (Et es X.env)).any (·.1)=false):PE X (.Call (.Name x p) (e::es) [] pos) (lE X.K (wAr (Φ f) t)):=by
 obtain ⟨a,fd,ps,hm,_,J,L,F⟩:=G.fns f x hf;refine PE.imp (wY F G.room z hm J L .nil we B j he q) fun σ H Q h => ?_;have h2:=bj (G.mono f) mt σ H Q h;have:(fun vs H1=>lSp X.K (Φ f) (vs++[]) H1 Q E0)=fun vs H1=>lR X.K (Φ f) vs H1 Q:=by
  funext vs H1;rw [F8];rfl
 show (lA X.K t) σ H _;rw [this];exact h2
theorem vI (G:Good C Φ k X) {f:Nat} {x:Str} {p pos:Pos} (hf:C.Γ[f]? = some x) (z:Gl X x) (j:(x==("__debug__":Str))=false):PE X (.Call (.Name x p) [] [] pos) (lE X.K (wAr (Φ f) bm)):=by
 obtain ⟨a,fd,ps,hm,_,B,J,F⟩:=G.fns f x hf;refine PE.imp (ub F G.room z hm B J .nil we j) fun σ H Q h => ?_;obtain ⟨ρ,M,rs,rm,q⟩:=h;exact ⟨[],M,rm,RDs.nil,q⟩
theorem gE {env:Env} {pos:Pos}:∀ {es:List Expr},es.all aI=true->(Hk pos (Et es env)).any (·.1)=false
 | [],_=>rfl
 | e::es,h=>by
   simp only [Gb,g8] at h;rw [al h.1];show (false || (Hk pos (Et es env)).any (·.1))=false
   rw [gE h.2];rfl
theorem eR:∀ {ms:MEs} {es:List Expr},okEs ms C es=true->es.all aI=true
 | .nil,[],_=>rfl
 | .nil,_::_,h=>by simp [okEs] at h
 | .cons m r,[],h=>by simp [okEs] at h
 | .cons m r,e::es,h=>by
  simp only [okEs,g8] at h;simp only [Gb,g8];exact ⟨h.1.1,eR h.2⟩
theorem oH:∀ {gs:MGs} {es:List Expr},okGs gs C es=true -> ∀ ds ρ ρ',bGs gs ds ρ = some ρ'->ds.length=es.length
 | .nil,es,h,ds, ρ, ρ',e=>by
  simp [okGs] at h;subst h;rw [bGs] at e
  cases ds with
  | nil=>rfl
  | cons _ _=>cases e
 | .cons g r,[],h,_,_,_,_=>by simp [okGs] at h
 | .cons g r,x::es,h,ds, ρ, ρ',e=>by
  simp only [okGs,g8] at h;rw [bGs] at e
  cases ds with
  | nil=>cases e
  | cons d ds =>
    simp only [bY] at e
    cases e1:bG g d ρ with
    | none=>rw [e1] at e;cases e
    | some ρ1 =>
      rw [e1] at e;simp [oH h.2 ds ρ1 ρ' e]
theorem mW {env:Env}:∀ {gs:MGs} {es:List Expr},okGs gs C es=true->(G8 es env).length=es.length/\(G8 es env).findIdx? (·.1)=none
 | .nil,es,h=>by simp [okGs] at h;subst h;exact ⟨rfl,rfl⟩
 | .cons g r,[],h=>by simp [okGs] at h
 | .cons g r,x::es,h=>by
  simp only [okGs,g8] at h;obtain ⟨a,b⟩:=mW (env:=env) h.2;rw [jP h.1.1];refine ⟨by simp [a], ?_⟩
  rw [List.findIdx?_cons];simp [b]
mutual
theorem sG (G:Good C Φ k X):∀ (m:MG) (e:Expr),okG m C e=true->PG X e (lG X.K (bG m))
 | .name i,e,h=>by
  refine cM e h fun x _ h => ?_;simp only [g8] at h;exact xK G.nd (by rw [G.N];exact of_decide_eq_true h.1.1) (G.loc h.1.2) (G.own h.2)
 | .tup gs,e,h=>by
  refine cB e h fun es _ _ h => ?_;rw [bG];obtain ⟨a,b⟩:=mW (env:=X.env) h;exact zR G.calm (oH h) (sGs G gs _ h) a b
theorem sGs (G:Good C Φ k X):∀ (m:MGs) (es:List Expr),okGs m C es=true->PGs X es (lGs X.K (bGs m))
 | .nil,es,h=>by
  simp [okGs] at h;subst h;exact xL
 | .cons g r,[],h=>by simp [okGs] at h
 | .cons g r,e::es,h=>by
  simp only [okGs,g8] at h;exact uP (sG G g e h.1.2) (sGs G r es h.2) (by rw [jP h.1.1];rfl)
end
theorem PB.imp {F:Sem Fin->Sem Fin} {t t':TC} (h:PB X F t) (i:∀ σ H N,t' σ H N->t σ H N):PB X F t':=fun pins s σ H N k Q E I q hk=>h pins s σ H N k Q E I (i _ _ _ q) hk
theorem iM {sc osc:Scope} {oN N':List Str} {fr:List (Option Nat)} (h:vF sc osc oN N' fr=true):aV sc osc oN N' fr:=by
 simp only [vF,g8,decide_eq_true_eq] at h;obtain ⟨⟨⟨⟨⟨h1,h2⟩,F⟩,G⟩,J⟩,L⟩:=h;refine ⟨h1,h2,F,fun x hx e => ?_,J,fun i j x hi hf => ?_⟩
 ·have z:=IK.mp G x hx;rw [e] at z;simpa using z
 ·have B:i < N'.length:=(o7.mp hi).1;have q:=IK.mp L i (Jm.mpr B);rw [hf,hi] at q;simp only [g8,decide_eq_true_eq,List.any_eq_true] at q;obtain ⟨a,y,O,e⟩:=q;exact ⟨a,by rw [<- e];exact O⟩
theorem Good.blk (G:Good C Φ k X) {sc:Scope} {N':List Str} {fr:List (Option Nat)} (B:aV sc C.sc C.N N' fr) (s:g6) (H:Hp) (fp:List Addr) :
 Good ⟨C.Γ,N',gz sc C.sc,(sc.names.filter (·.2 == .cell)).map (·.1),C.cs⟩ Φ k (aC X sc N' s H fp):=by
 refine ⟨fun _ _ h=>h,G.calm,rfl, ?_,B.ndN,fun x hx => ?_,G.room,G.mgB,G.fns,G.mono,G.cs⟩
 ·show relabel sc X.env=_;rw [nR,G.sc]
 ·obtain ⟨y,q,e⟩:=EA.mp hx;obtain ⟨h1,h2⟩:=Fm.mp q;obtain ⟨n,kd⟩:=y;have j:kd = .cell:=by simpa using h2
  subst j;have e':n=x:=e;subst e';show (sc.names.lookup n==some .cell)=true;rw [aM B.nd h1];rfl
end
end
section
section
variable {Φ:Phi} {k:Nat}
theorem cV {C:Ctx} {X:Cx} (G:Good C Φ k X) {F:Sem Fin->Sem Fin} {p:Addr} {tb:TCd} {ifs:List Expr} {ts:List TTd} (mb:bC tb) (mt:∀ t∈ts,aB t) (j:PB X F (lC X.K p tb)) (q:FG (fun c t=>PT X c t) ifs (ts.map (lT X.K))) :
 PB X (fun k=>b5 ifs X.env >>= fun ok=>if ok=true then F k else k) (lC X.K p (b6 ts tb)) :=
 PB.imp (um G.hx j q) (io mb mt)
theorem eT {m:MC} {Cs C:Ctx} {g2:F6} {gs:List F6} {elt:Expr} (h:okC m Cs C (g2::gs) elt=true):g2.is_async=0:=by
 obtain ⟨t,i,f,a⟩:=g2
 cases m with
 | last src g ifs m =>
   cases gs with
   | nil=>simp only [okC,g8,decide_eq_true_eq] at h;exact h.1.1.1.1
   | cons _ _=>simp [okC] at h
 | more src g ifs rest =>
   cases gs with
   | nil=>simp [okC] at h
   | cons _ _=>simp only [okC,g8,decide_eq_true_eq] at h;exact h.1.1.1.1
theorem gF {C:Ctx} {X:Cx} (G:Good C Φ k X):∀ T∈["bool", "int", "str", "tuple", "list", "dict"],X.mg (Fe T)=none/\Gs (Fe T)=some (.type T)/\Fe T ≠ "__name__" /\ (Fe T==("__debug__":Str))=false:=by
 intro T j;simp only [Eb,Eu,or_false] at j
 rcases j with rfl | rfl | rfl | rfl | rfl | rfl
 all_goals exact ⟨G.mgB _ (by decide),by decide +kernel,by decide,by decide⟩
mutual
theorem sE:∀ (m:ME) {C:Ctx} {X:Cx} (G:Good C Φ k X) (e:Expr),okE m C e=true->PE X e (lE X.K (wE Φ m))
 | .var i,C,X,G,e,h=>by
  refine cM e h fun x _ h => ?_;simp only [g8,G2,decide_eq_true_eq] at h;exact zC (by rw [G.N];exact h.1.1.1) (G.vis h.1.1.2) h.1.2 h.2
 | .int i,C,X,G,e,h=>by
  refine du e h fun c _ _ h => ?_;rw [of_decide_eq_true h];exact zD
 | .bl i,C,X,G,e,h=>by
  refine du e h fun c _ _ h => ?_;rw [of_decide_eq_true h];exact AY
 | .non,C,X,G,e,h=>by
  refine du e h fun c _ _ h => ?_;rw [of_decide_eq_true h];exact zE
 | .bin op a b,C,X,G,e,h=>by
  refine A7 e h fun l o r _ h => ?_;simp only [g8,decide_eq_true_eq] at h;rw [h.1.1];exact AZ (Af G op) (mJ op) (mE G.mono a) (mE G.mono b) (sE a G _ h.1.2) (sE b G _ h.2)
 | .neg a,C,X,G,e,h=>by
  refine gA e h fun o x _ h => ?_;replace h:=bo h;obtain ⟨ho,h⟩:=h
  cases of_decide_eq_true ho
  exact B0 uK kS (mE G.mono a) (sE a G _ h)
 | .cmp op a b,C,X,G,e,h=>by
  refine mN e h fun l os rs pos h => ?_;refine bP os h fun o h => ?_;refine bP rs h fun r h => ?_;simp only [g8,decide_eq_true_eq] at h;obtain ⟨⟨⟨ho,Y⟩,hb⟩,hm⟩:=h;rw [G2] at hm;subst ho;exact zF (oG G op) (e9 op) (mE G.mono a) (mE G.mono b) (sE a G _ Y) (sE b G _ hb) hm
 | .and es,C,X,G,e,h=>by
  refine fE e h fun o xs _ h => ?_;replace h:=bo h;obtain ⟨ho,h⟩:=h;obtain ⟨ho,L⟩:=bo ho
  cases of_decide_eq_true ho
  exact sAnds es G _ _ h (by intro z;rw [z] at L;cases L)
 | .or es,C,X,G,e,h=>by
  refine fE e h fun o xs _ h => ?_;replace h:=bo h;obtain ⟨ho,h⟩:=h;obtain ⟨ho,L⟩:=bo ho
  cases of_decide_eq_true ho
  exact sOrs es G _ _ h (by intro z;rw [z] at L;cases L)
 | .not a,C,X,G,e,h=>by
  refine gA e h fun o x _ h => ?_;replace h:=bo h;obtain ⟨ho,h⟩:=h
  cases of_decide_eq_true ho
  exact zP (mE G.mono a) (sE a G _ h)
 | .ite c a b,C,X,G,e,h=>by
  refine A8 e h fun t x y _ h => ?_;simp only [g8] at h;exact B5 (mT G.mono c) (mE G.mono a) (mE G.mono b) (sT c G _ h.1.1) (sE a G _ h.1.2) (sE b G _ h.2)
 | .tup es,C,X,G,e,h=>by
  refine cB e h fun xs _ _ h => ?_;exact zH (mA G.mono es) (sA es G _ h)
 | .lst es,C,X,G,e,h=>by
  refine Bf e h fun xs _ h => ?_;exact zI (mA G.mono es) (sA es G _ h)
 | .ix a b,C,X,G,e,h=>by
  refine bD e h fun x y _ h => ?_;simp only [g8] at h;exact wl (BP (by have:=G.units;lia)) oj (mE G.mono a) (mE G.mono b) (sE a G _ h.1.2) (sE b G _ h.2) (mV h.1.1)
 | .sl a lo hi,C,X,G,e,h=>by
  refine jSl e h fun x l u s p pos h => ?_;refine jon s h fun  h => ?_;simp only [g8] at h;exact B6 (mE G.mono a) (mO G.mono lo) (mO G.mono hi) (sE a G _ h.1.1) (sO lo G _ h.1.2) (sO hi G _ h.2)
 | .step a lo st,C,X,G,e,h=>by
  refine jSl e h fun x l u s p pos h => ?_;refine jon u h fun  h => ?_;refine jos s h fun s h => ?_;simp only [g8] at h;exact yb (mE G.mono a) (mO G.mono lo) (eD (mE G.mono st)) (sE a G _ h.1.1) (sO lo G _ h.1.2) (oo (mE G.mono st) (sE st G _ h.2))
 | .call f es,C,X,G,e,h=>by
  refine dj e h fun x xs p pos h => ?_;simp only [g8,decide_eq_true_eq,G2] at h;have hA:=sA es G _ h.2;have J:=eR h.2
  cases xs with
  | nil =>
    cases es with
    | nil=>exact vI G h.1.1.1 (G.gl h.1.1.2) h.1.2
    | cons _ _=>simp [okEs] at h
  | cons y ys =>
    simp only [Gb,g8] at J;exact ym G (mA G.mono es) h.1.1.1 (G.gl h.1.1.2) h.1.2 hA (al J.1) (gE J.2)
 | .blt f es,C,X,G,e,h=>by
  refine dj e h fun x xs p pos h => ?_;simp only [g8,decide_eq_true_eq,G2] at h;have hA:=sA es G _ h.2;have J:=eR h.2;obtain ⟨⟨⟨rfl,O⟩,L⟩,_⟩:=h
  cases xs with
  | nil=>simp at L
  | cons y ys =>
    simp only [Gb,g8] at J;exact Ag G (mA G.mono es) (G.gl O) hA (al J.1) (gE J.2)
 | .dnewN,C,X,G,e,h=>by
  refine Bg e h fun ks vs _ h => ?_;refine eQ ks h fun  h => ?_;refine eQ vs h fun  h => ?_;exact vq
 | .ixN a b,C,X,G,e,h=>by
  refine bD e h fun x y _ h => ?_;simp only [g8] at h;exact wl (BS (by have:=G.units;lia)) mF (mE G.mono a) (mE G.mono b) (sE a G _ h.1.2) (sE b G _ h.2) (mV h.1.1)
 | .minD a,C,X,G,e,h=>by
  refine qo e h fun f xs ks pos h => ?_;refine cM f h fun x p h => ?_;refine bP xs h fun w h => ?_;refine bP ks h fun q h => ?_;obtain ⟨qa,qv,qp⟩:=q;refine du qv h fun c j np h => ?_;simp only [g8,decide_eq_true_eq] at h;obtain ⟨⟨⟨⟨⟨rfl,O⟩,J⟩,rfl⟩,rfl⟩,Y⟩:=h;exact yf (by have:=G.units;lia) G.calm (mE G.mono a) (bB (mE G.mono a) aD (sE a G _ Y) db (al J)) (G.gl O) (G.mgB _ (by decide)) (by rw [al J];rfl) (by rw [al J];rfl)
 | .sdef o k' x,C,X,G,e,h=>by
  refine qt e h fun y n xs ap cp h => ?_;refine gC xs h fun e1 e2 h => ?_;simp only [g8,decide_eq_true_eq] at h;obtain ⟨⟨⟨⟨⟨⟨⟨rfl,Z⟩,hl⟩,BZ⟩,C0⟩,ho⟩,hk⟩,hx⟩:=h;have st:Et [e1,e2] X.env=[(false,eval e1 X.env),(false,eval e2 X.env)]:=by
   rw [al BZ,al C0];rfl
  refine yh (by have:=G.units;lia) (mE G.mono o) (mE G.mono k') (mE G.mono x) (sE o G _ ho) (sE k' G _ hk) (sE x G _ hx) ⟨gD Z, ?_,hl, ?_⟩
  ·rw [st];rfl
  ·rw [st];rfl
 | .isin2 a T U,C,X,G,e,h=>by
  refine dj e h fun x xs p pos h => ?_;refine gC xs h fun y w h => ?_;refine cB w h fun ws k1 p1 h => ?_;refine gC ws h fun z' v' h => ?_;refine cM z' h fun z p2 h => ?_;refine cM v' h fun v p3 h => ?_;simp only [g8,decide_eq_true_eq] at h;obtain ⟨⟨⟨⟨⟨⟨⟨⟨⟨rfl,O⟩,BY⟩,C1⟩,hz⟩,hy⟩,hT⟩,hU⟩,hs⟩,Y⟩:=h;obtain ⟨n1,n2,n3,n4⟩:=gF G T hT;obtain ⟨m1,m2,m3,m4⟩:=gF G U hU;subst hz hy;exact ve hT hU (mE G.mono a) (sE a G _ Y) (G.gl O) (G.mgB _ (by decide)) (G.gl BY) n1 n2 n3 n4 (G.gl C1) m1 m2 m3 m4 (al hs)
 | .isin a T,C,X,G,e,h=>by
  refine dj e h fun x xs p pos h => ?_;refine gC xs h fun y w h => ?_;refine cM w h fun z p2 h => ?_;simp only [g8,decide_eq_true_eq] at h;obtain ⟨⟨⟨⟨⟨⟨rfl,O⟩,BY⟩,hz⟩,hT⟩,hs⟩,Y⟩:=h;obtain ⟨n1,n2,n3,n4⟩:=gF G T hT;subst hz;exact xG hT (mE G.mono a) (sE a G _ Y) (G.gl O) (G.mgB _ (by decide)) (G.gl BY) n1 n2 n3 n4 (al hs) rfl
 | .meth m o a,C,X,G,e,h=>by
  refine qt e h fun x n xs ap cp h => ?_;refine bP xs h fun y h => ?_;simp only [g8,decide_eq_true_eq] at h;obtain ⟨⟨⟨⟨⟨hn,Z⟩,hl⟩,hs⟩,ho⟩,Y⟩:=h;subst hn;have pa:PA X [y] (lA X.K (aF (wE Φ a) bm)):=bB (mE G.mono a) aD (sE a G _ Y) db (al hs);have few:((Hk cp (Et [y] X.env)).all (fun x => !x.1)&&(backToKw cp (Ng [] X.env)).all (fun x=>x.1.isSome)&&decide (([y]:List Expr).length+([]:List Ki).length+(if ([]:List Ki).isEmpty then 0 else 1) < 30))=true:=by
   rw [al hs];rfl
  cases m with
  | append=>exact PE.imp (AQ PySem.F.plainAttrs_list PySem.F.slot_list_append PySem.F.type_list_append jr (sE o G _ ho) pa (gD Z) few hl (al hs) rfl) (xI fT (mE G.mono o) (aE (mE G.mono a) aD) uO)
 | .comp fr N' c,C,X,G,e,h=>by
  refine t6 e h fun elt gens sc pos h => ?_;simp only [g8] at h;have B:aV sc X.env.scope X.N N' fr:=by rw [G.sc,G.N];exact iM h.1
  have B':aV sc C.sc C.N N' fr:=iM h.1
  cases c with
  | last src g ifs m =>
    have h2:=h.2;simp only [okC] at h2
    split at h2
    ·rename_i t it fs a;simp only [g8,decide_eq_true_eq] at h2;obtain ⟨⟨⟨⟨rfl,hi⟩,O⟩,ht⟩,he⟩:=h2;refine PE.imp (fR G.calm G.hx B (fun g' z=>by simp at z) (sI src G _ t hi).1 (fun s H fp=>sG (G.blk B' s H fp) g t O) (tb:=fun p=>lC X.K p (b6 (wTl Φ ifs) (bM (wE Φ m)))) (fun s H fp p => ?_) (sI src G _ t hi).2) (dm (mI G.mono src) (aG (bb (mE G.mono m)) (mTl G.mono ifs)))
     have G':=G.blk B' s H fp;exact cV (p:=p) G' (bb (mE G.mono m)) (mTl G.mono ifs) (PB.imp (iW G'.hx (sE m G' elt he) rfl) (eI (mE G.mono m))) (sTl ifs G' fs ht)
    ·cases h2
  | more src g ifs rest =>
    have h2:=h.2;simp only [okC] at h2
    split at h2
    ·rename_i t it fs a g2 gs;simp only [g8,decide_eq_true_eq] at h2;obtain ⟨⟨⟨⟨rfl,hi⟩,O⟩,ht⟩,he⟩:=h2;have C2:∀ g',(g2::gs)[0]? = some g'->g'.is_async=0:=fun g' z=>by
      have z':g2=g':=by simpa using z
      subst z';exact eT he
     refine PE.imp (fR G.calm G.hx B C2 (sI src G _ t hi).1 (fun s H fp=>sG (G.blk B' s H fp) g t O) (tb:=fun p=>lC X.K p (b6 (wTl Φ ifs) (wCl Φ rest))) (fun s H fp p => ?_) (sI src G _ t hi).2) (dm (mI G.mono src) (aG (mCl G.mono rest) (mTl G.mono ifs)));have G':=G.blk B' s H fp;exact cV (p:=p) G' (mCl G.mono rest) (mTl G.mono ifs) (sCl rest G' elt (⟨t,it,fs,0⟩::g2::gs) sc pos 0 (.inl rfl) p he) (sTl ifs G' fs ht)
    ·cases h2
theorem sA:∀ (m:MEs) {C:Ctx} {X:Cx} (G:Good C Φ k X) (es:List Expr),okEs m C es=true->PA X es (lA X.K (wA Φ m))
 | .nil,C,X,G,es,h=>by
  simp [okEs] at h;subst h;exact db
 | .cons m r,C,X,G,[],h=>by simp [okEs] at h
 | .cons m r,C,X,G,e::es,h=>by
  simp only [okEs,g8] at h;exact bB (mE G.mono m) (mA G.mono r) (sE m G e h.1.2) (sA r G es h.2) (al h.1.1)
theorem sAnds:∀ (m:MEs) {C:Ctx} {X:Cx} (G:Good C Φ k X) (es:List Expr) (pos:Pos),okEs m C es=true->es≠[]->PE X (.BoolOp .And es pos) (lE X.K (wAnds Φ m))
 | .nil,C,X,G,es,pos,h,j=>by simp [okEs] at h;exact absurd h j
 | .cons m r,C,X,G,[],pos,h,j=>absurd rfl j
 | .cons m .nil,C,X,G,e::es,pos,h,_=>by
  simp only [okEs,g8] at h;obtain ⟨h1,h2⟩:=h;simp at h2;subst h2;exact rK (sE m G e h1.2)
 | .cons m (.cons m2 r),C,X,G,e::es,pos,h,_=>by
  simp only [okEs,g8] at h;obtain ⟨h1,h2⟩:=h
  cases es with
  | nil=>simp at h2
  | cons f fs =>
    exact zO (mE G.mono m) (mAnds G.mono _) (sE m G e h1.2) (sAnds (.cons m2 r) G (f::fs) pos (by simpa only [okEs,g8] using h2) (by simp))
theorem sOrs:∀ (m:MEs) {C:Ctx} {X:Cx} (G:Good C Φ k X) (es:List Expr) (pos:Pos),okEs m C es=true->es≠[]->PE X (.BoolOp .Or es pos) (lE X.K (wOrs Φ m))
 | .nil,C,X,G,es,pos,h,j=>by simp [okEs] at h;exact absurd h j
 | .cons m r,C,X,G,[],pos,h,j=>absurd rfl j
 | .cons m .nil,C,X,G,e::es,pos,h,_=>by
  simp only [okEs,g8] at h;obtain ⟨h1,h2⟩:=h;simp at h2;subst h2;exact rK (sE m G e h1.2)
 | .cons m (.cons m2 r),C,X,G,e::es,pos,h,_=>by
  simp only [okEs,g8] at h;obtain ⟨h1,h2⟩:=h
  cases es with
  | nil=>simp at h2
  | cons f fs =>
    exact B4 (mE G.mono m) (mOrs G.mono _) (sE m G e h1.2) (sOrs (.cons m2 r) G (f::fs) pos (by simpa only [okEs,g8] using h2) (by simp))
theorem sO:∀ (m:MO) {C:Ctx} {X:Cx} (G:Good C Φ k X) (e:Option Expr),okO m C e=true->PO X e (lO X.K (wO Φ m))
 | .none,C,X,G,e,h=>by
  simp [okO] at h;subst h;exact xE
 | .some m,C,X,G,none,h=>by simp [okO] at h
 | .some m,C,X,G,some e,h=>by
  simp only [okO] at h;exact oo (mE G.mono m) (sE m G e h)
theorem sT:∀ (m:MT) {C:Ctx} {X:Cx} (G:Good C Φ k X) (e:Expr),okT m C e=true->PT X e (lT X.K (wT Φ m))
 | .tru m,C,X,G,e,h=>by
  simp only [okT,g8] at h;exact zK (mE G.mono m) (sE m G e h.2) (qB h.1)
 | .cmp op a b,C,X,G,e,h=>by
  refine mN e h fun l os rs pos h => ?_;refine bP os h fun o h => ?_;refine bP rs h fun r h => ?_;simp only [g8,decide_eq_true_eq] at h;obtain ⟨⟨⟨ho,q⟩,B⟩,hm⟩:=h;rw [G2] at hm;subst ho;exact zG (oG G op) (e9 op) (mE G.mono a) (mE G.mono b) (sE a G _ q) (sE b G _ B) hm
 | .and ts,C,X,G,e,h=>by
  refine fE e h fun o xs _ h => ?_;replace h:=bo h;obtain ⟨ho,h⟩:=h;obtain ⟨ho,j⟩:=bo ho
  cases of_decide_eq_true ho
  exact (sAndTs ts G _ _ h (by intro z;rw [z] at j;cases j)).pt
 | .or ts,C,X,G,e,h=>by
  refine fE e h fun o xs _ h => ?_;replace h:=bo h;obtain ⟨ho,h⟩:=h;obtain ⟨ho,j⟩:=bo ho
  cases of_decide_eq_true ho
  exact (sOrTs ts G _ _ h (by intro z;rw [z] at j;cases j)).pt
 | .not t,C,X,G,e,h=>by
  refine gA e h fun o x _ h => ?_;replace h:=bo h;obtain ⟨ho,h⟩:=h
  cases of_decide_eq_true ho
  exact zL (mT G.mono t) (sT t G _ h)
theorem sAndTs:∀ (m:MTs) {C:Ctx} {X:Cx} (G:Good C Φ k X) (es:List Expr) (pos:Pos),okTs m C es=true->es≠[]->PW X (.BoolOp .And es pos) (lT X.K (wAndTs Φ m))
 | .nil,C,X,G,es,pos,h,j=>by simp [okTs] at h;exact absurd h j
 | .cons m r,C,X,G,[],pos,h,j=>absurd rfl j
 | .cons m .nil,C,X,G,e::es,pos,h,_=>by
  simp only [okTs,g8] at h;obtain ⟨h1,h2⟩:=h;simp at h2;subst h2;exact xC (sT m G e h1)
 | .cons m (.cons m2 r),C,X,G,e::es,pos,h,_=>by
  simp only [okTs,g8] at h;obtain ⟨h1,h2⟩:=h
  cases es with
  | nil=>simp at h2
  | cons f fs =>
    exact zN (mT G.mono m) (mAndTs G.mono _) (sT m G e h1) (sAndTs (.cons m2 r) G (f::fs) pos (by simpa only [okTs,g8] using h2) (by simp))
theorem sOrTs:∀ (m:MTs) {C:Ctx} {X:Cx} (G:Good C Φ k X) (es:List Expr) (pos:Pos),okTs m C es=true->es≠[]->PW X (.BoolOp .Or es pos) (lT X.K (wOrTs Φ m))
 | .nil,C,X,G,es,pos,h,j=>by simp [okTs] at h;exact absurd h j
 | .cons m r,C,X,G,[],pos,h,j=>absurd rfl j
 | .cons m .nil,C,X,G,e::es,pos,h,_=>by
  simp only [okTs,g8] at h;obtain ⟨h1,h2⟩:=h;simp at h2;subst h2;exact zM (sT m G e h1)
 | .cons m (.cons m2 r),C,X,G,e::es,pos,h,_=>by
  simp only [okTs,g8] at h;obtain ⟨h1,h2⟩:=h
  cases es with
  | nil=>simp at h2
  | cons f fs =>
    exact B3 (mT G.mono m) (mOrTs G.mono _) (sT m G e h1) (sOrTs (.cons m2 r) G (f::fs) pos (by simpa only [okTs,g8] using h2) (by simp))
theorem sTl:∀ (m:MTs) {C:Ctx} {X:Cx} (G:Good C Φ k X) (es:List Expr),okTs m C es=true->FG (fun c t=>PT X c t) es ((wTl Φ m).map (lT X.K))
 | .nil,C,X,G,es,h=>by
  simp [okTs] at h;subst h;exact .nil
 | .cons m r,C,X,G,[],h=>by simp [okTs] at h
 | .cons m r,C,X,G,e::es,h=>by
  simp only [okTs,g8] at h;exact .cons (sT m G e h.1) (sTl r G es h.2)
theorem sI:∀ (m:MI) {C:Ctx} {X:Cx} (G:Good C Φ k X) (e tg:Expr),okI m C tg e=true->PI X tg e (lI X.K (wI Φ m)) /\ ∀ x,Gi e X.env x=pure x
 | .seq m,C,X,G,e,tg,h=>by
  simp only [okI,g8] at h;exact ⟨zU (mE G.mono m) (sE m G e h.2),t9 h.1⟩
 | .rng1 a,C,X,G,e,tg,h=>by
  refine dj e h fun x xs p pos h => ?_;refine bP xs h fun y h => ?_;simp only [g8,decide_eq_true_eq] at h;obtain ⟨⟨⟨rfl,B⟩,hs⟩,j⟩:=h;exact ⟨xM (aE (mE G.mono a) aD) (G.gl B) (G.mgB _ (by decide)) (bB (mE G.mono a) aD (sE a G _ j) db (al hs)) (al hs),fun x=>rfl⟩
 | .enum a,C,X,G,e,tg,h=>by
  refine dj e h fun x xs p pos h => ?_;refine bP xs h fun y h => ?_;refine cB tg h fun ts kt pt h => ?_;simp only [g8,decide_eq_true_eq] at h;obtain ⟨⟨⟨rfl,B⟩,hs⟩,j⟩:=h;exact ⟨xN (mE G.mono a) (G.gl B) (G.mgB _ (by decide)) (bB (mE G.mono a) aD (sE a G _ j) db (al hs)) (al hs),fun x=>rfl⟩
 | .itemsN a,C,X,G,e,tg,h=>by
  refine qt e h fun x n xs ap cp h => ?_;refine eQ xs h fun  h => ?_;refine cB tg h fun ts kt pt h => ?_;simp only [g8,decide_eq_true_eq] at h;obtain ⟨⟨⟨rfl,F⟩,J⟩,j⟩:=h;exact ⟨sX (mE G.mono a) (sE a G _ j) (gD F) J,fun x=>rfl⟩
 | .zip a b,C,X,G,e,tg,h=>by
  refine dj e h fun x xs p pos h => ?_;refine gC xs h fun y z h => ?_;refine cB tg h fun ts kt pt h => ?_;simp only [g8,decide_eq_true_eq] at h;obtain ⟨⟨⟨⟨⟨rfl,B⟩,hs⟩,q⟩,j⟩,L⟩:=h;exact ⟨zX (mE G.mono a) (mE G.mono b) (G.gl B) (G.mgB _ (by decide)) (bB (mE G.mono a) (aE (mE G.mono b) aD) (sE a G _ j) (bB (mE G.mono b) aD (sE b G _ L) db (al q)) (al hs)) (by rw [al hs,al q];rfl) (al q),fun x=>rfl⟩
theorem sCl:∀ (m:MC) {C:Ctx} {X:Cx} (G:Good C Φ k X) (elt:Expr) (gens:List F6) (sc:Scope) (pos:Pos) (d:Nat) (_:d=0∨d=d) (p:Addr),okC m C C (gens.drop (d+1)) elt=true ->
 PB X (aU elt gens sc pos d (.ref p) X.env) (lC X.K p (wCl Φ m))
 | .last src g ifs m,C,X,G,elt,gens,sc,pos,d,_,p,h=>by
  simp only [okC] at h
  split at h
  ·rename_i t it fs a hd;simp only [g8,decide_eq_true_eq] at h;obtain ⟨⟨⟨⟨rfl,hi⟩,q⟩,B⟩,he⟩:=h;have F:gens[d+1]? = some ⟨t,it,fs,0⟩:=by
    have z:(gens.drop (d+1))[0]? = some ⟨t,it,fs,0⟩:=by rw [hd];rfl
    rw [I0] at z;simpa using z
   have j:gens[d+1+1]? = none:=by
    have z:(gens.drop (d+1))[1]? = none:=by rw [hd];rfl
    rw [I0] at z;simpa using z
   refine PB.imp (jw G.hx G.calm F (fun g' z=>by rw [j] at z;cases z) (sI src G _ t hi).1 (sG G g t q) (cV (p:=p) G (bb (mE G.mono m)) (mTl G.mono ifs) (PB.imp (iW G.hx (sE m G elt he) j) (eI (mE G.mono m))) (sTl ifs G fs B)) (sI src G _ t hi).2) (fV (mI G.mono src) (aG (bb (mE G.mono m)) (mTl G.mono ifs)))
  ·cases h
 | .more src g ifs rest,C,X,G,elt,gens,sc,pos,d,_,p,h=>by
  simp only [okC] at h
  split at h
  ·rename_i t it fs a g2 gs hd;simp only [g8,decide_eq_true_eq] at h;obtain ⟨⟨⟨⟨rfl,hi⟩,q⟩,B⟩,he⟩:=h;have F:gens[d+1]? = some ⟨t,it,fs,0⟩:=by
    have z:(gens.drop (d+1))[0]? = some ⟨t,it,fs,0⟩:=by rw [hd];rfl
    rw [I0] at z;simpa using z
   have j:gens[d+1+1]? = some g2:=by
    have z:(gens.drop (d+1))[1]? = some g2:=by rw [hd];rfl
    rw [I0] at z;simpa using z
   have L:gens.drop (d+1+1)=g2::gs:=by
    have z:(gens.drop (d+1)).drop 1=g2::gs:=by rw [hd];rfl
    rw [Il] at z;simpa using z
   have J:∀ g',gens[d+1+1]? = some g'->g'.is_async=0:=fun g' z=>by
    rw [j] at z;cases z;exact eT he
   refine PB.imp (jw G.hx G.calm F J (sI src G _ t hi).1 (sG G g t q) (cV (p:=p) G (mCl G.mono rest) (mTl G.mono ifs) (sCl rest G elt gens sc pos (d+1) (.inr rfl) p (by rw [L];exact he)) (sTl ifs G fs B)) (sI src G _ t hi).2) (fV (mI G.mono src) (aG (mCl G.mono rest) (mTl G.mono ifs)))
  ·cases h
end
end
end
section
section
variable {Φ:Phi} {k:Nat} {C:Ctx} {X:Cx}
theorem vJ {sc:Scope} {ts vs:List Expr} {kk j:Nat} {pp p2:Pos} {env:Env} (hs:env.scope=sc) (q:sc.kind = .function) (h:qu sc ts vs=true):Gx [.Tuple ts kk pp] (.Tuple vs j p2) env=pure none:=by
 have z:env.blockKind = .function:=by unfold JW;rw [hs,q];rfl
 have h':qu sc ts vs=true:=h;unfold Gx;dsimp only;rw [z]
 by_cases c1:(!(ts.length==2 || ts.length==3) || vs.length != ts.length)=true
 ·simp only [c1,Bool.true_or,if_true]
 ·simp only [IE] at c1;rw [c1];simp only [JT,bne_self_eq_false,EV,if_false]
  split
  ·rfl
  ·
    generalize B:List.filterMap _ ts=L;obtain rfl:L=aT sc ts:=by
     rw [<- B];unfold aT;congr 1
     funext x
     cases x <;> first | rfl | (unfold LS;rw [hs])
    unfold qu at h';rw [c1] at h';simp only [JT,Kz] at h'
    by_cases c3:((aT sc ts).length != ts.length || (aT sc ts).eraseDups.length != (aT sc ts).length)=true
    ·rw [if_pos c3]
    ·rw [if_neg c3];have F:vs.all (LB 8)=true:=by
      rcases h' with h' | h'
      ·exact absurd (Kz _ _ |>.mpr h') c3
      ·exact h'
     rw [if_pos F]
theorem yn {sc:Scope} {ts vs:List Expr} {ns:List Str} {kk j:Nat} {pp p2:Pos} {env:Env} (hs:env.scope=sc) (q:sc.kind = .function) (h:qz sc ts vs ns=true):Gx [.Tuple ts kk pp] (.Tuple vs j p2) env=pure (some ns):=by
 have B:env.blockKind = .function:=by unfold JW;rw [hs,q];rfl
 simp only [qz,g8,G2,decide_eq_true_eq] at h;obtain ⟨⟨⟨⟨⟨F,G⟩,J⟩,O⟩,U⟩,Y⟩:=h;unfold Gx;dsimp only;rw [B,F];simp only [JT,bne_self_eq_false,EV,if_false]
 split
 ·next z=>exact absurd z (by rw [IE];exact G)
 ·generalize Z:List.filterMap _ ts=L;obtain rfl:L=aT sc ts:=by
   rw [<- Z];unfold aT;congr 1
   funext x
   cases x <;> first | rfl | (unfold LS;rw [hs])
  rw [O,U,Y,J];rfl
theorem oI {C:Ctx} {i:Nat} {x:Str} (h:qw C i x=true):C.N[i]? = some x/\C.sc.names.lookup x=some .local:=by
 simpa [qw] using h
theorem cm {tg e:Expr} {l:Nat} {env:Env} {b:Bool} (h:I8 e (some tg) l env=pure b):Hi [tg] e l env=pure b:=by
 unfold Hi;exact h
theorem yo {sc:Scope} {tg e:Expr} {env:Env} (hs:env.scope=sc) (j:sc.kind = .function) (h:iL sc tg e=true):Gx [tg] e env=pure none:=by
 cases tg with
 | Tuple ts kk pp =>
   cases e with
   | Tuple vs q p2=>exact vJ hs j h
   | _=>rfl
 | _=>first | rfl | (simp [iL] at h;done)
theorem mX {elt:Expr} {gens:List F6} {s sc:Scope} {pos px:Pos} {x:Str} {l:Nat} {env:Env} (hs:env.scope=sc) (j:sc.kind = .function) :
 I8 (.ListComp elt gens s pos) (some (.Name x px)) l env=pure (qA sc x px (.ListComp elt gens s pos)):=by
 have q:env.blockKind = .function:=by unfold JW;rw [hs,j];rfl
 unfold I8;dsimp only;rw [q];unfold qA LS;rw [hs];rfl
theorem tf {ek ev:Expr} {gens:List F6} {s sc:Scope} {pos px:Pos} {x:Str} {l:Nat} {env:Env} (hs:env.scope=sc) (j:sc.kind = .function) :
 I8 (.DictComp ek ev gens s pos) (some (.Name x px)) l env=pure (sc.names.lookup x==some .local&&px.line==(Expr.DictComp ek ev gens s pos).pos.line && !(s.names.any fun (n,k)=>n==x&&(k == .local || k == .cell))):=by
 have q:env.blockKind = .function:=by unfold JW;rw [hs,j];rfl
 unfold I8;dsimp only;rw [q];unfold LS;rw [hs];rfl
mutual
theorem sS:∀ (m:MS) (G:Good C Φ k X) (q:C.sc.kind = .function) (s:Stmt),okS m C s=true->PS X s (lS X.K (wS Φ m))
 | .asg g m,G,q,s,h=>by
  refine ee s h fun ts e pos h1 => ?_;clear h;refine bP ts h1 fun tg h => ?_;clear h1;simp only [g8] at h;obtain ⟨⟨⟨F,he⟩,Y⟩,L⟩:=h;have hw:=yo G.sc q Y;have pg:=sG G g tg F;have plain:Hi [tg] e pos.line X.env=pure false->PS X (.Assign [tg] e pos) (lS X.K (gp (wE Φ m) (bG g))):=fun hs =>
   PS.imp (kx (sE m G e he) pg hs hw (by cases tg <;> first | rfl | (simp [iL] at Y;done))) (uZ (mE G.mono m))
  cases tg with
  | Tuple ts a b=>exact plain (cm (fF L))
  | Name x px =>
    cases e with
    | ListComp elt gens sc cpos =>
      by_cases sw:qA C.sc x px (.ListComp elt gens sc cpos)=true
      ·cases g with
       | tup gs=>exact absurd F D2
       | name i =>
         cases m with
         | comp fr N' c =>
           replace he:=bo he;have B:aV sc X.env.scope X.N N' fr:=by rw [G.sc,G.N];exact iM he.1
           have B':aV sc C.sc C.N N' fr:=iM he.1;have Z:PG X (.Name x px) (gQ i):=by
            have F:=bo F;have F:=ID (bo F.1) F.2;exact nX G.nd (by rw [G.N];exact of_decide_eq_true F.1.1) (G.loc F.1.2) (G.own F.2)
           have BY:∀ l,I8 (.ListComp elt gens sc cpos) (some (.Name x px)) l X.env=pure true:=fun l=>by rw [mX G.sc q,sw]
           have mc:=mCmp G.mono fr c
           cases c with
           | last src g ifs m =>
             have h2:=he.2;simp only [okC] at h2
             split at h2
             ·rename_i t it fs a;simp only [g8,decide_eq_true_eq] at h2;obtain ⟨⟨⟨⟨rfl,hi⟩,O⟩,ht⟩,J⟩:=h2;refine PS.imp (i3 (i:=i) (g:=lG X.K (bG g)) (wi:=lI X.K (wI Φ src)) G.calm G.hx B (fun g' z=>by simp at z) (sI src G _ t hi).1 (fun s H fp=>sG (G.blk B' s H fp) g t O) (tb:=fun p=>lC X.K p (b6 (wTl Φ ifs) (bM (wE Φ m)))) (fun s H fp p => ?_) (sI src G _ t hi).2 Z (BY _)) fun D σ H h => ?_
              ·have G':=G.blk B' s H fp;exact cV (p:=p) G' (bb (mE G.mono m)) (mTl G.mono ifs) (PB.imp (iW G'.hx (sE m G' elt J) rfl) (eI (mE G.mono m))) (sTl ifs G' fs ht)
              ·exact dm (mI G.mono src) (aG (bb (mE G.mono m)) (mTl G.mono ifs)) σ H _ (jF mc D σ H h)
             ·cases h2
           | more src g ifs rest =>
             have h2:=he.2;simp only [okC] at h2
             split at h2
             ·rename_i t it fs a g2 gs;simp only [g8,decide_eq_true_eq] at h2;obtain ⟨⟨⟨⟨rfl,hi⟩,O⟩,ht⟩,J⟩:=h2;have BZ:∀ g',(g2::gs)[0]? = some g'->g'.is_async=0:=fun g' z=>by
               have z':g2=g':=by simpa using z
               subst z';exact eT J
              refine PS.imp (i3 (i:=i) (g:=lG X.K (bG g)) (wi:=lI X.K (wI Φ src)) G.calm G.hx B BZ (sI src G _ t hi).1 (fun s H fp=>sG (G.blk B' s H fp) g t O) (tb:=fun p=>lC X.K p (b6 (wTl Φ ifs) (wCl Φ rest))) (fun s H fp p => ?_) (sI src G _ t hi).2 Z (BY _)) fun D σ H h => ?_
              ·have G':=G.blk B' s H fp;exact cV (p:=p) G' (mCl G.mono rest) (mTl G.mono ifs) (sCl rest G' elt (⟨t,it,fs,0⟩::g2::gs) sc cpos 0 (.inl rfl) p J) (sTl ifs G' fs ht)
              ·exact dm (mI G.mono src) (aG (mCl G.mono rest) (mTl G.mono ifs)) σ H _ (jF mc D σ H h)
             ·cases h2
         | _=>exact absurd he D2
      ·refine plain ?_;simp only [IE] at sw;refine cm ?_;rw [mX G.sc q,sw]
    | SetComp _ _ _ _=>cases m <;> exact absurd he D2
    | DictComp _ _ _ _ _ =>
      refine plain (cm ?_);rw [tf G.sc q];unfold Ae at L;simp only [G2] at L;rw [L]
    | _=>exact plain (cm rfl)
  | _=>simp [iL] at Y
 | .par i j a b,G,q,s,h=>by
  refine ee s h fun ts e pos h => ?_;refine bP ts h fun tg h => ?_;refine cB tg h fun ts k p h => ?_;refine cB e h fun es k' p' h => ?_;refine gC ts h fun t u h => ?_;refine gC es h fun e f h => ?_;refine cM t h fun x px h => ?_;refine cM u h fun y py h => ?_;simp only [g8,decide_eq_true_eq] at h;obtain ⟨⟨⟨⟨⟨⟨⟨hi,hj⟩,C0⟩,n1⟩,n2⟩,Y⟩,hb⟩,hw⟩:=h;obtain ⟨i1,i2⟩:=oI hi;obtain ⟨j1,j2⟩:=oI hj;exact PS.imp (zi G.calm G.nd (by rw [G.N];exact i1) (by rw [G.N];exact j1) C0 (by rw [G.sc];exact i2) (by rw [G.sc];exact j2) (bB (mE G.mono a) (aE (mE G.mono b) aD) (sE a G _ Y) (bB (mE G.mono b) aD (sE b G _ hb) db (al n2)) (al n1)) (yn G.sc q hw) (cm rfl)) (rX (aE (mE G.mono a) (aE (mE G.mono b) aD)))
 | .put o i m,G,q,s,h=>by
  refine ee s h fun ts e pos h => ?_;refine bP ts h fun tg h => ?_;refine bD tg h fun x y tp h => ?_;simp only [g8] at h;obtain ⟨⟨⟨⟨U,L⟩,ho⟩,hi⟩,he⟩:=h;exact zZ (by have:=G.units;lia) (mE G.mono m) (mE G.mono o) (mE G.mono i) (sE m G e he) (sE o G x ho) (sE i G y hi) (cm (fF L)) rfl (fun v=>by cases y <;> first | rfl | (simp [bS] at U;done))
 | .drop m,G,q,s,h=>by
  refine Aa s h fun e _ h => ?_;simp only [g8] at h;exact PS.imp (wR (sE m G _ h.2) (fF h.1)) (rV (mE G.mono m))
 | .ret m,G,q,s,h=>by
  refine vH s h fun o _ h => ?_;refine jos o h fun e h => ?_;rw [wS];exact PS.imp (ze (sE m G _ h)) (uY (mE G.mono m))
 | .ite c a b,G,q,s,h=>by
  refine BU s h fun t x y _ h => ?_;simp only [g8] at h;exact PS.imp (AE (sT c G _ h.1.1) (sSs a G q _ h.1.2) (sSs b G q _ h.2)) (xO (mT G.mono c))
 | .for g src b,G,q,s,h=>by
  refine Bh s h fun tg it body els _ h => ?_;refine eQ els h fun  h => ?_;simp only [g8] at h;obtain ⟨⟨⟨hs,F⟩,hi⟩,hb⟩:=h;exact PS.imp (zk (fun e s z=>(G.hx e s z).elim) G.calm (sI src G _ _ hi).1 (sG G g _ F) (sSs b G q _ hb) (t9 hs)) (v3 (mI G.mono src) (mSs G.mono b))
 | .while c b,G,q,s,h=>by
  refine yj s h fun t body els _ h => ?_;refine eQ els h fun  h => ?_;simp only [g8] at h;exact PS.imp (u3 (fun e s z=>(G.hx e s z).elim) (sT c G _ h.1) (sSs b G q _ h.2)) (pZ (mT G.mono c) (mSs G.mono b))
 | .frzN i m,G,q,s,h=>by
  simp only [okS] at h;exact yi (sS m G q s h)
 | .dell o i,G,q,s,h=>by
  refine vG s h fun ts pos h => ?_;refine bP ts h fun t h => ?_;refine bD t h fun x y tp h => ?_;simp only [g8] at h;exact yg (mE G.mono o) (mE G.mono i) (sE o G x h.1) (sE i G y h.2)
 | .putN o i m,G,q,s,h=>by
  refine ee s h fun ts e pos h => ?_;refine bP ts h fun tg h => ?_;refine bD tg h fun x y tp h => ?_;simp only [g8] at h;obtain ⟨⟨⟨⟨U,L⟩,ho⟩,hi⟩,he⟩:=h;exact ye (by have:=G.units;lia) (mE G.mono m) (mE G.mono o) (mE G.mono i) (sE m G e he) (sE o G x ho) (sE i G y hi) (cm (fF L)) rfl (fun v=>by cases y <;> first | rfl | (simp [bS] at U;done))
 | .pass,G,q,s,h=>by
  refine Ac s h fun _ h => ?_;exact PS.imp wQ jE
 | .brk,G,q,s,h=>by
  refine yk s h fun _ h => ?_;exact PS.imp tY pY
 | .cnt,G,q,s,h=>by
  refine qr s h fun _ h => ?_;exact PS.imp nE rT
theorem sSs:∀ (m:MSs) (G:Good C Φ k X) (j:C.sc.kind = .function) (s:List Stmt),okSs m C s=true->PSs X s (lS X.K (wSs Φ m))
 | .nil,G,j,s,h=>by
  simp [okSs] at h;subst h;exact PSs.imp wP jE
 | .cons m r,G,j,[],h=>by simp [okSs] at h
 | .cons m r,G,j,s::ss,h=>by
  simp only [okSs,g8] at h;exact PSs.imp (tX (sS m G j s h.1) (sSs r G j ss h.2)) (uX (mS G.mono m) (mSs G.mono r))
end
end
end
section
structure FD where
 name:Str
 st:Stmt
 N:List Str
 np:Nat
 body:MSs
noncomputable def dM (N:List Str) (ds:List D):am:=ds.map some++Em (N.length - ds.length) none
noncomputable def phi (T:List FD):Nat->Phi
 | 0=>fun _ _ _ _=>False
 | k+1=>fun f ds M Q => ∃ d,T[f]? = some d/\ds.length=d.np/\wSs (phi T k) d.body { nx:=fun _ M'=>Q .non M',rt:=Q } (dM d.N ds) M
theorem ef (T:List FD):∀ k f,aR (phi T k f)
 | 0,f=>fun _ _ _ _ _ q=>q.elim
 | k+1,f=>fun ds M Q Q' h ⟨d,e,l,q⟩=>⟨d,e,l,mSs (ef T k) d.body { nx:=fun _ M'=>Q .non M',rt:=Q } { nx:=fun _ M'=>Q' .non M',rt:=Q' } _ _ ⟨fun _ M' q'=>h _ _ q',h,fun _ _ z=>z,fun _ _ z=>z⟩ q⟩
noncomputable def qC (Γ:List Str) (cs:List (Str×D)) (d:FD):Bool :=
 decide ((au d.st).kind = .function) && !(au d.st).isCoroutine && !(au d.st).isGenerator&&decide (d.N.Nodup)&&decide (d.np<=d.N.length)
  && (d.N.take d.np).all (fun x=>(au d.st).names.lookup x==some .local || (au d.st).names.lookup x==some .cell)
  && (au d.st).names.all (fun y => !(y.2 == .free))&&okSs d.body ⟨Γ,d.N,au d.st,d.N,cs⟩ (bw d.st)
theorem vK {Γ:List Str} {cs:List (Str×D)} {d:FD} (h:qC Γ cs d=true):eW d.N (d.N.take d.np) (au d.st)/\(d.N.take d.np).length=d.np/\okSs d.body ⟨Γ,d.N,au d.st,d.N,cs⟩ (bw d.st)=true:=by
 simp only [qC,g8,decide_eq_true_eq,G2] at h;obtain ⟨⟨⟨⟨⟨⟨⟨h1,h2⟩,q⟩,B⟩,O⟩,F⟩,G⟩,J⟩:=h;have j:(d.N.take d.np).length=d.np:=by rw [EE];lia
 refine ⟨⟨h1,h2,q,B,by rw [j],fun x hx => ?_,fun y L e => ?_⟩,j,J⟩
 ·have z:=IK.mp F x hx;simpa using z
 ·have z:=IK.mp G y L;rw [e] at z;simp at z
section
variable {P:Er} {w:EH} {K:Frag} {mg:Str->Option e7} {base:Heap}
structure wx (K:Frag) (mg:Str->Option e7) (T:List FD) (cs:List (Str×D)):Prop where
 blt:∀ x∈bltNames,mg x=none
 fns:∀ (i:Nat) (d:FD),T[i]? = some d -> ∃ f fd,Fun K d.name d.name d.st f fd/\mg d.name=some (.ref f)/\Ik K Fo d.name=some (some (.ref f))/\Binds K fd (d.N.take d.np) []
 ok:∀ d∈T,qC (T.map (·.name)) cs d=true
 cst:∀ x d,(x,d)∈cs -> ∃ u,mg x=some u/\GV K d u
theorem tj {T:List FD} {cs:List (Str×D)} (O:wx K mg T cs):∀ (k i:Nat) (d:FD) (f:Addr) (fd:Ht),T[i]? = some d->Fun K d.name d.name d.st f fd->cY P w K mg base CX0 k f fd (d.N.take d.np) (lSp K (phi T k i))
 | 0,i,d,f,fd,e,F=>⟨fun vs H Q E h=>by obtain ⟨ds,M,_,_,q⟩:=h;exact q.elim,fun A outer s H args us vs Q E _ _ _ _ h=>by obtain ⟨ds,M,_,_,q⟩:=h;exact q.elim⟩
 | k+1,i,d,f,fd,e,F=>by
   obtain ⟨S,hl,hb⟩:=vK (O.ok d (EI e));refine F.ok S (fun vs H Q E h => ?_) fun cdv A outer s H vs Q E hr h => ?_
   ·obtain ⟨ds,M,rm,rs,d',e',l,q⟩:=h;rw [e] at e';cases e';rw [rs.length,l,hl]
   ·obtain ⟨ds,M,rm,rs,d',e',l,q⟩:=h;rw [e] at e';cases e';have G:Good ⟨T.map (·.name),d.N,au d.st,d.N,cs⟩ (phi T k) k ((fZ CX0 P w K mg base d.N d.name (au d.st) f cdv A outer s H E).nox):=by
     refine ⟨fun _ _ z=>z,rfl,rfl,rfl,S.nd,fun _ _=>rfl,hr,O.blt,fun j x hx => ?_,ef T k,O.cst⟩;have B:(T.map (·.name))[j]? = some x:=hx;rw [Eo] at B
     cases Y:T[j]? with
     | none=>rw [Y] at B;cases B
     | some d2 =>
       rw [Y] at B;cases B;obtain ⟨f2,U,Z,m2,n2,b2⟩:=O.fns j d2 Y;exact ⟨f2,U,_,m2,n2,Z.kp,b2,tj O k j d2 f2 U Y Z⟩
    refine ⟨_,sSs d.body G S.kind _ hb,dM d.N ds,M, { nx:=fun _ M'=>KE' K M H Q .non M',rt:=KE' K M H Q }, ?_,rm,⟨fun ρ M' σ H' x rs' rm' q' => ?_,fun d M' v H' x rm' rd' q'=>q' v H' x rm' rd',fun _ _ _ _ _ _ _ z=>z,fun _ _ _ _ _ _ _ z=>z⟩,q⟩
    ·refine ⟨by simp [cu,dM,rs.length],fun j dd J => ?_⟩
     unfold dM at J;unfold cu
     by_cases L:j < ds.length
     ·rw [Ef (by simpa using L),Eo] at J
      cases e3:ds[j]? with
      | none=>rw [e3] at J;cases J
      | some z =>
        rw [e3] at J;cases J;obtain ⟨v,hv,rv⟩:=rs.get e3;refine ⟨v, ?_,rv⟩;rw [Ef (by rw [Eg,rs.length];exact L),Eo,hv];rfl
     ·rw [hH (by simpa using L),JY] at J
      split at J <;> cases J
    ·exact q' .non H' x rm' (Oe.mpr rfl)
theorem Ah {T:List FD} {k i:Nat} {H:Hp} {a:Addr} {ns:List Int} (B:pC H) (F:SqL K H a (ns.map V.int)) (h:phi T k i [.con (ns.map D.int)] (fun _=>none) fun d _=>d = .bl true) :
 lSp K (phi T k i) [.ref a] H (fun v _=>v = .bl true) fun _ _ _=>False:=by
 have j:RM K (fun _=>none) H:=fun _ _ z=>by cases z
 refine ⟨[.con (ns.map D.int)],fun _=>none,j,RDs.cons (Oc.mpr ⟨a,ns.map V.int,rfl, ?_,Oq ns⟩) RDs.nil,ef T k i [.con (ns.map D.int)] (fun _=>none) (fun d _=>d = .bl true) (KE' K (fun _=>none) H fun v _=>v = .bl true) (fun d M' e=>fun v H' x rm rd => ?_) h⟩
 ·rcases F with (z | ⟨o,z⟩) | z
  ·rcases B a with q | ⟨o,xs,q⟩
   ·rw [z] at q;cases q
   ·rw [z] at q;cases q
  ·exact .inl ⟨o,z⟩
  ·exact .inr z
 ·subst e;exact O9.mp rd
end
theorem cb (us:List e7) (h:us.length=1):∃ a,us=[a]:=List.length_eq_one_iff.mp h
theorem cN (us:List e7) (h:us.length=2):∃ a b,us=[a,b]:=by
 cases us with
 | nil=>cases h
 | cons a us=>obtain ⟨b,rfl⟩:=cb us (Nat.succ.inj h);exact ⟨a,b,rfl⟩
end
section
theorem Ai {T:List FD} {k f:Nat} {d:FD} {ds:List D} {M:Mem} {Q:QD} (e:T[f]? = some d) (l:ds.length=d.np) {ρ:am} (r:dM d.N ds = ρ)
 (h:wSs (phi T k) d.body { nx:=fun _ M'=>Q .non M',rt:=Q } ρ M):phi T (k+1) f ds M Q:=⟨d,e,l,by rw [r];exact h⟩
theorem ay {T:List FD} {n f:Nat} {d:FD} {ds:List D} {M:Mem} {Q:QD} (j : 1<=n) (e:T[f]? = some d) (l:ds.length=d.np) {ρ:am} (r:dM d.N ds = ρ)
 (h:wSs (phi T (n - 1)) d.body { nx:=fun _ M'=>Q .non M',rt:=Q } ρ M):phi T n f ds M Q:=by
 obtain ⟨k,rfl⟩:∃ k,n=k+1:=⟨n - 1,by lia⟩
 exact Ai e l r h
theorem yp {Φ:Phi} {D:bA} {ρ:am} {M:Mem}:wSs Φ .nil D ρ M=D.nx ρ M:=by rw [wSs];rfl
theorem gG {Φ:Phi} {s:MS} {r:MSs} {D:bA} {ρ:am} {M:Mem}:wSs Φ (.cons s r) D ρ M=wS Φ s { D with nx:=wSs Φ r D } ρ M:=by rw [wSs];rfl
theorem oJ {ds:List D} {y:D} {M:Mem} {Q:QD}:wIx (.tup ds) y M Q = ∃ i d,y = .int i/\atI ds i=some d/\Q d M:=rfl
theorem oK {ds:List D} {y:D} {M:Mem} {Q:QD}:wIx (.con ds) y M Q = ∃ i d,y = .int i/\atI ds i=some d/\Q d M:=rfl
theorem aK {a:Addr} {i:Int} {ds:List D} {d:D} {M:Mem} {Q:QD} (h:M a=some (.lst ds)) (e:atI ds i=some d) (q:Q d M):wIx (.ref a) (.int i) M Q := .inl ⟨ds,i,d,h,rfl,e,q⟩
theorem gH {a:Addr} {i:Int} {ds:List D} {v:D} {j:Nat} {M:Mem} {Q:Mem->Prop} (h:M a=some (.lst ds)) (e:ixN ds.length i=some j) (q:Q (af M a (.lst (ds.set j v)))):iw (.ref a) (.int i) v M Q:=⟨a,rfl, .inl ⟨ds,i,j,rfl,h,e,q⟩⟩
theorem fG {a:Addr} {ds:List D} {M:Mem} {Q:QD} (h:M a=some (.lst ds)) (q:Q (.int ds.length) M):dy [.ref a] M Q:=⟨_,_,rfl,by simp only [gm,h],q⟩
theorem ag {a:Addr} {ds:List D} {M:Mem} (h:M a=some (.lst ds)):aq M (.ref a)=some ds:=by simp only [aq,h]
theorem Aj {i:Int} {M:Mem} {Q:QD}:j5 [.int i] M Q=Q (.int i) M:=by
 apply propext;constructor
 ·rintro (⟨j,e,q⟩ | ⟨k,e,q⟩)
  ·cases e;exact q
  ·cases e
 ·exact fun q => .inl ⟨i,rfl,q⟩
theorem tm {b:Bool} {M:Mem} {Q:QD}:j5 [.bl b] M Q=Q (.int (if b then 1 else 0)) M:=by
 apply propext;constructor
 ·rintro (⟨j,e,q⟩ | ⟨k,e,q⟩)
  ·cases e
  ·cases e;exact q
 ·exact fun q => .inr ⟨b,rfl,q⟩
theorem wy {i j:Int} {M:Mem} {Q:QD}:wEq (.int i) (.int j) M Q=Q (.bl (i==j)) M:=by
 simp [wEq,rb,EW]
theorem Bi {i j:Int} {M:Mem} {Q:QD}:wNe (.int i) (.int j) M Q=Q (.bl (!(i==j))) M:=by
 simp [wNe,rb,EW]
theorem tt {i j:Int} {M:Mem} {Q:QD}:gh (.int i) (.int j) M Q=Q (.int (i+j)) M:=rfl
theorem tu {a b:List D} {M:Mem} {Q:QD}:gh (.tup a) (.tup b) M Q=((a≠[]∨True)/\a.length+b.length<=D0/\Q (.tup (a++b)) M):=rfl
theorem tw {i j:Int} {M:Mem} {Q:QD}:pM (.int i) (.int j) M Q=Q (.int (i - j)) M:=rfl
theorem tz {i j:Int} {M:Mem} {Q:QD}:j0 (.int i) (.int j) M Q=(MulOk i j/\Q (.int (i*j)) M):=rfl
theorem tD {ds:List D} {k:Int} {M:Mem} {Q:QD}:j0 (.tup ds) (.int k) M Q=(-(2 ^ 63)<=k/\k < 2 ^ 63/\ds.length*k.toNat<=D0/\Q (.tup (Em k.toNat ds).flatten) M):=rfl
theorem oM {i j:Int} {M:Mem} {Q:QD}:kh (.int i) (.int j) M Q=(0 < j/\j < 2 ^ 256/\Q (.int (i / j)) M):=rfl
theorem tE {i j:Int} {M:Mem} {Q:QD}:pN (.int i) (.int j) M Q=(0 < j/\Q (.int (i % j)) M):=rfl
theorem tF {i j:Int} {M:Mem} {Q:QD}:pO (.int i) (.int j) M Q=(0<=j/\j<=1000000/\i.natAbs < 2 ^ 64/\Q (.int (i ^ j.toNat)) M):=rfl
theorem wz {i j:Int} {M:Mem} {Q:QD}:wLt (.int i) (.int j) M Q=Q (.bl (decide (i < j))) M:=rfl
theorem wB {i j:Int} {M:Mem} {Q:QD}:wLe (.int i) (.int j) M Q=Q (.bl (decide (i<=j))) M:=rfl
theorem qD {i j:Int} {M:Mem} {Q:QD}:wGt (.int i) (.int j) M Q=Q (.bl (decide (j < i))) M:=rfl
theorem wD {i j:Int} {M:Mem} {Q:QD}:wGe (.int i) (.int j) M Q=Q (.bl (decide (j<=i))) M:=rfl
theorem tG {i:Int} {M:Mem} {Q:QD}:j3 (.int i) M Q=Q (.int (-i)) M:=rfl
theorem Ak {i:Int} {M:Mem} {Q:QD}:kW [.int i] M Q=Q (.int (if i < 0 then -i else i)) M:=by simp [kW]
theorem yq {i j:Int} {M:Mem} {Q:QD}:ki [.int i, .int j] M Q=Q (.int (if j < i then j else i)) M:=by
 apply propext;constructor
 ·rintro ⟨a,b,e,q⟩;cases e;exact q
 ·exact fun q=>⟨i,j,rfl,q⟩
theorem Al {ds:List D} {M:Mem} {Q:QD}:dy [.con ds] M Q=Q (.int ds.length) M:=by simp [dy,gm]
theorem Am {ds:List D} {M:Mem} {Q:QD}:dy [.tup ds] M Q=Q (.int ds.length) M:=by simp [dy,gm]
theorem tH {ds:List D} {M:Mem}:aq M (.tup ds)=some ds:=rfl
theorem tI {ds:List D} {M:Mem}:aq M (.con ds)=some ds:=rfl
theorem wF {α:Sort _} {a b : α}:(if true=true then a else b)=a:=rfl
theorem wG {α:Sort _} {a b : α}:(if false=true then a else b)=b:=rfl
theorem yr {ta tb:TEd} {ρ:am} {M:Mem} {R:List D->(Mem->Prop)->Mem->Prop}:lq ta tb ρ M R=ta ρ M fun x j=>tb ρ j fun y M2 => ∃ xs ys,aq M2 x=some xs/\aq M2 y=some ys/\R (HC il xs ys) (fun M=>aq M x=some xs/\aq M y=some ys) M2:=by
 unfold lq aF;congr 1;funext x j;unfold bm;congr 1;funext y M2;apply propext;constructor
 ·rintro ⟨x',y',xs,ys,e,q⟩
  cases e;exact ⟨xs,ys,q⟩
 ·rintro ⟨xs,ys,q⟩;exact ⟨x,y,xs,ys,rfl,q⟩
theorem tJ {x y:Str} {M:Mem} {Q:QD}:gh (.str x) (.str y) M Q=(x.length+y.length<=D0/\Q (.str (x++y)) M):=rfl
local macro_rules | `(tactic| walk_at "wp") => `(tactic| ((try dsimp only [wS,wE,wA,wAnds,wOrs,wO,wT,wAndTs,wOrTs,wTl,wI,wCl,wCmp,bG,bGs,opB,opC,opF,opM,A5,opI,bI,iH,iF,iG,eP,iI,dH,wC,wOp,wUn,bm,aF,wAr,dY,kQ,iY,lh,i9,ic,lj,ie,ll,ig,wIf,dD,fe,wSl,iE,ii,eO,wBM,bn,gn,bY,pV,ln,im,ik,bM,b6,cT,fg,iX,fh,lB,eJ,iq,iu,lD,sIf,gp,lF,lH,eK,lJ,tt,tu,tJ,tw,tz,tD,oM,tE,tF,wz,wB,qD,wD,tG,tH,tI,oJ,oK,wF,wG,Ka,GX,LU,LV,IF,HV,N7,N8,N9,Ew,Ii,FW,FR]);(try simp only [wS,wE,wA,wAnds,wOrs,wO,wT,wAndTs,wOrTs,wTl,wI,wCl,wCmp,bG,bGs,opB,opC,opF,opM,A5,opI,bI,iG,eP,iF,iH,iI,dH,wC,wOp,wUn,bm,aF,wAr,dY,kQ,iY,lh,i9,ic,lj,ie,ll,ig,wIf,dD,fe,wSl,iE,ii,eO,wBM,bn,gn,bY,pV,ln,yr,im,ik,bM,b6,cT,fg,iX,fh,lB,eJ,iq,iu,lD,sIf,gp,lF,lH,eK,lJ,yp,
 tt,tu,tJ,tw,tz,tD,oM,tE,tF,wz,wB,qD,wD,tG,Aj,tm,wy,Bi,Ak,yq,Al,Am,tH,tI,oJ,oK,wF,wG,EV,if_false,if_true,
 Ka,GX,LU,LV,Mq,exists_eq_left',exists_eq_left,exists_eq_right,exists_and_left,exists_and_right,D.bl.injEq,D.int.injEq,D.ref.injEq,D.tup.injEq,IF,HV,N7,N8,N9,Ew,Ii,decide_eq_true_eq,HX,and_true,true_and,FW,FR])))
local macro_rules | `(tactic| walk_at "st") => `(tactic| ((first | rw [gG] | (dsimp only;rw [gG]));walk_at "wp"))
def Ge (M M':Mem):Prop := ∀ a o,M a=some o->M' a=some o
theorem Ge.refl {M:Mem}:Ge M M:=fun _ _ h=>h
theorem Ge.trans {M M' M'':Mem} (h:Ge M M') (g:Ge M' M''):Ge M M'':=fun _ _ e=>g _ _ (h _ _ e)
theorem Ge.new {M:Mem} {p:Addr} {o:O} (h:M p=none):Ge M (af M p o):=fun a o' e=>by
 rw [ah (fun z=>by rw [z,h] at e;cases e)];exact e
def Box (b:Addr) (M:Mem):Prop := ∃ x y z:Int,M b=some (.lst [.int x, .int y, .int z])
structure Bx (b:Addr) (M M':Mem):Prop where
 box:Box b M'
 keep:∀ a o,a≠b->M a=some o->M' a=some o
theorem Bx.refl {b:Addr} {M:Mem} (h:Box b M):Bx b M M:=⟨h,fun _ _ _ e=>e⟩
theorem Bx.trans {b:Addr} {M M' M'':Mem} (h:Bx b M M') (g:Bx b M' M''):Bx b M M'':=⟨g.box,fun a o n e=>g.keep a o n (h.keep a o n e)⟩
theorem Bx.ge {b:Addr} {M M' M'':Mem} (h:Bx b M M') (g:Ge M' M''):Bx b M M'':=⟨by obtain ⟨x,y,z,e⟩:=h.box;exact ⟨x,y,z,g _ _ e⟩,fun a o n e=>g _ _ (h.keep a o n e)⟩
theorem Bx.put {b:Addr} {M:Mem} {x y z:Int}:Bx b M (af M b (.lst [.int x, .int y, .int z])):=⟨⟨x,y,z,ad⟩,fun a o n e=>by rw [ah n];exact e⟩
theorem jQ {b:BT} {tb:TCd} {chk:Mem->Prop} {N:NC} (I:List D->am->Mem->List D->Prop) {xs:List D} {ρ:am} {M:Mem} {acc:List D}
 (h0:I [] ρ M acc)
 (q:∀ l ρ M acc,I l ρ M acc->chk M)
 (hs:∀ l x r ρ M acc,xs=l++x::r->I l ρ M acc -> ∃ ρ',b x ρ = some ρ' /\ ∀ N':NC,(∀ ρ2 M2 j,I (l++[x]) ρ2 M2 j->N' ρ2 M2 j)->tb ρ' M acc N')
 (z:∀ ρ M acc,I xs ρ M acc->N ρ M acc):aY b tb chk N xs ρ M acc:=by
 have g:∀ (r l:List D) (ρ:am) (M:Mem) (acc:List D),xs=l++r->I l ρ M acc->aY b tb chk N r ρ M acc:=by
  intro r
  induction r with
  | nil=>intro l ρ M acc e i;rw [F8] at e;subst e;exact ⟨q _ _ _ _ i,z _ _ _ i⟩
  | cons x r ih =>
    intro l ρ M acc e i;obtain ⟨ρ',B,h⟩:=hs l x r ρ M acc e i;exact ⟨q _ _ _ _ i, ρ',B,h _ fun ρ2 M2 j F=>ih (l++[x]) ρ2 M2 j (by rw [e];simp) F⟩
 exact g xs [] ρ M acc rfl h0
theorem vL {b:BT} {tb:TSd} {chk:Mem->Prop} {E:bA} (I:List D->am->Mem->Prop) {xs:List D} {ρ:am} {M:Mem}
 (h0:I [] ρ M)
 (j:∀ l ρ M,I l ρ M->chk M)
 (hs:∀ l x r ρ M,xs=l++x::r->I l ρ M -> ∃ ρ',b x ρ = some ρ' /\ ∀ F:am->Mem->Prop,(∀ ρ2 M2,I (l++[x]) ρ2 M2->F ρ2 M2)->tb { E with nx:=F,ct:=F,bk:=E.nx } ρ' M)
 (q:∀ ρ M,I xs ρ M->E.nx ρ M):bf b tb chk E xs ρ M:=by
 have g:∀ (r l:List D) (ρ:am) (M:Mem),xs=l++r->I l ρ M->bf b tb chk E r ρ M:=by
  intro r
  induction r with
  | nil=>intro l ρ M e i;rw [F8] at e;subst e;exact ⟨j _ _ _ i,q _ _ i⟩
  | cons x r ih =>
    intro l ρ M e i;obtain ⟨ρ',z,h⟩:=hs l x r ρ M e i;exact ⟨j _ _ _ i, ρ',z,h _ fun ρ2 M2 B=>ih (l++[x]) ρ2 M2 (by rw [e];simp) B⟩
 exact g xs [] ρ M rfl h0
section
variable {T:List FD}
noncomputable def iN (s:Stmt):FD:=⟨"_law_cell_at",s,["_law_script", "_law_k"],2,
 (.cons (.ite (.cmp .lt (.var 1) (.blt .len (.cons (.var 0) .nil))) (.cons (.ret (.ix (.var 0) (.var 1)))
 .nil) .nil)
 (.cons (.ret (.int 0))
 .nil))⟩
theorem vM {α:Type} {xs:List α} {i:Int} (h0 : 0<=i) (h1:i < xs.length):∃ x,atI xs i=some x/\xs[i.toNat]? = some x:=by
 have:i.toNat < xs.length:=by lia
 refine ⟨xs[i.toNat], ?_,h7 this⟩;unfold atI ixN;simp [h0,h1,h7 this]
theorem yt {f:Nat} {s:Stmt} (hf:T[f]? = some (iN s)) {n:Nat} (z : 1<=n) {ns:List Int} {k:Int} {M:Mem} {Q:QD} (h0 : 0<=k) (q:∀ i,Q (.int i) M):phi T n f [.con (ns.map D.int), .int k] M Q:=by
 refine ay z hf rfl (ρ := [some _,some _]) rfl ?_;unfold iN;walk_at "st"
 split
 ·next h =>
  walk_at "st";obtain ⟨x,e,j⟩:=vM (xs:=ns.map D.int) h0 h;rw [Eo] at j
  cases e3:ns[k.toNat]? with
  | none=>rw [e3] at j;cases j
  | some y=>rw [e3] at j;cases j;exact ⟨_,e,q y⟩
 ·walk_at "st";exact q 0
theorem An {i j:Int} (h : -(2 ^ 64) < i/\i < 2 ^ 64):MulOk i j := .inl h
theorem mY {i j:Int} (h : -(2 ^ 64) < j/\j < 2 ^ 64):MulOk i j := .inr (.inl h)
noncomputable def oO (s:Stmt):FD:=⟨"_law_mixed",s,["_law_number_here", "_law_k", "_law_once", "_law_twice"],2,
 (.cons (.asg (.name 2) (.bin .mod (.bin .mul (.bin .add (.bin .add (.bin .mod (.var 0) (.int 1000000007)) (.bin .mul (.int 7) (.var 1))) (.int 1)) (.int 48271)) (.int 2147483647)))
 (.cons (.asg (.name 3) (.bin .mod (.bin .mul (.var 2) (.bin .add (.bin .add (.bin .mod (.var 2) (.int 1009)) (.var 1)) (.int 3))) (.int 998244353)))
 (.cons (.ret (.bin .fdiv (.bin .mod (.bin .add (.bin .mul (.var 3) (.int 39373)) (.var 2)) (.int 2147483629)) (.int 64)))
 .nil)))⟩
noncomputable def qE (s:Stmt) (fc fm:Nat):FD:=⟨"_law_box",s,["_law_script", "_law_k", "_law_cell"],2,
 (.cons (.asg (.name 2) (.call fc (.cons (.var 0) (.cons (.var 1) .nil))))
 (.cons (.ret (.lst (.cons (.bin .mul (.blt .abs (.cons (.var 2) .nil)) (.blt .int (.cons (.cmp .ge (.blt .abs (.cons (.var 2) .nil)) (.bin .pow (.int 10) (.int 18))) .nil))) (.cons (.call fm (.cons (.var 2) (.cons (.bin .add (.int 900) (.var 1)) .nil))) (.cons (.int 0) .nil)))))
 .nil))⟩
theorem Ao {f fc fm:Nat} {s sc:Stmt} (hf:T[f]? = some (qE s fc fm)) (z:T[fc]? = some (iN sc)) {n:Nat} (B:∀ {x k:Int} {M:Mem} {Q:QD},(∀ i,Q (.int i) M)->phi T (n - 1) fm [.int x, .int k] M Q) (G : 2<=n) {ns:List Int} {k:Int} {M:Mem} {Q:QD} (h0 : 0<=k)
 (q:∀ p x y,M p=none->Q (.ref p) (af M p (.lst [.int x, .int y, .int 0]))):phi T n f [.con (ns.map D.int), .int k] M Q:=by
 refine ay (by lia) hf rfl (ρ := [some _,some _,none]) rfl ?_
 unfold qE;walk_at "st";refine yt z (by lia) h0 fun i => ?_
 walk_at "st";refine ⟨by decide,by decide,by decide,mY ?_, ?_⟩
 ·split <;> lia
 refine B fun j => ?_;exact ⟨by rw [tv];lia,fun p F=>q p _ _ F⟩
noncomputable def mZ (s:Stmt) (fm:Nat):FD:=⟨"_law_take",s,["_law_box_here", "_law_many", "_law_found", "_law_reach"],2,
 (.cons (.ite (.cmp .gt (.ix (.var 0) (.int 0)) (.int 0)) (.cons (.asg (.name 2) (.bin .mod (.ix (.var 0) (.int 0)) (.var 1)))
 (.cons (.put (.var 0) (.int 0) (.bin .fdiv (.ix (.var 0) (.int 0)) (.var 1)))
 (.cons (.ret (.var 2))
 .nil))) .nil)
 (.cons (.asg (.tup (.cons (.name 2) (.cons (.name 3) .nil))) (.tup (.cons (.int 0) (.cons (.int 1) .nil))))
 (.cons (.while (.cmp .lt (.var 3) (.var 1)) (.cons (.put (.var 0) (.int 2) (.bin .add (.ix (.var 0) (.int 2)) (.int 1)))
 (.cons (.asg (.name 2) (.bin .add (.bin .mul (.var 2) (.int 33554432)) (.call fm (.cons (.ix (.var 0) (.int 1)) (.cons (.ix (.var 0) (.int 2)) .nil)))))
 (.cons (.asg (.name 3) (.bin .mul (.var 3) (.int 33554432)))
 .nil))))
 (.cons (.ret (.bin .mod (.var 2) (.var 1)))
 .nil))))⟩
def qF (T:List FD) (n fm:Nat):Prop := ∀ {x k:Int} {M:Mem} {Q:QD},(∀ i,Q (.int i) M)->phi T n fm [.int x, .int k] M Q
theorem yu {f fm:Nat} {s:Stmt} (hf:T[f]? = some (mZ s fm)) {n:Nat} (J:qF T (n - 1) fm) (O : 2<=n) {b:Addr} {m:Int} {M:Mem} {Q:QD} (L:Box b M) (h1 : 0 < m) (h2:m<=2 ^ 120)
 (q:∀ r M',0<=r->r < m->Bx b M M'->Q (.int r) M'):phi T n f [.ref b, .int m] M Q:=by
 refine ay (by lia) hf rfl (ρ := [some _,some _,none,none]) rfl ?_
 unfold mZ;obtain ⟨x,y,z,G⟩:=L;walk_at "st";refine aK G (d := .int x) rfl ?_;simp only [qD];walk_at "wp"
 split
 ·next hx =>
  walk_at "st";refine aK G (d := .int x) rfl ?_;walk_at "wp";refine ⟨h1, ?_⟩;walk_at "st";refine aK G (d := .int x) rfl ?_;walk_at "wp";refine ⟨h1,by lia, ?_⟩
  refine gH G (j := 0) rfl ?_;walk_at "st";exact q _ _ (Ja _ (by lia)) (I7 _ h1) Bx.put
 ·next hx =>
  walk_at "st";refine ⟨by rw [tv];lia, ?_⟩
  walk_at "st";refine ⟨6, ?_⟩;have go:∀ (f:Nat) (found reach z:Int) (M':Mem),m<=reach*33554432 ^ f->M' b=some (.lst [.int x, .int y, .int z])->Bx b M M' ->
   aH (dY (wOp wLt (bI 3) (bI 1))) (wSs (phi T (n - 1)) (MSs.cons (MS.put (ME.var 0) (ME.int 2) (ME.bin BOp.add ((ME.var 0).ix (ME.int 2)) (ME.int 1)))
    (MSs.cons (MS.asg (MG.name 2) (ME.bin BOp.add (ME.bin BOp.mul (ME.var 2) (ME.int 33554432)) (ME.call fm (MEs.cons ((ME.var 0).ix (ME.int 1)) (MEs.cons ((ME.var 0).ix (ME.int 2)) MEs.nil)))))
      (MSs.cons (MS.asg (MG.name 3) (ME.bin BOp.mul (ME.var 3) (ME.int 33554432))) MSs.nil))))
    { nx:=wSs (phi T (n - 1)) (MSs.cons (MS.ret (ME.bin BOp.mod (ME.var 2) (ME.var 1))) MSs.nil) { nx:=fun x M'=>Q D.non M',rt:=Q },rt:=Q } (f+1) [some (.ref b),some (.int m),some (.int found),some (.int reach)] M':=by
   intro f
   induction f with
   | zero =>
     intro found reach z M' hm F B;simp only [aH];walk_at "wp";rw [if_neg (by lia)]
     walk_at "st";exact ⟨h1,q _ _ (Ja _ (by lia)) (I7 _ h1) B⟩
   | succ f ih =>
     intro found reach z M' hm F B;rw [aH];walk_at "wp"
     split
     ·next U =>
      walk_at "st";refine aK F (d := .int z) rfl ?_;walk_at "wp";refine gH F (j := 2) rfl ?_;walk_at "st";refine ⟨mY (by decide), ?_⟩
      refine aK ad (d := .int y) rfl ?_;refine aK ad (d := .int (z+1)) rfl ?_;refine J fun i => ?_;walk_at "wp";walk_at "st";refine ⟨mY (by decide), ?_⟩
      exact ih _ _ (z+1) _ (by rw [Int.mul_assoc, <- Int.pow_succ'];exact hm) ad (B.trans Bx.put)
     ·walk_at "st";exact ⟨h1,q _ _ (Ja _ (by lia)) (I7 _ h1) B⟩
  exact go 5 0 1 z M (by lia) G (Bx.refl ⟨x,y,z,G⟩)
def dN (T:List FD) (n f:Nat):Prop := ∀ {b:Addr} {m:Int} {M:Mem} {Q:QD},Box b M->0 < m->m<=2 ^ 120->(∀ r M',0<=r->r < m->Bx b M M'->Q (.int r) M')->phi T n f [.ref b, .int m] M Q
end
section
variable {T:List FD}
theorem bE {lo:Int} {n:Nat}:(b8 lo n).length=n:=by simp [b8]
theorem aO {α:Type} {xs l r:List α} {x : α} (e:xs=l++x::r):l.length < xs.length:=by rw [e];simp
theorem jR {α:Type} {xs l r:List α} {x : α} (e:xs=l++x::r):xs[l.length]? = some x:=by rw [e];simp
noncomputable abbrev Pr:=List Int×List Int×List Int
noncomputable def prD (p:Pr):D := .tup [.tup (p.1.map .int), .tup (p.2.1.map .int), .tup (p.2.2.map .int)]
noncomputable def eg (p:Pr):Fg := .tuple [.tuple (p.1.map .int), .tuple (p.2.1.map .int), .tuple (p.2.2.map .int)]
theorem fH {k:Nat} {M:Mem}:∀ ns:List Int,az (rb k M) (ns.map D.int)=some (ns.map Jz)
 | [] => rfl
 | x::r=>by
   have e:rb k M (.int x)=some (.int x):=by cases k <;> rfl
   simp [az,e,fH r]
theorem Bj {k:Nat} {M:Mem} (p:Pr):rb (k+2) M (prD p)=some (eg p):=by
 simp [rb,prD,eg,az,fH]
theorem tK {k:Nat} {M:Mem}:∀ ps:List Pr,az (rb (k+2) M) (ps.map prD)=some (ps.map eg)
 | [] => rfl
 | p::r=>by simp [az,Bj,tK r]
theorem Ap {k:Nat} {M:Mem} {a:Addr} {ds:List D} (h:M a=some (.lst ds)):rb (k+1) M (.ref a)=(az (rb k M) ds).map Ni:=by
 simp only [rb,h]
theorem eh {Φ:Phi} {s:MS} {r:MSs} {E:bA} {ρ:am} {M:Mem} (I:am->Mem->Prop) (h1:∀ R:am->Mem->Prop,(∀ ρ M,I ρ M->R ρ M)->wS Φ s { E with nx:=R } ρ M) (h2:∀ ρ M,I ρ M->wSs Φ r E ρ M):wSs Φ (.cons s r) E ρ M:=by
 rw [gG];exact h1 _ h2
theorem Bx.upd {b q:Addr} {M M':Mem} {o:O} (h:Bx b M M') (B:M q=none) (j:q≠b):Bx b M (af M' q o) :=
 ⟨by obtain ⟨x,y,z,e⟩:=h.box;exact ⟨x,y,z,by rw [ah j.symm];exact e⟩,fun u o' nu eu=>by
   rw [ah (fun z=>by rw [z,B] at eu;cases eu)];exact h.keep u o' nu eu⟩
theorem Bx.none {b q:Addr} {M M':Mem} (h:Bx b M M') (z:M' q=none) (j:q≠b):M q=none:=by
 cases e:M q with
 | none=>rfl
 | some o=>rw [h.keep q o j e] at z;cases z
noncomputable def prL (p:Pr):List D := [.tup (p.1.map .int), .tup (p.2.1.map .int), .tup (p.2.2.map .int)]
theorem BV {k:Nat}:(Em k [D.int 0]).flatten=(Em k (0:Int)).map D.int:=by
 induction k with
 | zero=>rfl
 | succ k ih=>rw [Fp,Fc,ih];rfl
end
section
theorem aZ {α:Type} {f : α -> D} {b:BT} {tb:TCd} {chk:Mem->Prop} {N:NC} (I:List α -> am->Mem->List D->Prop) {ys:List α} {xs:List D} (hx:xs=ys.map f) {ρ:am} {M:Mem} {acc:List D}
 (h0:I [] ρ M acc)
 (q:∀ l ρ M acc,I l ρ M acc->chk M)
 (hs:∀ l x r ρ M acc,ys=l++x::r->I l ρ M acc -> ∃ ρ',b (f x) ρ = some ρ' /\ ∀ N':NC,(∀ ρ2 M2 j,I (l++[x]) ρ2 M2 j->N' ρ2 M2 j)->tb ρ' M acc N')
 (z:∀ ρ M acc,I ys ρ M acc->N ρ M acc):aY b tb chk N xs ρ M acc:=by
 subst hx;have g:∀ (r l:List α) (ρ:am) (M:Mem) (acc:List D),ys=l++r->I l ρ M acc->aY b tb chk N (r.map f) ρ M acc:=by
  intro r
  induction r with
  | nil=>intro l ρ M acc e i;rw [F8] at e;subst e;exact ⟨q _ _ _ _ i,z _ _ _ i⟩
  | cons x r ih =>
    intro l ρ M acc e i;obtain ⟨ρ',B,h⟩:=hs l x r ρ M acc e i;exact ⟨q _ _ _ _ i, ρ',B,h _ fun ρ2 M2 j F=>ih (l++[x]) ρ2 M2 j (by rw [e];simp) F⟩
 exact g ys [] ρ M acc rfl h0
theorem ba {α:Type} {f : α -> D} {b:BT} {tb:TSd} {chk:Mem->Prop} {E:bA} (I:List α -> am->Mem->Prop) {ys:List α} {xs:List D} (hx:xs=ys.map f) {ρ:am} {M:Mem}
 (h0:I [] ρ M)
 (j:∀ l ρ M,I l ρ M->chk M)
 (hs:∀ l x r ρ M,ys=l++x::r->I l ρ M -> ∃ ρ',b (f x) ρ = some ρ' /\ ∀ F:am->Mem->Prop,(∀ ρ2 M2,I (l++[x]) ρ2 M2->F ρ2 M2)->tb { E with nx:=F,ct:=F,bk:=E.nx } ρ' M)
 (q:∀ ρ M,I ys ρ M->E.nx ρ M):bf b tb chk E xs ρ M:=by
 subst hx;have g:∀ (r l:List α) (ρ:am) (M:Mem),ys=l++r->I l ρ M->bf b tb chk E (r.map f) ρ M:=by
  intro r
  induction r with
  | nil=>intro l ρ M e i;rw [F8] at e;subst e;exact ⟨j _ _ _ i,q _ _ i⟩
  | cons x r ih =>
    intro l ρ M e i;obtain ⟨ρ',z,h⟩:=hs l x r ρ M e i;exact ⟨j _ _ _ i, ρ',z,h _ fun ρ2 M2 B=>ih (l++[x]) ρ2 M2 (by rw [e];simp) B⟩
 exact g ys [] ρ M rfl h0
theorem oP {M M':Mem} {x:D} {ds:List D} (h:aq M x=some ds) (g:Ge M M'):aq M' x=some ds:=by
 cases x with
 | ref a =>
   simp only [aq] at h ⊢
   split at h
   ·next e=>rw [g _ _ e];exact h
   ·cases h
 | _=>exact h
theorem vN {M:Mem} {x:D} {ds:List D} (h:aq M x=some ds):gm M x=some ds.length:=by
 cases x with
 | ref a =>
   simp only [aq] at h
   split at h
   ·next e=>cases h;simp only [gm,e]
   ·cases h
 | tup es=>cases h;rfl
 | con es=>cases h;rfl
 | _=>cases h
theorem jd {M:Mem} {x:D} {ds:List D} {Q:QD} (h:aq M x=some ds) (q:Q (.int ds.length) M):dy [x] M Q:=⟨_,_,rfl,vN h,q⟩
theorem b4 {α:Type} {xs:List α} {k:Nat} {x : α} (h:xs[k]? = some x):atI xs (k:Int)=some x:=by
 have j:k < xs.length:=(o7.mp h).1;unfold atI ixN;rw [if_pos (by lia),if_pos (by lia)]
 exact h
theorem cc {n:Nat}:b8 0 n=(ED n).map fun i=>D.int (i:Nat):=by simp [b8]
end
section
variable {T:List FD}
theorem vO (a b:List Int):HC il (a.map .int) (b.map .int)=(a.zip b).map fun xy => .tup [.int xy.1, .int xy.2]:=by
 rw [List.zipWith_map,Lp,Na];rfl
theorem nS {α β γ:Type} (f : α -> β -> γ) (a:List α) (b:List β):HC f a b=(a.zip b).map fun xy=>f xy.1 xy.2:=by
 rw [Lp,Na]
end
section
variable {T:List FD}
noncomputable def n6 (x:Str) (s:Stmt):FD:=⟨"_law_mixed",s,[x, "_law_k", "_law_once", "_law_twice"],2,(oO s).body⟩
theorem tL {f:Nat} {x:Str} {s:Stmt} (hf:T[f]? = some (n6 x s)) {n:Nat} (j : 1<=n):qF T n f:=by
 intro x k M Q q;refine ay j hf rfl (ρ := [some _,some _,none,none]) rfl ?_;unfold n6 oO;walk_at "st";refine ⟨by decide,An (by decide),mY (by decide),by decide, ?_⟩
 walk_at "st";refine ⟨by decide,An ?_,by decide, ?_⟩
 ·have h1:=Ja ((x % 1000000007+7*k+1)*48271) (b := 2147483647) (by decide)
  have h2:=I7 ((x % 1000000007+7*k+1)*48271) (b := 2147483647) (by decide)
  lia
 walk_at "st";refine ⟨mY (by decide),by decide,by decide,by decide, ?_⟩
 exact q _
end
section
open PySem PySem.Spec PyProof.Rows L2.Srt
variable {T:List FD}
noncomputable abbrev K3:=Int×Int×Int
noncomputable def k3D (k:K3):D := .tup [.int k.1, .int k.2.1, .int k.2.2]
noncomputable def k3K (k:K3):Ky := .tup [.int k.1, .int k.2.1, .int k.2.2]
def klt (a b:K3):Prop:=ltK (k3K a) (k3K b)=true
theorem yv {a:K3} (h:klt a a):False:=by
 have:=gv _ _ h;unfold klt at h;rw [h] at this;cases this
end
section
open PySem PySem.Spec PyProof.Rows L2.Srt
theorem ce {b p:Addr} {M:Mem} (j:Box b M) (q:M p=none):p≠b:=fun z=>by
 obtain ⟨x,y,w,e⟩:=j;rw [<- z,q] at e;cases e
end
section
open PySem PySem.Spec PyProof.Rows L2.Srt
noncomputable def nzf (l:List Int):List Int:=l.filter fun x => !(x==0)
noncomputable def bbl (l:List Int):Bool:=match nzf l with
 | [] => false
 | x::_=>decide (x < 0)
noncomputable def ngl (l:List Int):List Int:=l.map fun x => -x
noncomputable def adl (a b:List Int):List Int:=HC (· + ·) a b
noncomputable def sg1 (p:Pr):Pr:=if bbl p.1=true then (ngl p.1,p.2.1,ngl p.2.2) else p
noncomputable def sg2 (p:Pr):Pr:=if bbl p.2.1=true then (p.1,ngl p.2.1,ngl p.2.2) else p
noncomputable def sgn (p:Pr):Pr:=sg2 (sg1 p)
noncomputable def nzb (l:List Int):Bool:=l.any fun x=>x != 0
noncomputable def okp (p:Pr):Bool:=nzb p.1&&nzb p.2.1&&nzb p.2.2
def al2 (p q:Pr):Prop:=(p.1=q.1/\p.2.1=q.2.1)∨(p.1=q.1/\p.2.2=q.2.2)∨(p.2.1=q.2.1/\p.2.2=q.2.2)
noncomputable def ptg (p q:Pr):Pr:=if p.1=q.1/\p.2.1=q.2.1 then (p.1,p.2.1,adl p.2.2 q.2.2) else if p.1=q.1/\p.2.2=q.2.2 then (p.1,adl p.2.1 q.2.1,p.2.2) else (adl p.1 q.1,p.2.1,p.2.2)
inductive Fw (ps:List Pr):Option (List Pr)->Prop
 | nought (A C:List Pr) (p:Pr) (e:ps=A++p::C) (hn:okp p=false) (hb:∀ q∈A,okp q=true):Fw ps (some (A++C))
 | alike (A B C:List Pr) (p q:Pr) (e:ps=A++p::(B++q::C)) (ha:al2 p q) (ok:∀ p∈ps,okp p=true)
    (hb:∀ (r s:Nat) p' q',ps[r]? = some p'->ps[s]? = some q'->r < s->al2 p' q'->A.length < r∨(A.length=r/\A.length+1+B.length<=s)):Fw ps (some (A++ptg p q::(B++C)))
 | none (ok:∀ p∈ps,okp p=true) (hb:∀ (r s:Nat) p' q',ps[r]? = some p'->ps[s]? = some q'->r < s -> ¬ al2 p' q'):Fw ps none
inductive Td:List Pr->List Pr->Prop
 | done {ps:List Pr} (h:Fw ps none):Td ps ps
 | step {ps qs rs:List Pr} (h:Fw ps (some qs)) (t:Td qs rs):Td ps rs
theorem Fw.len {ps qs:List Pr} (h:Fw ps (some qs)):qs.length+1=ps.length:=by
 generalize hz:some qs=z at h
 cases h with
 | nought A C p e _ _=>cases hz;rw [e];simp;lia
 | alike A B C p q e _ _ _=>cases hz;rw [e];simp;lia
 | none _ _=>cases hz
def Lns (L0 L1 L2:Nat) (ps:List Pr):Prop := ∀ p∈ps,p.1.length=L0/\p.2.1.length=L1/\p.2.2.length=L2
theorem je {a b:List Int} {L:Nat} (j:a.length=L) (q:b.length=L):(adl a b).length=L:=by simp [adl,j,q]
theorem yw {z B L2:Nat} {p q:Pr} (j:p.1.length=z/\p.2.1.length=B/\p.2.2.length=L2) (F:q.1.length=z/\q.2.1.length=B/\q.2.2.length=L2):(ptg p q).1.length=z/\(ptg p q).2.1.length=B/\(ptg p q).2.2.length=L2:=by
 unfold ptg
 split
 ·exact ⟨j.1,j.2.1,je j.2.2 F.2.2⟩
 ·split
  ·exact ⟨j.1,je j.2.1 F.2.1,j.2.2⟩
  ·exact ⟨je j.1 F.1,j.2.1,j.2.2⟩
theorem Fw.all {P:Pr->Prop} {ps qs:List Pr} (h:Fw ps (some qs)) (j:∀ p∈ps,P p) (F:∀ p∈ps, ∀ q∈ps,okp p=true->okp q=true->P (ptg p q)):∀ p∈qs,P p:=by
 generalize hz:some qs=z at h
 cases h with
 | nought A C p e _ _ =>
   cases hz;intro x hx
   refine j x ?_;rw [e]
   rcases Ea.mp hx with h | h
   ·simp [h]
   ·simp [h]
 | alike A B C p q e _ ok _ =>
   cases hz;intro x hx
   have mp:p∈ps:=by rw [e];simp
   have mq:q∈ps:=by rw [e];simp
   simp only [Ea,Eb] at hx
   rcases hx with h | rfl | h | h
   ·exact j x (by rw [e];simp [h])
   ·exact F p mp q mq (ok p mp) (ok q mq)
   ·exact j x (by rw [e];simp [h])
   ·exact j x (by rw [e];simp [h])
 | none _ _=>cases hz
theorem Fw.lns {z B L2:Nat} {ps qs:List Pr} (h:Fw ps (some qs)) (j:Lns z B L2 ps):Lns z B L2 qs:=h.all j fun p mp q mq _ _=>yw (j p mp) (j q mq)
theorem Td.lns {j q L2:Nat} {ps qs:List Pr} (h:Td ps qs) (z:Lns j q L2 ps):Lns j q L2 qs:=by
 induction h with
 | done _=>exact z
 | step h _ ih=>exact ih (h.lns z)
theorem Td.len {ps qs:List Pr} (h:Td ps qs):qs.length<=ps.length:=by
 induction h with
 | done _=>exact Ec _
 | step h _ ih=>have:=h.len;lia
theorem yz {j q L2:Nat} {p:Pr} (h:p.1.length=j/\p.2.1.length=q/\p.2.2.length=L2):(sgn p).1.length=j/\(sgn p).2.1.length=q/\(sgn p).2.2.length=L2:=by
 unfold sgn sg2 sg1
 split <;> split <;> simp [ngl,h]
theorem yA {j z L2:Nat} {ps:List Pr} (h:Lns j z L2 ps):Lns j z L2 (ps.map sgn):=fun p B=>by
 obtain ⟨q,F,rfl⟩:=EA.mp B;exact yz (h q F)
def Bdd (B:Nat) (l:List Int):Prop := ∀ x∈l,x.natAbs<=B
def BdP (B:Nat) (p:Pr):Prop:=Bdd B p.1/\Bdd B p.2.1/\Bdd B p.2.2
theorem Bdd.le {B C:Nat} (h:B<=C) {l:List Int} (b:Bdd B l):Bdd C l:=fun x hx=>Fb (b x hx) h
theorem yB {B:Nat} {l:List Int} (h:Bdd B l):Bdd B (ngl l):=fun x hx=>by
 obtain ⟨y,j,rfl⟩:=EA.mp hx;have:=h y j;lia
end
section
open PySem PySem.Spec PyProof.Rows L2.Srt
variable {T:List FD}
noncomputable def dv (s:Stmt):FD:=⟨"has_noughts",s,["product"],1,
 (.cons (.ret (.not (.blt .all (.cons (.comp [none] ["part"] (.last (.seq (.var 0)) (.name 0) .nil (.blt .any (.cons (.var 0) .nil)))) .nil))))
 .nil)⟩
theorem tM {l:List Int}:az gr (l.map D.int)=some (l.map fun x=>x != 0):=by
 induction l with
 | nil=>rfl
 | cons x l ih=>rw [Ew,az,ih];rfl
theorem yC {l:List Int}:(l.map fun x=>x != 0).any id=nzb l:=by
 unfold nzb;rw [List.any_map];rfl
theorem nT {f:Nat} {s:Stmt} (hf:T[f]? = some (dv s)) {k:Nat} (F : 1<=k) {u:Pr} {M:Mem} {Q:QD} (q:∀ M',Ge M M'->Q (.bl (!okp u)) M'):phi T k f [prD u] M Q:=by
 refine ay (by lia) hf rfl (ρ := [some _]) rfl ?_
 unfold dv prD;walk_at "st";refine aZ (f:=fun w:List Int=>D.tup (w.map .int)) (ys := [u.1,u.2.1,u.2.2]) (I:=fun l ρ M' acc=>(∃ o0, ρ = [o0])/\M'=M/\acc=l.map fun w=>D.bl (nzb w)) rfl ⟨⟨_,rfl⟩,rfl,rfl⟩ (fun _ _ _ _ _=>by first | rfl | trivial) ?_ ?_
 ·rintro l w r ρ M1 acc e ⟨⟨o0,rfl⟩,rfl,rfl⟩;refine ⟨_,rfl,fun N j => ?_⟩;have z:l.length < 3:=aO e;walk_at "wp";refine ⟨_,_,_,rfl,rfl,tM, ?_⟩;rw [yC];exact ⟨by rw [Eg,tv];lia,j _ _ _ ⟨⟨_,rfl⟩,rfl,by simp⟩⟩
 ·rintro ρ M1 acc ⟨⟨o0,rfl⟩,rfl,rfl⟩ p B;refine ⟨_,_,[nzb u.1,nzb u.2.1,nzb u.2.2],rfl,ag ad,rfl, ?_⟩;have e : [nzb u.1,nzb u.2.1,nzb u.2.2].all id=okp u:=by simp [okp,Bool.and_assoc]
  rw [e];exact ⟨_,rfl,q _ (Ge.new B)⟩
noncomputable def fJ (s:Stmt):FD:=⟨"begins_below",s,["part", "some"],1,
 (.cons (.asg (.name 1) (.comp [none] ["x"] (.last (.seq (.var 0)) (.name 0) (.cons (.cmp .ne (.var 0) (.int 0)) .nil) (.var 0))))
 (.cons (.ret (.and (.cons (.cmp .gt (.blt .len (.cons (.var 1) .nil)) (.int 0)) (.cons (.cmp .lt (.ix (.var 1) (.int 0)) (.int 0)) .nil))))
 .nil))⟩
theorem yD {l:List Int}:(nzf l).length<=l.length:=GC _ _
theorem vP {l:List Int} (G:l.length<=100000) {M:Mem} {N:NC} {chk:Mem->Prop} (z:chk M) {o0:Option D} (q:∀ ρ,N ρ M ((nzf l).map .int)) :
 aY (bn 0) (b6 [dY (wOp wNe (bI 0) (wC (.int 0)))] (bM (bI 0))) chk N (l.map .int) [o0] M []:=by
 refine aZ (f:=D.int) (ys:=l) (I:=fun s ρ M' acc=>(∃ o0, ρ = [o0])/\M'=M/\acc=(nzf s).map .int) rfl ⟨⟨_,rfl⟩,rfl,rfl⟩ (fun _ _ _ _ h=>by rw [h.2.1];exact z) ?_ ?_
 ·rintro l' x r ρ M1 acc e ⟨⟨o0,rfl⟩,rfl,rfl⟩;refine ⟨_,rfl,fun N' j => ?_⟩;have B:=aO e;have F:=yD (l:=l');walk_at "wp"
  by_cases hz:x=0
  ·rw [if_neg (by simp [hz])]
   refine j _ _ _ ⟨⟨_,rfl⟩,rfl, ?_⟩;unfold nzf;rw [EY,FY (by simp [hz])];simp
  ·rw [if_pos (by simp [hz])]
   refine ⟨by rw [Eg,tv];lia,j _ _ _ ⟨⟨_,rfl⟩,rfl, ?_⟩⟩
   unfold nzf;rw [EY,FZ (by simp [hz])];simp
 ·rintro ρ M1 acc ⟨⟨o0,rfl⟩,rfl,rfl⟩;exact q _
theorem n8 {f:Nat} {s:Stmt} (hf:T[f]? = some (fJ s)) {k:Nat} (z : 1<=k) {l:List Int} (j:l.length<=100000) {M:Mem} {Q:QD} (q:∀ M',Ge M M'->Q (.bl (bbl l)) M'):phi T k f [.tup (l.map .int)] M Q:=by
 refine ay (by lia) hf rfl (ρ := [some _,none]) rfl ?_
 unfold fJ;walk_at "st";refine vP j (by first | rfl | trivial) fun ρ p hp => ?_
 walk_at "st";refine fG ad ?_;walk_at "wp";rw [Eg]
 cases h:nzf l with
 | nil =>
   rw [if_neg (by simp)]
   have:bbl l=false:=by unfold bbl;rw [h]
   rw [<- this];have:=q _ (Ge.new (o := .lst ([].map .int)) hp);simpa [bbl,h] using this
 | cons x r =>
   rw [if_pos (by simp)]
   refine aK ad (d := .int x) (b4 (k := 0) rfl) ?_;walk_at "wp";have:=q _ (Ge.new (o := .lst ((x::r).map .int)) hp);simpa [bbl,h] using this
noncomputable def dw (s:Stmt):FD:=⟨"negated",s,["part"],1,
 (.cons (.ret (.blt .tuple (.cons (.comp [none] ["x"] (.last (.seq (.var 0)) (.name 0) .nil (.neg (.var 0)))) .nil)))
 .nil)⟩
theorem n9 {l:List Int} (F:l.length<=100000) {M:Mem} {N:NC} {chk:Mem->Prop} (z:chk M) {o0:Option D} (q:∀ ρ,N ρ M ((ngl l).map .int)) :
 aY (bn 0) (bM (wUn j3 (bI 0))) chk N (l.map .int) [o0] M []:=by
 refine aZ (f:=D.int) (ys:=l) (I:=fun s ρ M' acc=>(∃ o0, ρ = [o0])/\M'=M/\acc=(ngl s).map .int) rfl ⟨⟨_,rfl⟩,rfl,rfl⟩ (fun _ _ _ _ h=>by rw [h.2.1];exact z) ?_ ?_
 ·rintro l' x r ρ M1 acc e ⟨⟨o0,rfl⟩,rfl,rfl⟩;refine ⟨_,rfl,fun N' j => ?_⟩;have B:=aO e;walk_at "wp";refine ⟨by simp [ngl,tv];lia,j _ _ _ ⟨⟨_,rfl⟩,rfl, ?_⟩⟩
  simp [ngl]
 ·rintro ρ M1 acc ⟨⟨o0,rfl⟩,rfl,rfl⟩;exact q _
theorem cO {f:Nat} {s:Stmt} (hf:T[f]? = some (dw s)) {k:Nat} (B : 1<=k) {l:List Int} (j:l.length<=100000) {M:Mem} {Q:QD} (q:∀ M',Ge M M'->Q (.tup ((ngl l).map .int)) M'):phi T k f [.tup (l.map .int)] M Q:=by
 refine ay (by lia) hf rfl (ρ := [some _]) rfl ?_
 unfold dw;walk_at "st";refine n9 j (by first | rfl | trivial) fun ρ p z => ?_
 exact ⟨_,_,rfl,ag ad,q _ (Ge.new z)⟩
noncomputable def dO (s:Stmt):FD:=⟨"added",s,["one", "other"],2,
 (.cons (.ret (.blt .tuple (.cons (.comp [none,none] ["x", "y"] (.last (.zip (.var 0) (.var 1)) (.tup (.cons (.name 0) (.cons (.name 1) .nil))) .nil (.bin .add (.var 0) (.var 1)))) .nil)))
 .nil)⟩
theorem gI {f:Nat} {s:Stmt} (hf:T[f]? = some (dO s)) {k:Nat} (F : 1<=k) {a b:List Int} (G:a.length<=100000) {M:Mem} {Q:QD} (q:∀ M',Ge M M'->Q (.tup ((adl a b).map .int)) M'):phi T k f [.tup (a.map .int), .tup (b.map .int)] M Q:=by
 refine ay (by lia) hf rfl (ρ := [some _,some _]) rfl ?_
 unfold dO;walk_at "st";rw [vO];have hz:(a.zip b).length<=a.length:=by simp;lia
 refine aZ (f:=fun xy:Int×Int=>D.tup [.int xy.1, .int xy.2]) (ys:=a.zip b) (I:=fun s ρ M' acc=>(∃ o0 j, ρ = [o0,j])/\M'=M/\acc=(s.map fun xy=>xy.1+xy.2).map .int) rfl ⟨⟨_,_,rfl⟩,rfl,rfl⟩ (fun _ _ _ _ _=>trivial) ?_ ?_
 ·rintro l' x r ρ M1 acc e ⟨⟨o0,j,rfl⟩,rfl,rfl⟩;refine ⟨_,rfl,fun N' z => ?_⟩;have B:=aO e;walk_at "wp";refine ⟨by simp [tv];lia,z _ _ _ ⟨⟨_,_,rfl⟩,rfl, ?_⟩⟩
  simp
 ·rintro ρ M1 acc ⟨⟨o0,j,rfl⟩,rfl,rfl⟩ p hp;refine ⟨_,_,rfl,ag ad, ?_⟩;have e:(a.zip b).map (fun xy=>xy.1+xy.2)=adl a b:=by unfold adl;rw [nS]
  rw [e];exact q _ (Ge.new hp)
noncomputable def gJ (s:Stmt) (fb fn:Nat):FD:=⟨"signed",s,["product", "l", "r", "o"],1,
 (.cons (.asg (.tup (.cons (.name 1) (.cons (.name 2) (.cons (.name 3) .nil)))) (.var 0))
 (.cons (.ite (.tru (.call fb (.cons (.var 1) .nil))) (.cons (.par 1 3 (.call fn (.cons (.var 1) .nil)) (.call fn (.cons (.var 3) .nil)))
 .nil) .nil)
 (.cons (.ite (.tru (.call fb (.cons (.var 2) .nil))) (.cons (.par 2 3 (.call fn (.cons (.var 2) .nil)) (.call fn (.cons (.var 3) .nil)))
 .nil) .nil)
 (.cons (.ret (.tup (.cons (.var 1) (.cons (.var 2) (.cons (.var 3) .nil)))))
 .nil))))⟩
def nc (B:Nat) (p:Pr):Prop:=p.1.length<=B/\p.2.1.length<=B/\p.2.2.length<=B
theorem tN {f fb fn:Nat} {s sb sn:Stmt} (hf:T[f]? = some (gJ s fb fn)) (J:T[fb]? = some (fJ sb)) (B:T[fn]? = some (dw sn)) {k:Nat} (Z : 2<=k) {p:Pr} (L:nc 100000 p) {M:Mem} {Q:QD} (q:∀ M',Ge M M'->Q (prD (sgn p)) M'):phi T k f [prD p] M Q:=by
 refine ay (by lia) hf rfl (ρ := [some _,none,none,none]) rfl ?_
 unfold gJ prD;obtain ⟨l,r,o⟩:=p;obtain ⟨h1,h2,F⟩:=L;dsimp only at h1 h2 F ⊢;walk_at "st";refine eh (I:=fun ρ M'=>Ge M M' /\ ρ = [some (.tup [.tup (l.map .int), .tup (r.map .int), .tup (o.map .int)]),some (.tup ((sg1 (l,r,o)).1.map .int)),some (.tup (r.map .int)),some (.tup ((sg1 (l,r,o)).2.2.map .int))]) (fun R j => ?_) ?_
 ·walk_at "wp";refine n8 J (by lia) h1 fun O g1=>⟨_,rfl, ?_⟩
  unfold sg1 at j;dsimp only at j
  cases hz:bbl l with
  | false =>
    rw [if_neg (by decide)]
    walk_at "wp";rw [hz,if_neg (by decide)] at j
    exact j _ _ ⟨g1,rfl⟩
  | true =>
    rw [if_pos rfl];walk_at "st";rw [hz,if_pos rfl] at j;refine cO B (by lia) h1 fun M2 g2 => ?_
    refine cO B (by lia) F fun U g3 => ?_
    exact j _ _ ⟨g1.trans (g2.trans g3),rfl⟩
 rintro ρ O ⟨g1,rfl⟩;have z:(sg1 (l,r,o)).2.1=r:=by unfold sg1;split <;> rfl
 have G:(sg1 (l,r,o)).2.2.length<=100000:=by unfold sg1;split <;> simp [ngl,F]
 refine eh (I:=fun ρ M'=>Ge M M' /\ ρ = [some (.tup [.tup (l.map .int), .tup (r.map .int), .tup (o.map .int)]),some (.tup ((sgn (l,r,o)).1.map .int)),some (.tup ((sgn (l,r,o)).2.1.map .int)),some (.tup ((sgn (l,r,o)).2.2.map .int))]) (fun R j => ?_) ?_
 ·walk_at "wp";refine n8 J (by lia) h2 fun M2 g2=>⟨_,rfl, ?_⟩
  unfold sgn sg2 at j;rw [z] at j
  cases hz:bbl r with
  | false =>
    rw [if_neg (by decide)]
    walk_at "wp";rw [hz,if_neg (by decide)] at j
    refine j _ _ ⟨g1.trans g2, ?_⟩;rw [z]
  | true =>
    rw [if_pos rfl];walk_at "st";rw [hz,if_pos rfl] at j;refine cO B (by lia) h2 fun U g3 => ?_
    refine cO B (by lia) G fun M4 Y => ?_
    exact j _ _ ⟨g1.trans (g2.trans (g3.trans Y)),rfl⟩
 rintro ρ M2 ⟨g2,rfl⟩;walk_at "st";exact ⟨by rw [tv];lia,q _ g2⟩
theorem cW {a b:List Int} {M:Mem} {Q:QD} (q:Q (.bl (decide (a=b))) M):wEq (.tup (a.map .int)) (.tup (b.map .int)) M Q:=by
 refine ⟨.tuple (a.map .int), .tuple (b.map .int),by simp [rb,fH],by simp [rb,fH], ?_⟩
 rw [EW,L2.eqv_ints];exact q
noncomputable def cP (s:Stmt) (fa:Nat):FD:=⟨"put_together",s,["one", "other", "l", "r", "o", "x", "y", "z"],2,
 (.cons (.asg (.tup (.cons (.tup (.cons (.name 2) (.cons (.name 3) (.cons (.name 4) .nil)))) (.cons (.tup (.cons (.name 5) (.cons (.name 6) (.cons (.name 7) .nil)))) .nil))) (.tup (.cons (.var 0) (.cons (.var 1) .nil))))
 (.cons (.ite (.and (.cons (.cmp .eq (.var 2) (.var 5)) (.cons (.cmp .eq (.var 3) (.var 6)) .nil))) (.cons (.ret (.tup (.cons (.var 2) (.cons (.var 3) (.cons (.call fa (.cons (.var 4) (.cons (.var 7) .nil))) .nil)))))
 .nil) .nil)
 (.cons (.ite (.and (.cons (.cmp .eq (.var 2) (.var 5)) (.cons (.cmp .eq (.var 4) (.var 7)) .nil))) (.cons (.ret (.tup (.cons (.var 2) (.cons (.call fa (.cons (.var 3) (.cons (.var 6) .nil))) (.cons (.var 4) .nil)))))
 .nil) .nil)
 (.cons (.ret (.tup (.cons (.call fa (.cons (.var 2) (.cons (.var 5) .nil))) (.cons (.var 3) (.cons (.var 4) .nil)))))
 .nil))))⟩
theorem nU {f fa:Nat} {s sa:Stmt} (hf:T[f]? = some (cP s fa)) (G:T[fa]? = some (dO sa)) {k:Nat} (Z : 2<=k) {p q:Pr} (O:nc 100000 p) {M:Mem} {Q:QD} (h:∀ M',Ge M M'->Q (prD (ptg p q)) M'):phi T k f [prD p,prD q] M Q:=by
 refine ay (by lia) hf rfl (ρ := [some _,some _,none,none,none,none,none,none]) rfl ?_
 unfold cP prD;obtain ⟨l,r,o⟩:=p;obtain ⟨x,y,z⟩:=q;obtain ⟨h1,h2,J⟩:=O;dsimp only at h1 h2 J ⊢;unfold ptg at h;dsimp only at h;walk_at "st";refine ⟨by rw [tv];lia, ?_⟩
 walk_at "st";refine cW ?_;have third : ¬ (l=x/\r=y) -> ¬ (l=x/\o=z)->wSs (phi T (k - 1)) (.cons (.ret (.tup (.cons (.call fa (.cons (.var 2) (.cons (.var 5) .nil))) (.cons (.var 3) (.cons (.var 4) .nil))))) .nil) { nx:=fun _ M'=>Q .non M',rt:=Q }
  [some (.tup [.tup (l.map .int), .tup (r.map .int), .tup (o.map .int)]),some (.tup [.tup (x.map .int), .tup (y.map .int), .tup (z.map .int)]),some (.tup (l.map .int)),some (.tup (r.map .int)),some (.tup (o.map .int)),some (.tup (x.map .int)),some (.tup (y.map .int)),some (.tup (z.map .int))] M:=by
  intro U Y;walk_at "st";refine gI G (by lia) h1 fun L g1 => ?_
  walk_at "wp";rw [if_neg U,if_neg Y] at h;exact ⟨by rw [tv];lia,h _ g1⟩
 by_cases j:l=x
 ·rw [decide_eq_true j];walk_at "wp";refine cW ?_;walk_at "wp"
  by_cases B:r=y
  ·rw [if_pos B];walk_at "st";refine gI G (by lia) J fun L g1 => ?_
   walk_at "wp";rw [if_pos ⟨j,B⟩] at h;exact ⟨by rw [tv];lia,h _ g1⟩
  ·rw [if_neg B];walk_at "st";refine cW ?_;rw [decide_eq_true j];walk_at "wp";refine cW ?_;walk_at "wp"
   by_cases F:o=z
   ·rw [if_pos F];walk_at "st";refine gI G (by lia) h2 fun L g1 => ?_
    walk_at "wp";rw [if_neg (fun z=>B z.2),if_pos ⟨j,F⟩] at h;exact ⟨by rw [tv];lia,h _ g1⟩
   ·rw [if_neg F];exact third (fun z=>B z.2) (fun z=>F z.2)
 ·rw [decide_eq_false j];walk_at "wp";walk_at "st";refine cW ?_;rw [decide_eq_false j];walk_at "wp";exact third (fun z=>j z.1) (fun z=>j z.1)
end
section
open PySem PySem.Spec PyProof.Rows L2.Srt
variable {T:List FD}
noncomputable instance memNK (k:NK) (l:List NK):Decidable (k∈l):=decidable_of_iff (∃ x∈l,x=k) ⟨fun ⟨_,h,e⟩=>e ▸ h,fun h=>⟨k,h,rfl⟩⟩
noncomputable def kyA (p:Pr):NK := [.inl 0, .inr p.2.1, .inr p.2.2]
noncomputable def kyB (p:Pr):NK := [.inl 1, .inr p.1, .inr p.2.2]
noncomputable def kyC (p:Pr):NK := [.inl 2, .inr p.1, .inr p.2.1]
noncomputable def ky (p:Pr):List NK := [kyA p,kyB p,kyC p]
noncomputable def fi (k:NK):List Pr->Option Nat
 | [] => none
 | p::ps=>if k∈ky p then some 0 else (fi k ps).map (· + 1)
theorem dP {k:NK} {p:Pr}:∀ {ps:List Pr},fi k (ps++[p])=match fi k ps with | some i=>some i | none=>if k∈ky p then some ps.length else none
 | [] => by simp [fi]
 | u::ps=>by
   show fi k (u::(ps++[p]))=_;unfold fi
   by_cases h:k∈ky u
   ·rw [if_pos h,if_pos h]
   ·rw [if_neg h,if_neg h,dP (ps:=ps)]
    cases fi k ps with
    | some i=>rfl
    | none =>
      simp only [Option.map_none]
      by_cases h2:k∈ky p <;> simp [h2]
theorem jf {k:NK}:∀ {ps:List Pr} {i:Nat},fi k ps=some i -> ∃ p,ps[i]? = some p/\k∈ky p
 | [],i,h=>by cases h
 | u::ps,i,h=>by
   unfold fi at h
   by_cases c:k∈ky u
   ·rw [if_pos c] at h;cases h;exact ⟨u,rfl,c⟩
   ·rw [if_neg c] at h;obtain ⟨j,q,rfl⟩:=Hb.mp h;obtain ⟨p,h1,h2⟩:=jf q;exact ⟨p,by simpa using h1,h2⟩
theorem qG {k:NK} {p:Pr}:∀ {ps:List Pr} {r:Nat},ps[r]? = some p->k∈ky p -> ∃ i,i<=r/\fi k ps=some i
 | [],r,h,_=>by simp at h
 | u::ps,r,h,j=>by
   unfold fi
   by_cases c:k∈ky u
   ·rw [if_pos c];exact ⟨0,Gc _,rfl⟩
   ·rw [if_neg c]
    cases r with
    | zero=>simp at h;subst h;exact absurd j c
    | succ r =>
      obtain ⟨i,h1,h2⟩:=qG (ps:=ps) (r:=r) (by simpa using h) j
      exact ⟨i+1,by lia,by rw [h2];rfl⟩
theorem ky_al {p q:Pr}:(∃ k,k∈ky p/\k∈ky q)↔al2 p q:=by
 constructor
 ·rintro ⟨k,h1,h2⟩;simp only [ky,Eb,Eu,or_false] at h1 h2;unfold al2
  rcases h1 with rfl | rfl | rfl
  ·rcases h2 with h | h | h
   ·simp only [kyA,HX,LC,and_true,true_and] at h;exact .inr (.inr h)
   ·simp [kyA,kyB] at h
   ·simp [kyA,kyC] at h
  ·rcases h2 with h | h | h
   ·simp [kyA,kyB] at h
   ·simp only [kyB,HX,LC,and_true,true_and] at h;exact .inr (.inl h)
   ·simp [kyB,kyC] at h
  ·rcases h2 with h | h | h
   ·simp [kyA,kyC] at h
   ·simp [kyB,kyC] at h
   ·simp only [kyC,HX,LC,and_true,true_and] at h;exact .inl h
 ·rintro (⟨h1,h2⟩ | ⟨h1,h2⟩ | ⟨h1,h2⟩)
  ·exact ⟨kyC p,by simp [ky],by simp [ky,kyC,h1,h2]⟩
  ·exact ⟨kyB p,by simp [ky],by simp [ky,kyB,h1,h2]⟩
  ·exact ⟨kyA p,by simp [ky],by simp [ky,kyA,h1,h2]⟩
theorem Bk {kvs:List (NK×D)} {k k':NK} {v:D} (h:ng kvs k=none):ng (np kvs k v) k'=if k'=k then some v else ng kvs k':=by
 unfold np;rw [h];show ng (kvs++[(k,v)]) k'=_;unfold ng at h ⊢;rw [List.find?_append]
 by_cases e:k'=k
 ·subst e;have:kvs.find? (fun p=>decide (p.1=k'))=none:=by simpa using h
  rw [this];simp
 ·rw [if_neg e];have : ¬ k=k':=fun z=>e z.symm
  cases kvs.find? (fun p=>decide (p.1=k')) <;> simp [this]
theorem Aq {kvs:List (NK×D)} {k:NK} {v:D} (h:ng kvs k=none):(np kvs k v).length=kvs.length+1:=by
 unfold np;rw [h];simp
theorem cn {l:List Int} (h:l≠[]):fk (l.map D.int)=true:=by
 match l,h with
 | [_],_=>rfl
 | [_,_],_=>rfl
 | [_,_,_],_=>rfl
 | _::_::_::_::_,_=>rfl
def NeP (p:Pr):Prop:=p.1≠[]/\p.2.1≠[]/\p.2.2≠[]
theorem qH {p:Pr} (h:NeP p):∀ k∈ky p,okK k=true:=by
 intro k j;simp only [ky,Eb,Eu,or_false] at j
 rcases j with rfl | rfl | rfl
 ·simp only [okK,kyA,Gb,jc,cn h.2.1,cn h.2.2];rfl
 ·simp only [okK,kyB,Gb,jc,cn h.1,cn h.2.2];rfl
 ·simp only [okK,kyC,Gb,jc,cn h.1,cn h.2.1];rfl
structure FiI (ps:List Pr) (d:List NK) (kvs:List (NK×D)) (nss:List (List Int)):Prop where
 g:∀ k,ng kvs k=match fi k ps with | some i=>some (.int (i:Nat)) | none=>if k∈d then some (.int ps.length) else none
 n:∀ ns,ns∈nss↔(∃ (i s:Nat) (p:Pr) (k:NK),ns=[(i:Int),(s:Int)]/\ps[s]? = some p/\i < s/\k∈ky p/\fi k ps=some i) ∨ ∃ (i:Nat) (k:NK),ns=[(i:Int),(ps.length:Int)]/\k∈d/\fi k ps=some i
 l:kvs.length<=3*ps.length+d.length
 m:nss.length<=3*ps.length+d.length
theorem FiI.nil:FiI [] [] [] []:=⟨fun k=>by simp [ng,fi],fun ns=>by simp,by simp,by simp⟩
theorem Bl {k:NK} {ps:List Pr} {i:Nat} (h:fi k ps=some i):i < ps.length:=by
 obtain ⟨p,h1,_⟩:=jf h;exact (o7.mp h1).1
theorem FiI.next {ps:List Pr} {p:Pr} {kvs:List (NK×D)} {nss:List (List Int)} (h:FiI ps (ky p) kvs nss):FiI (ps++[p]) [] kvs nss where
 g:=fun k=>by
  rw [h.g k,dP]
  cases fi k ps with
  | some i=>rfl
  | none=>by_cases c:k∈ky p <;> simp [c]
 n:=fun ns=>by
  rw [h.n ns];constructor
  ·rintro (⟨i,s,q,k,e,z,F,G,B⟩ | ⟨i,k,e,z,F⟩)
   ·exact .inl ⟨i,s,q,k,e,by rw [Ef (o7.mp z).1];exact z,F,G,by rw [dP,B]⟩
   ·exact .inl ⟨i,ps.length,p,k,e,by simp,Bl F,z,by rw [dP,F]⟩
  ·rintro (⟨i,s,q,k,e,z,F,G,B⟩ | ⟨i,k,e,z,F⟩)
   ·have hs:s < (ps++[p]).length:=(o7.mp z).1;rw [dP] at B;have L:fi k ps=some i:=by
     cases hz:fi k ps with
     | some j=>rw [hz] at B;exact B
     | none =>
       rw [hz] at B;dsimp only at B
       split at B
       ·cases B;simp at hs;lia
       ·cases B
    by_cases c:s < ps.length
    ·rw [Ef c] at z;exact .inl ⟨i,s,q,k,e,z,F,G,L⟩
    ·have J:s=ps.length:=by simp at hs;lia
     subst J;simp at z;subst z;exact .inr ⟨i,k,e,G,L⟩
   ·cases z
 l:=by have:=h.l;simp [ky] at this ⊢;lia
 m:=by have:=h.m;simp [ky] at this ⊢;lia
theorem FiI.old {ps:List Pr} {d:List NK} {kvs:List (NK×D)} {nss:List (List Int)} (h:FiI ps d kvs nss) {k:NK} {i:Nat} (e:fi k ps=some i):FiI ps (d++[k]) kvs (nss++[[(i:Int),(ps.length:Int)]]) where
 g:=fun k'=>by
  rw [h.g k']
  cases hz:fi k' ps with
  | some j=>rfl
  | none =>
    have : ¬ k'=k:=fun z=>by rw [z,e] at hz;cases hz
    simp [this]
 n:=fun ns=>by
  rw [Ea,h.n ns];constructor
  ·rintro ((h1 | ⟨j,k',F,q,B⟩) | h1)
   ·exact .inl h1
   ·exact .inr ⟨j,k',F,by simp [q],B⟩
   ·simp at h1;exact .inr ⟨i,k,by simp [h1],by simp,e⟩
  ·rintro (h1 | ⟨j,k',F,q,B⟩)
   ·exact .inl (.inl h1)
   ·rcases Ea.mp q with q | q
    ·exact .inl (.inr ⟨j,k',F,q,B⟩)
    ·simp at q;subst q;rw [e] at B;cases B;exact .inr (by simp [F])
 l:=by have:=h.l;simp;lia
 m:=by have:=h.m;simp;lia
theorem FiI.new {ps:List Pr} {d:List NK} {kvs:List (NK×D)} {nss:List (List Int)} (h:FiI ps d kvs nss) {k:NK} (e:fi k ps=none) (hd:k∉d):FiI ps (d++[k]) (np kvs k (.int (ps.length:Nat))) nss where
 g:=fun k'=>by
  have B:ng kvs k=none:=by rw [h.g k,e];simp [hd]
  rw [Bk B]
  by_cases c:k'=k
  ·subst c;rw [if_pos rfl,e];simp
  ·rw [if_neg c,h.g k']
   cases fi k' ps with
   | some j=>rfl
   | none=>simp [c]
 n:=fun ns=>by
  rw [h.n ns];constructor
  ·rintro (h1 | ⟨j,k',F,q,z⟩)
   ·exact .inl h1
   ·exact .inr ⟨j,k',F,by simp [q],z⟩
  ·rintro (h1 | ⟨j,k',F,q,z⟩)
   ·exact .inl h1
   ·rcases Ea.mp q with q | q
    ·exact .inr ⟨j,k',F,q,z⟩
    ·simp at q;subst q;rw [e] at z;cases z
 l:=by
  have B:ng kvs k=none:=by rw [h.g k,e];simp [hd]
  have:=h.l;rw [Aq B];simp;lia
 m:=by have:=h.m;simp;lia
theorem vQ {p:Pr}:(ky p).Nodup:=by simp [ky,kyA,kyB,kyC]
noncomputable def fK (s:Stmt):FD:=⟨"first_alike",s,["products", "firsts", "pairs", "at", "l", "r", "o", "key"],1,
 (.cons (.par 1 2 .dnewN (.lst .nil))
 (.cons (.for (.tup (.cons (.name 3) (.cons (.tup (.cons (.name 4) (.cons (.name 5) (.cons (.name 6) .nil)))) .nil))) (.enum (.var 0)) (.cons (.for (.name 7) (.seq (.lst (.cons (.tup (.cons (.int 0) (.cons (.var 5) (.cons (.var 6) .nil)))) (.cons (.tup (.cons (.int 1) (.cons (.var 4) (.cons (.var 6) .nil)))) (.cons (.tup (.cons (.int 2) (.cons (.var 4) (.cons (.var 5) .nil)))) .nil))))) (.cons (.ite (.cmp .inN (.var 7) (.var 1)) (.cons (.drop (.meth .append (.var 2) (.tup (.cons (.ixN (.var 1) (.var 7)) (.cons (.var 3) .nil)))))
 .nil) (.cons (.putN (.var 1) (.var 7) (.var 3))
 .nil))
 .nil))
 .nil))
 (.cons (.ret (.minD (.var 2)))
 .nil)))⟩
noncomputable def enP (ps:List Pr):List (Nat×Pr):=ps.mapIdx fun i p=>(i,p)
noncomputable def enD (x:Nat×Pr):D := .tup [.int (x.1:Nat),prD x.2]
theorem gK {ps:List Pr}:dl (ps.map prD)=(enP ps).map enD:=by
 unfold dl enP;apply Hq;intro j;simp only [GJ,Eo]
 cases ps[j]? <;> rfl
theorem eU {ps:List Pr} {l r:List (Nat×Pr)} {x:Nat×Pr} (e:enP ps=l++x::r):ps=l.map (·.2)++x.2::r.map (·.2)/\x.1=l.length:=by
 have h2:ps=(enP ps).map (·.2):=by
  unfold enP;apply Hq;intro j;simp only [GJ,Eo]
  cases ps[j]? <;> rfl
 have hx:(enP ps)[l.length]? = some x:=jR e;refine ⟨by rw [e] at h2;simpa using h2, ?_⟩
 unfold enP at hx;rw [GJ] at hx
 cases hz:ps[l.length]? with
 | none=>rw [hz] at hx;cases hx
 | some p=>rw [hz] at hx;cases hx;rfl
theorem yE {ps:List Pr}:(enP ps).map (·.2)=ps:=by
 unfold enP;apply Hq;intro j;simp only [GJ,Eo]
 cases ps[j]? <;> rfl
noncomputable def nsD (ns:List Int):D := .tup (ns.map .int)
theorem vR {f:Nat} {s:Stmt} (hf:T[f]? = some (fK s)) {k:Nat} (hk : 1<=k) {p0:Addr} {ps:List Pr} (BZ:∀ p∈ps,NeP p) (hl:ps.length<=100000) {M:Mem} {Q:QD} (h0:M p0=some (.lst (ps.map prD)))
 (q0:∀ M',Ge M M'->(∀ (r s:Nat) p' q',ps[r]? = some p'->ps[s]? = some q'->r < s -> ¬ al2 p' q')->Q .non M')
 (q1:∀ (r s:Nat) p q M',Ge M M'->ps[r]? = some p->ps[s]? = some q->r < s->al2 p q->(∀ (r' s':Nat) p' q',ps[r']? = some p'->ps[s']? = some q'->r' < s'->al2 p' q'->r < r'∨(r=r'/\s<=s'))->Q (.tup [.int (r:Nat), .int (s:Nat)]) M'):phi T k f [.ref p0] M Q:=by
 refine ay (by lia) hf rfl (ρ := [some _,none,none,none,none,none,none,none]) rfl ?_
 unfold fK;walk_at "st";intro a ha;refine ⟨by rw [tv];lia,fun b U => ?_⟩
 have j:a≠b:=fun z=>by rw [<- z,ad] at U;cases U
 have C0:M b=none:=by rw [<- U,ah (Ne.symm j)]
 have B:af (af M a (.dcn [])) b (.lst []) a=some (.dcn []):=by rw [ah j,ad]
 have G:af (af M a (.dcn [])) b (.lst []) b=some (.lst []):=ad;have m3:Ge M (af (af M a (.dcn [])) b (.lst [])):=(Ge.new ha).trans (Ge.new U);generalize af (af M a (.dcn [])) b (.lst [])=M0 at B G m3;clear U;walk_at "st";refine ⟨_,ag (m3 _ _ h0), ?_⟩;rw [gK];refine ba (f:=enD) (ys:=enP ps) (I:=fun l ρ M' => ∃ (o3 o4 o5 o6 J:Option D) (kvs:List (NK×D)) (nss:List (List Int)), ρ = [some (.ref p0),some (.ref a),some (.ref b),o3,o4,o5,o6,J]/\Ge M M'/\M' a=some (.dcn kvs)/\M' b=some (.lst (nss.map nsD))/\FiI (l.map (·.2)) [] kvs nss) rfl
  ⟨none,none,none,none,none,[],[],rfl,m3,B,G,FiI.nil⟩ ?_ ?_ ?_
 ·rintro l ρ M' ⟨_,_,_,_,_,_,_,rfl,g,_⟩;exact ag (g _ _ h0)
 ·rintro l x r ρ M1 e ⟨o3,o4,o5,o6,J,kvs,nss,rfl,g,n1,n2,fI⟩;obtain ⟨e1,e2⟩:=eU e;have hx:NeP x.2:=BZ x.2 (by rw [e1];simp)
  have hlen:(l.map (·.2)).length < ps.length:=by
   have:=congrArg GZ e1;simp at this ⊢;lia
  refine ⟨_,rfl,fun F hF => ?_⟩;walk_at "st";refine ⟨by rw [tv];lia,by rw [tv];lia,by rw [tv];lia,by rw [tv];lia,fun c Y => ?_⟩
  have gc:=Ge.new (o := .lst ((ky x.2).map kdN)) Y;refine ⟨_,ag ad, ?_⟩;have C1:c≠a:=fun z=>by rw [z,n1] at Y;cases Y
  have C2:c≠b:=fun z=>by rw [z,n2] at Y;cases Y
  refine ba (f:=kdN) (ys:=ky x.2) (I:=fun d ρ M' => ∃ (J:Option D) (kvs:List (NK×D)) (nss:List (List Int)), ρ = [some (.ref p0),some (.ref a),some (.ref b),some (.int (x.1:Nat)),some (.tup (x.2.1.map .int)),some (.tup (x.2.2.1.map .int)),some (.tup (x.2.2.2.map .int)),J]/\Ge M M'/\M' c=some (.lst ((ky x.2).map kdN))/\M' a=some (.dcn kvs)/\M' b=some (.lst (nss.map nsD))/\FiI (l.map (·.2)) d kvs nss) rfl
   ⟨J,kvs,nss,rfl,g.trans gc,ad,gc _ _ n1,gc _ _ n2,fI⟩ ?_ ?_ ?_
  ·rintro d ρ M' ⟨_,_,_,rfl,_,m,_⟩;exact ag m
  ·rintro d y r' ρ M2 ey ⟨J,kvs,nss,rfl,g2,mc,B,G,fI⟩;have hy:y∈ky x.2:=by rw [ey];simp
   have hd:y∉d:=fun z=>by
    have Z:=vQ (p:=x.2);rw [ey,Iu] at Z;exact Z.2.2 y z y (by simp) rfl
   have Ca:d.length<=3:=by
    have:=congrArg GZ ey;simp [ky] at this;lia
   refine ⟨_,rfl,fun F2 O => ?_⟩;walk_at "st";refine ⟨a,kvs,y,rfl,B,rfl,qH hx y hy, ?_⟩;walk_at "wp";have L:=fI.g y
   cases hz:fi y (l.map (·.2)) with
   | some i =>
     rw [hz] at L;dsimp only at L;rw [L,if_pos (by simp)]
     walk_at "st";refine ⟨⟨_,G⟩,a,kvs,y, .int (i:Nat),rfl,B,rfl,qH hx y hy,L, ?_⟩;refine ⟨by rw [tv];lia, ?_⟩
     refine ⟨b,_,_,rfl,rfl,G, ?_, ?_⟩
     ·have:=fI.m;rw [Eg,tv];simp at this hlen;lia
     refine O _ _ ⟨_,kvs,nss++[[(i:Int),((l.map (·.2)).length:Int)]],rfl,fun u o eu => ?_, ?_, ?_, ?_,fI.old hz⟩
     ·rw [ah (fun z=>by rw [z,C0] at eu;cases eu)];exact g2 _ _ eu
     ·rw [ah C2];exact mc
     ·rw [ah j];exact B
     ·rw [ad,FA,e2];simp [nsD]
   | none =>
     rw [hz] at L;dsimp only at L;rw [if_neg hd] at L;rw [L,if_neg (by simp)]
     walk_at "st";refine ⟨a,kvs,y,rfl,B,rfl,qH hx y hy, ?_, ?_⟩
     ·have:=fI.l;rw [tv];simp at this hlen;lia
     have e3:((x.1:Nat):Int)=(((l.map (·.2)).length:Nat):Int):=by rw [e2];simp
     rw [e3] at O ⊢;refine O _ _ ⟨_,np kvs y (.int (l.map (·.2)).length),nss,rfl,fun u o eu => ?_, ?_,ad, ?_,fI.new hz hd⟩
     ·rw [ah (fun z=>by rw [z,ha] at eu;cases eu)];exact g2 _ _ eu
     ·rw [ah C1];exact mc
     ·rw [ah (Ne.symm j)];exact G
  ·rintro ρ M2 ⟨J,kvs,nss,rfl,g2,mc,B,G,fI⟩;have:=fI.next;exact hF _ _ ⟨_,_,_,_,_,kvs,nss,rfl,g2,B,G,by simpa using this⟩
 ·rintro ρ M1 ⟨o3,o4,o5,o6,J,kvs,nss,rfl,g,n1,n2,fI⟩;rw [yE] at fI;walk_at "st";refine ⟨nss,n2,fun hz=>q0 M1 g fun r s p' q' hr hs Cb C3 => ?_,fun ns C4 hle => ?_⟩
  ·obtain ⟨k,k1,k2⟩:=ky_al.mpr C3;obtain ⟨i,i1,i2⟩:=qG hr k1;have:=(fI.n [(i:Int),(s:Int)]).mpr (.inl ⟨i,s,q',k,rfl,hs,by lia,k2,i2⟩)
   rw [hz] at this;cases this
  ·rcases (fI.n ns).mp C4 with ⟨i,s,q,k,rfl,hs,C5,hk,hi⟩ | ⟨_,_,_,h,_⟩
   ·obtain ⟨p,hp,C6⟩:=jf hi;refine q1 i s p q M1 g hp hs C5 (ky_al.mp ⟨k,C6,hk⟩) fun r' s' p' q' C7 C8 C9 BY => ?_;obtain ⟨k',k1,k2⟩:=ky_al.mpr BY;obtain ⟨i',i1,i2⟩:=qG C7 k1;have:=hle _ ((fI.n [(i':Int),(s':Int)]).mpr (.inl ⟨i',s',q',k',rfl,C8,by lia,k2,i2⟩))
    rw [HT.lexLt_cons] at this
    by_cases c:(i':Int)=i
    ·rw [if_pos c,HT.lexLt_cons] at this
     by_cases c2:(s':Int)=s
     ·by_cases c3:i=r'
      ·exact .inr ⟨c3,by lia⟩
      ·exact .inl (by lia)
     ·rw [if_neg c2] at this;have:=of_decide_eq_false this
      by_cases c3:i=r'
      ·exact .inr ⟨c3,by lia⟩
      ·exact .inl (by lia)
    ·rw [if_neg c] at this;have:=of_decide_eq_false this;exact .inl (by lia)
   ·cases h
end
section
open PySem PySem.Spec PyProof.Rows L2.Srt
variable {T:List FD}
theorem jS {xs:List D} {n:Nat} (h:n<=xs.length):ci xs none (some (n:Int))=xs.take n:=by
 unfold ci;rw [HT.sIx_none,HT.sIx_nat,Gn h];simp
theorem jT {xs:List D} {n:Nat} (h:n<=xs.length):ci xs (some (n:Int)) none=xs.drop n:=by
 unfold ci;rw [HT.sIx_none,HT.sIx_nat,Gn h];exact Hc (by simp)
theorem Ar {α:Type} {A C:List α} {p : α}:(A++p::C).take A.length=A:=by simp
theorem As {α:Type} {A C:List α} {p : α}:(A++p::C).drop (A.length+1)=C:=by
 rw [show A++p::C=(A++[p])++C by simp,show A.length+1=(A++[p]).length by simp,L4]
theorem Bm {α:Type} {A C:List α} {p x : α}:(A++p::C).set A.length x=A++x::C:=by
 rw [KI _ _ (Ec _)];simp
theorem yF {α:Type} {X Y W:List α} {x z : α}:(X++x::(Y++z::W)).eraseIdx (X.length+1+Y.length)=X++x::(Y++W):=by
 rw [show X++x::(Y++z::W)=(X++x::Y)++z::W by simp,Ia (by simp;lia),show X.length+1+Y.length - (X++x::Y).length=0 by simp;lia];simp
noncomputable def jg (s:Stmt) (fn fa ft:Nat):FD:=⟨"one_fewer",s,["products", "empty", "pair", "r", "s", "made"],1,
 (.cons (.asg (.name 1) (.comp [none,none] ["at", "product"] (.last (.enum (.var 0)) (.tup (.cons (.name 0) (.cons (.name 1) .nil))) (.cons (.tru (.call fn (.cons (.var 1) .nil))) .nil) (.var 0))))
 (.cons (.ite (.tru (.var 1)) (.cons (.ret (.bin .add (.sl (.var 0) .none (.some (.ix (.var 1) (.int 0)))) (.sl (.var 0) (.some (.bin .add (.ix (.var 1) (.int 0)) (.int 1))) .none)))
 .nil) .nil)
 (.cons (.asg (.name 2) (.call fa (.cons (.var 0) .nil)))
 (.cons (.ite (.cmp .is (.var 2) .non) (.cons (.ret .non)
 .nil) .nil)
 (.cons (.asg (.tup (.cons (.name 3) (.cons (.name 4) .nil))) (.var 2))
 (.cons (.asg (.name 5) (.blt .list (.cons (.var 0) .nil)))
 (.cons (.put (.var 5) (.var 3) (.call ft (.cons (.ix (.var 0) (.var 3)) (.cons (.ix (.var 0) (.var 4)) .nil))))
 (.cons (.dell (.var 5) (.var 4))
 (.cons (.ret (.var 5))
 .nil)))))))))⟩
noncomputable def emp (l:List (Nat×Pr)):List Int:=(l.filter fun x => !okp x.2).map fun x=>(x.1:Int)
theorem vS {ps:List Pr} {r s:Nat} {p q:Pr} (j:ps[r]? = some p) (hs:ps[s]? = some q) (h:r < s):∃ A B C,ps=A++p::(B++q::C)/\A.length=r/\A.length+1+B.length=s:=by
 have lr:=(o7.mp j).1;have ls:=(o7.mp hs).1;refine ⟨ps.take r,(ps.drop (r+1)).take (s - r - 1),ps.drop (s+1), ?_,by simp;lia,by simp;lia⟩
 have z:ps=ps.take r++ps.drop r:=(Fq r ps).symm;have F:ps.drop r=p::ps.drop (r+1):=by
  rw [F7 lr];congr 1;exact (o7.mp j).2
 have G:ps.drop (r+1)=(ps.drop (r+1)).take (s - r - 1)++ps.drop s:=by
  have:=(Fq (s - r - 1) (ps.drop (r+1))).symm;rw [Il,show r+1+(s - r - 1)=s by lia] at this
  exact this
 have J:ps.drop s=q::ps.drop (s+1):=by
  rw [F7 ls];congr 1;exact (o7.mp hs).2
 rw [<- J, <- G, <- F];exact z
theorem enP_mem {ps:List Pr} {i:Nat} {p:Pr}:(i,p)∈enP ps↔ps[i]? = some p:=by
 unfold enP;rw [List.mem_mapIdx];constructor
 ·rintro ⟨j,q,e⟩
  cases e
  exact h7 q
 ·intro h;exact ⟨i,(o7.mp h).1,by rw [(o7.mp h).2]⟩
theorem jh {ps:List Pr}:(enP ps).length=ps.length:=by simp [enP]
theorem vT {ps:List Pr} {x:Int} {r:List Int} (h:emp (enP ps)=x::r):∃ A C p,ps=A++p::C/\okp p=false/\(∀ q∈A,okp q=true)/\x=(A.length:Nat):=by
 unfold emp at h;obtain ⟨y,l,j,B,O⟩:=List.map_eq_cons_iff.mp h;rw [List.filter_eq_cons_iff] at j;obtain ⟨l1,l2,F,G,J,U⟩:=j;obtain ⟨h1,h2⟩:=eU F;refine ⟨l1.map (·.2),l2.map (·.2),y.2,h1,by simpa using J,fun q L => ?_,by rw [<- B,h2];simp⟩
 obtain ⟨z,hz,rfl⟩:=EA.mp L;simpa using G z hz
theorem yG {ps:List Pr} (h:emp (enP ps)=[]):∀ p∈ps,okp p=true:=fun p j=>by
 unfold emp at h;rw [Lo,Kn] at h;obtain ⟨i,hi⟩:=Gg j;simpa using h (i,p) (enP_mem.mpr hi)
theorem vU {f fn fa ft fd:Nat} {s sn sa st' sd:Stmt} (hf:T[f]? = some (jg s fn fa ft)) (BY:T[fn]? = some (dv sn)) (BZ:T[fa]? = some (fK sa)) (C0:T[ft]? = some (cP st' fd)) (C1:T[fd]? = some (dO sd)) {k:Nat} (hk : 3<=k) {p0:Addr} {ps:List Pr} (C2:∀ p∈ps,NeP p) (C3:∀ p∈ps,nc 100000 p) (hl:ps.length<=100000) {M:Mem} {Q:QD} (h0:M p0=some (.lst (ps.map prD)))
 (q0:∀ M',Ge M M'->Fw ps none->Q .non M')
 (q1:∀ qs pr M',Fw ps (some qs)->Ge M M'->M pr=none->M' pr=some (.lst (qs.map prD))->Q (.ref pr) M'):phi T k f [.ref p0] M Q:=by
 refine ay (by lia) hf rfl (ρ := [some _,none,none,none,none,none]) rfl ?_
 unfold jg;walk_at "st";refine ⟨_,ag h0, ?_⟩;rw [gK];refine aZ (f:=enD) (ys:=enP ps) (I:=fun l ρ M' acc=>(∃ o0 o1, ρ = [o0,o1])/\Ge M M'/\acc=(emp l).map .int) rfl ⟨⟨_,_,rfl⟩,Ge.refl,rfl⟩ (fun _ _ _ _ h=>ag (h.2.1 _ _ h0)) ?_ ?_
 ·rintro l x r ρ M1 acc e ⟨⟨o0,o1,rfl⟩,g1,rfl⟩;refine ⟨_,rfl,fun N' F => ?_⟩;have C4:=aO e;rw [jh] at C4;have C8:(emp l).length<=l.length:=by unfold emp;rw [Eg];exact GC _ _
  walk_at "wp";refine nT BY (by lia) fun M2 g2=>⟨_,rfl, ?_⟩
  cases hz:okp x.2 with
  | true =>
    simp only [IP,EV,if_false];refine F _ _ _ ⟨⟨_,_,rfl⟩,g1.trans g2, ?_⟩;unfold emp;rw [EY,FY (by simp [hz])];simp
  | false =>
    simp only [Bool.not_false,if_true];refine ⟨by rw [Eg,tv];lia,F _ _ _ ⟨⟨_,_,rfl⟩,g1.trans g2, ?_⟩⟩
    unfold emp;rw [EY,FZ (by simp [hz])];simp
 rintro ρ M1 acc ⟨⟨o0,o1,rfl⟩,g1,rfl⟩ pe hpe;have g2:=g1.trans (Ge.new (o := .lst ((emp (enP ps)).map .int)) hpe);have me:af M1 pe (.lst ((emp (enP ps)).map .int)) pe=some (.lst ((emp (enP ps)).map .int)):=ad;generalize af M1 pe (.lst ((emp (enP ps)).map .int))=M2 at g2 me;clear hpe;walk_at "st"
 cases hz:emp (enP ps) with
 | cons x r =>
   rw [hz] at me;refine ⟨true,by simp [lg,me], ?_⟩
   rw [if_pos rfl];obtain ⟨A,C,p,e,hp,hA,rfl⟩:=vT hz;have hle:A.length+1<=(ps.map prD).length:=by rw [e];simp
   walk_at "st";refine aK me (d := .int (A.length:Nat)) (b4 (k := 0) rfl) ?_;refine ⟨_,rfl,_,g2 _ _ h0,fun pa G => ?_⟩;have ga:=g2.trans (Ge.new (o := .lst (ci (ps.map prD) none (some (A.length:Nat)))) G);refine aK (Ge.new G _ _ me) (d := .int (A.length:Nat)) (b4 (k := 0) rfl) ?_;walk_at "wp";refine ⟨_,ga _ _ h0,fun pb J => ?_⟩;have hs:((A.length:Nat):Int)+1=((A.length+1:Nat):Int):=by lia
   rw [hs];have gb:=ga.trans (Ge.new (o := .lst (ci (ps.map prD) (some ((A.length+1:Nat):Int)) none)) J);refine ⟨_,_,Ge.new J _ _ ad,ad, ?_,fun pc L => ?_⟩
   ·rw [jS (by lia),jT (by lia),tv];simp;lia
   rw [jS (by lia),jT (by lia)] at *
   have gc:=gb.trans (Ge.new (o := .lst ((ps.map prD).take A.length++(ps.map prD).drop (A.length+1))) L);refine q1 (A++C) pc _ (.nought A C p e hp hA) gc ?_ ?_
   ·cases hz:M pc with
    | none=>rfl
    | some o=>have:=gb _ _ hz;rw [L] at this;cases this
   ·rw [ad,e];have:(((A++p::C).map prD).take A.length++((A++p::C).map prD).drop (A.length+1))=(A++C).map prD:=by
     rw [<- List.map_take, <- List.map_drop, <- FA];rw [Ar,As]
    rw [this]
 | nil =>
   rw [hz] at me;refine ⟨false,by simp [lg,me], ?_⟩
   rw [if_neg (by decide)]
   have hok:=yG hz;walk_at "st";refine vR BZ (by lia) C2 hl (g2 _ _ h0) (fun M3 g3 C5 => ?_) fun r s p q M3 g3 Y hs C6 C7 hle => ?_
   ·walk_at "st";refine ⟨_,rfl,_,rfl, ?_⟩;rw [if_pos rfl];walk_at "st";exact q0 _ (g2.trans g3) (.none hok C5)
   ·walk_at "st";refine ⟨_,rfl,_,rfl, ?_⟩;rw [if_neg (by simp)]
    walk_at "st";have g3:=g2.trans g3;walk_at "st";refine ⟨_,_,rfl,ag (g3 _ _ h0),fun pm O => ?_⟩;have Z:=g3.trans (Ge.new (o := .lst (ps.map prD)) O);have mm:af M3 pm (.lst (ps.map prD)) pm=some (.lst (ps.map prD)):=ad;generalize af M3 pm (.lst (ps.map prD))=M4 at Z mm;have U:M pm=none:=by
     cases hz:M pm with
     | none=>rfl
     | some o=>have:=g3 _ _ hz;rw [O] at this;cases this
    walk_at "st";refine aK (Z _ _ h0) (d:=prD p) (b4 (by rw [Eo,Y];rfl)) ?_
    refine aK (Z _ _ h0) (d:=prD q) (b4 (by rw [Eo,hs];rfl)) ?_
    refine nU C0 C1 (by lia) (C3 p (EI Y)) fun M5 g5 => ?_
    have lr:=(o7.mp Y).1;have ls:=(o7.mp hs).1;refine gH (g5 _ _ mm) (j:=r) ?_ ?_
    ·unfold ixN;rw [if_pos (by lia),if_pos (by simp;lia)];rfl
    walk_at "st";refine ⟨_,ad,s,rfl,by simp;lia,by lia, ?_⟩
    walk_at "st";obtain ⟨A,B,C,e,l1,l2⟩:=vS Y hs C6;refine q1 (A++ptg p q::(B++C)) pm _ (.alike A B C p q e C7 hok fun r' s' p' q' h1 h2 h3 h4 => ?_) (fun u o eu => ?_) U ?_
    ·have:=hle r' s' p' q' h1 h2 h3 h4;rw [l2,l1];exact this
    ·have hu:u≠pm:=fun z=>by rw [z,U] at eu;cases eu
     rw [ah hu,ah hu];exact g5 _ _ (Z _ _ eu)
    ·rw [ad];have:(((ps.map prD).set r (prD (ptg p q))).eraseIdx s)=(A++ptg p q::(B++C)).map prD:=by
      rw [e, <- l2, <- l1];have e1:A.length=(A.map prD).length:=by simp
      have e2:B.length=(B.map prD).length:=by simp
      rw [FA,Ew,FA,Ew,e1,e2,Bm,yF];simp
     rw [this]
noncomputable def gL (s:Stmt) (fs fo:Nat):FD:=⟨"tidied",s,["scheme", "left", "right", "many", "products", "tidy", "fewer"],1,
 (.cons (.asg (.tup (.cons (.name 1) (.cons (.name 2) (.cons (.name 3) (.cons (.name 4) .nil))))) (.var 0))
 (.cons (.asg (.name 5) (.comp [none] ["product"] (.last (.seq (.var 4)) (.name 0) .nil (.call fs (.cons (.var 0) .nil)))))
 (.cons (.asg (.name 6) (.call fo (.cons (.var 5) .nil)))
 (.cons (.while (.cmp .isn (.var 6) .non) (.cons (.asg (.name 5) (.var 6))
 (.cons (.asg (.name 6) (.call fo (.cons (.var 5) .nil)))
 .nil)))
 (.cons (.ret (.tup (.cons (.var 1) (.cons (.var 2) (.cons (.var 3) (.cons (.var 5) .nil))))))
 .nil)))))⟩
structure Tdy (L0 L1 L2:Nat) (ps:List Pr):Prop where
 l:Lns L0 L1 L2 ps
 h0 : 1<=L0/\L0<=1000
 h1 : 1<=L1/\L1<=1000
 h2 : 1<=L2/\L2<=1000
 n:ps.length<=10000
theorem Tdy.ne {q B L2:Nat} {ps:List Pr} (h:Tdy q B L2 ps):∀ p∈ps,NeP p:=fun p F=>by
 obtain ⟨j,l1,l2⟩:=h.l p F;have a:=h.h0;have b:=h.h1;have c:=h.h2;refine ⟨fun z => ?_,fun z => ?_,fun z => ?_⟩
 ·rw [z] at j;simp at j;lia
 ·rw [z] at l1;simp at l1;lia
 ·rw [z] at l2;simp at l2;lia
theorem Tdy.lp {j q L2:Nat} {ps:List Pr} (h:Tdy j q L2 ps):∀ p∈ps,nc 100000 p:=fun p z=>by
 obtain ⟨B,l1,l2⟩:=h.l p z;have a:=h.h0;have b:=h.h1;have c:=h.h2;exact ⟨by lia,by lia,by lia⟩
theorem Tdy.fw {j q L2:Nat} {ps qs:List Pr} (h:Tdy j q L2 ps) (w:Fw ps (some qs)):Tdy j q L2 qs:=⟨w.lns h.l,h.h0,h.h1,h.h2,by have:=w.len;have:=h.n;lia⟩
theorem Tdy.td {j q L2:Nat} {ps qs:List Pr} (h:Tdy j q L2 ps) (w:Td ps qs):Tdy j q L2 qs:=⟨w.lns h.l,h.h0,h.h1,h.h2,by have:=w.len;have:=h.n;lia⟩
theorem Tdy.sg {j q L2:Nat} {ps:List Pr} (h:Tdy j q L2 ps):Tdy j q L2 (ps.map sgn):=⟨yA h.l,h.h0,h.h1,h.h2,by rw [Eg];exact h.n⟩
def oQ (T:List FD) (n f:Nat):Prop := ∀ {L0 L1 L2:Nat} {p0:Addr} {ps:List Pr} {M:Mem} {Q:QD},Tdy L0 L1 L2 ps->M p0=some (.lst (ps.map prD))->(∀ M',Ge M M'->Fw ps none->Q .non M') ->
 (∀ qs pr M',Fw ps (some qs)->Ge M M'->M pr=none->M' pr=some (.lst (qs.map prD))->Q (.ref pr) M')->phi T n f [.ref p0] M Q
def nh (T:List FD) (n f:Nat):Prop := ∀ {p:Pr} {M:Mem} {Q:QD},nc 100000 p->(∀ M',Ge M M'->Q (prD (sgn p)) M')->phi T n f [prD p] M Q
theorem tO {f fs fo:Nat} {s:Stmt} (hf:T[f]? = some (gL s fs fo)) {n:Nat} (hs:nh T (n - 1) fs) (ho:oQ T (n - 1) fo) (hn : 1<=n) {L0 L1 L2:Nat} {x y z:D} {B:Addr} {ps:List Pr} (G:Tdy L0 L1 L2 ps) {M:Mem} {Q:QD} (h0:M B=some (.lst (ps.map prD)))
 (q:∀ qs pr M',Td (ps.map sgn) qs->Ge M M'->M pr=none->M' pr=some (.lst (qs.map prD))->Q (.tup [x,y,z, .ref pr]) M'):phi T n f [.tup [x,y,z, .ref B]] M Q:=by
 refine ay hn hf rfl (ρ := [some _,none,none,none,none,none,none]) rfl ?_;unfold gL;walk_at "st";walk_at "st";refine ⟨_,ag h0, ?_⟩;refine aZ (f:=prD) (ys:=ps) (I:=fun l ρ M' acc=>(∃ o0, ρ = [o0])/\Ge M M'/\acc=(l.map sgn).map prD) rfl ⟨⟨_,rfl⟩,Ge.refl,rfl⟩ (fun _ _ _ _ h=>ag (h.2.1 _ _ h0)) ?_ ?_
 ·rintro l u r ρ J acc e ⟨⟨o0,rfl⟩,g1,rfl⟩;refine ⟨_,rfl,fun N' L => ?_⟩;have BY:=aO e;have:=G.n;walk_at "wp";refine hs (G.lp u (by rw [e];simp)) fun M2 g2 => ?_
  refine ⟨by simp [tv];lia,L _ _ _ ⟨⟨_,rfl⟩,g1.trans g2,by simp⟩⟩
 rintro ρ J acc ⟨⟨o0,rfl⟩,g1,rfl⟩ pt hpt;have O:M pt=none:=by
  cases hz:M pt with
  | none=>rfl
  | some o=>have:=g1 _ _ hz;rw [hpt] at this;cases this
 have g2:=g1.trans (Ge.new (o := .lst ((ps.map sgn).map prD)) hpt);have mt:af J pt (.lst ((ps.map sgn).map prD)) pt=some (.lst ((ps.map sgn).map prD)):=ad;generalize af J pt (.lst ((ps.map sgn).map prD))=M2 at g2 mt;clear hpt g1;walk_at "st";have loop:∀ (m:Nat) (qs:List Pr) (pq:Addr) (M2:Mem),qs.length<=m->Tdy L0 L1 L2 qs->(∀ rs,Td qs rs->Td (ps.map sgn) rs)->Ge M M2->M pq=none->M2 pq=some (.lst (qs.map prD)) ->
  phi T (n - 1) fo [.ref pq] M2 fun d j=>aH (dY (wOp q8 (bI 6) (wC .non))) (wSs (phi T (n - 1)) (MSs.cons (MS.asg (MG.name 5) (ME.var 6)) (MSs.cons (MS.asg (MG.name 6) (ME.call fo (MEs.cons (ME.var 5) MEs.nil))) MSs.nil)))
   { nx:=wSs (phi T (n - 1)) (MSs.cons (MS.ret (ME.tup (MEs.cons (ME.var 1) (MEs.cons (ME.var 2) (MEs.cons (ME.var 3) (MEs.cons (ME.var 5) MEs.nil)))))) MSs.nil) { nx:=fun _ M'=>Q D.non M',rt:=Q },rt:=Q } (m+1)
   [some (.tup [x,y,z, .ref B]),some x,some y,some z,some (.ref B),some (.ref pq),some d] j:=by
  intro m
  induction m with
  | zero =>
    intro qs pq M2 hm tq F g U mq;refine ho tq mq (fun j g3 w => ?_) fun qs' pr j w => ?_
    ·rw [aH];walk_at "wp";refine ⟨_,rfl,_,rfl, ?_⟩;rw [if_neg (by decide)]
     walk_at "st";exact ⟨by rw [tv];lia,q qs pq j (F _ (.done w)) (g.trans g3) U (g3 _ _ mq)⟩
    ·have:=w.len;lia
  | succ m ih =>
    intro qs pq M2 hm tq F g U mq;refine ho tq mq (fun j g3 w => ?_) fun qs' pr j w g3 Y mr => ?_
    ·rw [aH];walk_at "wp";refine ⟨_,rfl,_,rfl, ?_⟩;rw [if_neg (by decide)]
     walk_at "st";exact ⟨by rw [tv];lia,q qs pq j (F _ (.done w)) (g.trans g3) U (g3 _ _ mq)⟩
    ·have Z:M pr=none:=by
      cases hz:M pr with
      | none=>rfl
      | some o=>have:=g _ _ hz;rw [Y] at this;cases this
     rw [aH];walk_at "wp";refine ⟨_,rfl,_,rfl, ?_⟩;rw [if_pos (by simp)]
     walk_at "st";walk_at "st";exact ih qs' pr j (by have:=w.len;lia) (tq.fw w) (fun rs t=>F rs (.step w t)) (g.trans g3) Z mr
 refine ef T _ _ _ _ _ _ (fun d j h => ?_) (loop (ps.map sgn).length (ps.map sgn) pt M2 (Ec _) G.sg (fun _ h=>h) g2 O mt);walk_at "st";exact ⟨_,h⟩
end
section
open PySem PySem.Spec PyProof.Rows L2.Srt
variable {T:List FD}
noncomputable def prt (p:Pr):Nat->List Int | 0=>p.1 | 1=>p.2.1 | _=>p.2.2
theorem tP {p:Pr} {i:Nat} (h:i < 3):(prL p)[i]? = some (.tup ((prt p i).map .int)):=by
 match i,h with
 | 0,_=>rfl
 | 1,_=>rfl
 | 2,_=>rfl
end
section
open PySem PySem.Spec PyProof.Rows L2.Srt
variable {T:List FD}
theorem oR {M M':Mem} {c:Addr} (g:Ge M M') (h:M' c=none):M c=none:=by
 cases hz:M c with
 | none=>rfl
 | some o=>have:=g _ _ hz;rw [h] at this;cases this
theorem dA {n:Nat} {l r:List Nat} {i:Nat} (e:ED n=l++i::r):i=l.length/\i < n:=by
 have j:=aO e;rw [Hr] at j;have:=jR e;rw [Lm j] at this;exact ⟨(FL.inj this).symm,by rw [<- FL.inj this];exact j⟩
end
section
open PySem PySem.Spec PyProof.Rows L2.Srt
variable {T:List FD}
noncomputable def ni (xn:Str) (s:Stmt) (ft:Nat):FD:=⟨"_law_pool",s,["_law_box_here", "_law_length", "_law_found"],2,
 (.cons (.asg (.name 2) (.comp [none,(some 1),(some 0)] ["_law_turn", "_law_length", "_law_box_here"] (.last (.rng1 (.bin .add (.int 1) (.call ft (.cons (.var 0) (.cons (.int 3) .nil))))) (.name 0) .nil (.blt .tuple (.cons (.comp [none,(some 2)] ["_law_k", "_law_box_here"] (.last (.rng1 (.var 1)) (.name 0) .nil (.ix (.lst (.cons (.int 0) (.cons (.int 1) (.cons (.neg (.int 1)) (.cons (.int 2) .nil))))) (.call ft (.cons (.var 1) (.cons (.int 4) .nil)))))) .nil)))))
 (.cons (.ite (.cmp .eq (.call ft (.cons (.var 0) (.cons (.int 2) .nil))) (.int 0)) (.cons (.drop (.meth .append (.var 2) (.blt .tuple (.cons (.comp [none] [xn] (.last (.seq (.ix (.var 2) (.int 0))) (.name 0) .nil (.neg (.var 0)))) .nil))))
 .nil) .nil)
 (.cons (.ite (.cmp .eq (.call ft (.cons (.var 0) (.cons (.int 6) .nil))) (.int 0)) (.cons (.drop (.meth .append (.var 2) (.bin .mul (.tup (.cons (.int 0) .nil)) (.var 1))))
 .nil) .nil)
 (.cons (.ret (.var 2))
 .nil))))⟩
noncomputable def tpD (l:List Int):D := .tup (l.map .int)
structure ji (L:Nat) (ls:List (List Int)):Prop where
 ne:ls≠[]
 n:ls.length<=5
 l:∀ l∈ls,l.length=L/\Bdd 2 l
theorem vV {ft n:Nat} (B:dN T n ft) {b:Addr} {L:Nat} (hL:L<=1000) {M:Mem} (hb:Box b M) {N:NC} {o0:Option D} (q:∀ (l:List Int) ρ M',l.length=L->Bdd 2 l->Bx b M M'->N ρ M' (l.map .int)) :
 aY (bn 0) (bM (wOp wIx (wAr iY (aF (wC (.int 0)) (aF (wC (.int 1)) (aF (wUn j3 (wC (.int 1))) (aF (wC (.int 2)) bm))))) (wAr (phi T n ft) (aF (bI 1) (aF (wC (.int 4)) bm))))) (fun _=>True) N (b8 0 L) [o0,some (.ref b)] M []:=by
 refine jQ (I:=fun l ρ M' acc => ∃ ns:List Int,(∃ o0, ρ = [o0,some (.ref b)])/\acc=ns.map .int/\ns.length=l.length/\Bdd 2 ns/\Bx b M M') ⟨[],⟨_,rfl⟩,rfl,rfl,fun x h=>(by cases h),Bx.refl hb⟩ (fun _ _ _ _ _=>trivial) ?_ ?_
 ·rintro l x r ρ M1 acc e ⟨ns,⟨o0,rfl⟩,rfl,j,hs,z⟩;have F:=aO e;rw [bE] at F;refine ⟨_,rfl,fun N' G => ?_⟩;walk_at "wp";refine ⟨by rw [tv];lia,fun p U => ?_⟩
  have J:=ce z.box U;have Y:=z.ge (Ge.new (o := .lst [.int 0, .int 1, .int (-1), .int 2]) U);refine B Y.box (by decide) (by decide) fun i M2 i0 i1 Z => ?_
  have hm:M2 p=some (.lst [.int 0, .int 1, .int (-1), .int 2]):=Z.keep _ _ J ad;obtain ⟨v,hv,O⟩:∃ v:Int,atI [D.int 0, .int 1, .int (-1), .int 2] i=some (.int v)/\v.natAbs<=2:=by
   have:i=0∨i=1∨i=2∨i=3:=by lia
   rcases this with rfl | rfl | rfl | rfl
   ·exact ⟨0,rfl,by decide⟩
   ·exact ⟨1,rfl,by decide⟩
   ·exact ⟨-1,rfl,by decide⟩
   ·exact ⟨2,rfl,by decide⟩
  refine aK hm hv ?_;refine ⟨by rw [Eg,tv];lia,G _ _ _ ⟨ns++[v],⟨_,rfl⟩,by simp,by simp [j],fun y hy => ?_,Y.trans Z⟩⟩
  rcases Ea.mp hy with h | h
  ·exact hs y h
  ·simp at h;subst h;exact O
 ·rintro ρ M1 acc ⟨ns,⟨o0,rfl⟩,rfl,j,hs,z⟩;rw [bE] at j;exact q ns _ _ j hs z
theorem yH {f ft:Nat} {xn:Str} {s:Stmt} (hf:T[f]? = some (ni xn s ft)) {n:Nat} (G:dN T (n - 1) ft) (hn : 1<=n) {b:Addr} {L:Nat} (hL : 1<=L/\L<=1000) {M:Mem} {Q:QD} (hb:Box b M)
 (q:∀ ls p M',ji L ls->Bx b M M'->M p=none->M' p=some (.lst (ls.map tpD))->Q (.ref p) M'):phi T n f [.ref b, .int L] M Q:=by
 refine ay hn hf rfl (ρ := [some _,some _,none]) rfl ?_;unfold ni;walk_at "st";refine G hb (by decide) (by decide) fun c M0 c0 c1 x0 => ?_
 walk_at "wp";refine ⟨by lia,by lia, ?_⟩
 refine jQ (I:=fun l ρ M' acc => ∃ ls:List (List Int),(∃ o0, ρ = [o0,some (.int L),some (.ref b)])/\acc=ls.map tpD/\ls.length=l.length/\(∀ l∈ls,l.length=L/\Bdd 2 l)/\Bx b M M') ⟨[],⟨_,rfl⟩,rfl,rfl,fun x h=>(by cases h),x0⟩ (fun _ _ _ _ _=>trivial) ?_ ?_
 ·rintro l x r ρ M1 acc e ⟨ls,⟨o0,rfl⟩,rfl,B,hs,J⟩;have BY:=aO e;rw [bE] at BY;refine ⟨_,rfl,fun N' BZ => ?_⟩;walk_at "wp";refine ⟨by lia,by lia, ?_⟩
  rw [Fh];refine vV G hL.2 J.box fun v ρ M2 v1 v2 x2 p hp => ?_;refine ⟨_,_,rfl,ag ad, ?_⟩;refine ⟨by rw [Eg,tv];lia,BZ _ _ _ ⟨ls++[v],⟨_,rfl⟩,by simp [tpD],by simp [B],fun y hy => ?_,J.trans (x2.ge (Ge.new hp))⟩⟩
  rcases Ea.mp hy with h | h
  ·exact hs y h
  ·simp at h;subst h;exact ⟨v1,v2⟩
 rintro ρ M1 acc ⟨ls,⟨o0,rfl⟩,rfl,B,hs,J⟩ pl hpl;rw [bE] at B;have j:=ce J.box hpl;have O:=J.none hpl j;have x2:=J.ge (Ge.new (o := .lst (ls.map tpD)) hpl);have m2:af M1 pl (.lst (ls.map tpD)) pl=some (.lst (ls.map tpD)):=ad;have F:ji L ls:=⟨fun z=>by rw [z] at B;simp at B;lia,by lia,hs⟩
 have U:ls.length<=3:=by lia
 generalize af M1 pl (.lst (ls.map tpD))=M2 at x2 m2;clear hpl J hs B;refine eh (I:=fun ρ M' => ∃ ls,ji L ls/\ls.length<=4/\Bx b M M'/\M' pl=some (.lst (ls.map tpD)) /\ ρ = [some (.ref b),some (.int L),some (.ref pl)]) (fun R hR => ?_) ?_
 ·walk_at "wp";refine G x2.box (by decide) (by decide) fun i M3 i0 i1 x3 => ?_
  walk_at "wp";have Y:=x3.keep _ _ j m2;have Z:=x2.trans x3
  split
  ·walk_at "st";obtain ⟨l0,lr,rfl⟩:∃ l0 lr,ls=l0::lr:=by cases ls with | nil=>exact absurd rfl F.ne | cons a b=>exact ⟨a,b,rfl⟩
   obtain ⟨h1,h2⟩:=F.l l0 (by simp)
   refine ⟨⟨_,Y⟩, ?_⟩;refine aK Y (d:=tpD l0) (b4 (k := 0) rfl) ?_;refine ⟨_,rfl, ?_⟩;refine n9 (by lia) (by first | rfl | trivial) fun ρ p hp => ?_
   refine ⟨_,_,rfl,ag ad, ?_⟩;have C0:pl≠p:=fun z=>by rw [<- z,Y] at hp;cases hp
   refine ⟨pl,_,_,rfl,rfl,Ge.new hp _ _ Y,by rw [Eg,tv];lia, ?_⟩
   refine hR _ _ ⟨(l0::lr)++[ngl l0],⟨by simp,by simp at U ⊢;lia,fun l B => ?_⟩,by simp at U ⊢;lia, ?_, ?_,rfl⟩
   ·rcases Ea.mp B with h | h
    ·exact F.l l h
    ·simp at h;subst h;exact ⟨by simp [ngl,h1],yB h2⟩
   ·exact (Z.ge (Ge.new hp)).upd O j
   ·rw [ad];simp [tpD]
  ·exact hR _ _ ⟨ls,F,by lia,Z,Y,rfl⟩
 clear x2 m2 F U;rintro ρ M3 ⟨ls,F,C1,x3,Y,rfl⟩;refine eh (I:=fun ρ M' => ∃ ls,ji L ls/\Bx b M M'/\M' pl=some (.lst (ls.map tpD)) /\ ρ = [some (.ref b),some (.int L),some (.ref pl)]) (fun R hR => ?_) ?_
 ·walk_at "wp";refine G x3.box (by decide) (by decide) fun i M4 i0 i1 Z => ?_
  walk_at "wp";have m4:=Z.keep _ _ j Y;have x5:=x3.trans Z
  split
  ·walk_at "st";refine ⟨⟨_,m4⟩,by rw [tv];lia,by lia,by lia,by rw [tv];simp;lia, ?_⟩
   rw [Fh,BV];refine ⟨pl,_,_,rfl,rfl,m4,by rw [Eg,tv];lia, ?_⟩
   refine hR _ _ ⟨ls++[Em L 0],⟨by simp,by simp;lia,fun l B => ?_⟩,x5.upd O j, ?_,rfl⟩
   ·rcases Ea.mp B with h | h
    ·exact F.l l h
    ·simp at h;subst h;exact ⟨by simp,fun y hy=>by rw [(List.mem_replicate.mp hy).2];decide⟩
   ·rw [ad];simp [tpD]
  ·exact hR _ _ ⟨ls,F,x5,m4,rfl⟩
 rintro ρ M4 ⟨ls,F,Z,m4,rfl⟩;walk_at "st";exact q ls pl M4 F Z O m4
end
section
open PySem PySem.Spec PyProof.Rows L2.Srt
variable {T:List FD}
noncomputable def nj (s:Stmt) (ft fp:Nat):FD:=⟨"_law_near_scheme",s,["_law_box_here", "_law_most", "_law_lengths", "_law_pools", "_law_products", "_law_turn"],2,
 (.cons (.asg (.name 2) (.comp [none,(some 0)] ["_law_side", "_law_box_here"] (.last (.rng1 (.int 3)) (.name 0) .nil (.bin .add (.int 1) (.call ft (.cons (.var 1) (.cons (.ix (.lst (.cons (.int 4) (.cons (.int 12) .nil))) (.blt .int (.cons (.cmp .eq (.call ft (.cons (.var 1) (.cons (.int 8) .nil))) (.int 0)) .nil))) .nil)))))))
 (.cons (.asg (.name 3) (.comp [none,(some 0)] ["_law_length", "_law_box_here"] (.last (.seq (.var 2)) (.name 0) .nil (.call fp (.cons (.var 1) (.cons (.var 0) .nil))))))
 (.cons (.asg (.name 4) (.lst .nil))
 (.cons (.for (.name 5) (.rng1 (.call ft (.cons (.var 0) (.cons (.bin .add (.var 1) (.int 1)) .nil)))) (.cons (.drop (.meth .append (.var 4) (.blt .tuple (.cons (.comp [none,(some 0)] ["_law_pool_here", "_law_box_here"] (.last (.seq (.var 3)) (.name 0) .nil (.ix (.var 0) (.call ft (.cons (.var 1) (.cons (.blt .len (.cons (.var 0) .nil)) .nil)))))) .nil))))
 .nil))
 (.cons (.ret (.bin .add (.blt .tuple (.cons (.var 2) .nil)) (.tup (.cons (.var 4) .nil))))
 .nil)))))⟩
def tQ (T:List FD) (n f:Nat):Prop := ∀ {b:Addr} {L:Nat} {M:Mem} {Q:QD},(1<=L/\L<=1000)->Box b M->(∀ ls p M',ji L ls->Bx b M M'->M p=none->M' p=some (.lst (ls.map tpD))->Q (.ref p) M')->phi T n f [.ref b, .int L] M Q
structure BW (L0 L1 L2:Nat) (ps:List Pr):Prop where
 h0 : 1<=L0/\L0<=12
 h1 : 1<=L1/\L1<=12
 h2 : 1<=L2/\L2<=12
 l:Lns L0 L1 L2 ps
 b:∀ p∈ps,BdP 1000 p
theorem gM {ft n:Nat} (z:dN T n ft) {b:Addr} {M:Mem} (J:Box b M) {Q:QD} (q:∀ (i:Int) M',(i=4∨i=12)->Bx b M M'->phi T n ft [.ref b, .int i] M' Q) : 1+1<=D0 /\ ∀ p,M p=none->phi T n ft [.ref b, .int 8] (af M p (.lst [.int 4, .int 12])) fun x j=>wEq x (.int 0) j fun x j=>j5 [x] j fun y M2=>wIx (.ref p) y M2 fun x j=>phi T n ft [.ref b,x] j Q:=by
 refine ⟨by rw [tv];lia,fun p L => ?_⟩
 have B:=ce J L;have F:=(Bx.refl J).ge (Ge.new (o := .lst [.int 4, .int 12]) L);refine z F.box (by decide) (by decide) fun i M2 O U G => ?_
 have hm:M2 p=some (.lst [.int 4, .int 12]):=G.keep _ _ B ad;rw [wy,tm]
 by_cases h:i=0
 ·rw [beq_iff_eq.mpr h];exact aK hm (d := .int 12) rfl (q 12 _ (.inr rfl) (F.trans G))
 ·rw [beq_false_of_ne h];exact aK hm (d := .int 4) rfl (q 4 _ (.inl rfl) (F.trans G))
theorem jj {ft n:Nat} (z:dN T n ft) {b a:Addr} {L:Nat} {ls:List (List Int)} (B:ji L ls) {M:Mem} (U:Box b M) (F:a≠b) (G:M a=some (.lst (ls.map tpD))) {Q:QD} (q:∀ (l:List Int) M',l.length=L->Bdd 2 l->Bx b M M'->Q (tpD l) M') :
 dy [.ref a] M fun y M2=>phi T n ft [.ref b,y] M2 fun y M2=>wIx (.ref a) y M2 Q:=by
 refine fG G ?_;have Z:=B.n;have h1 : 0 < ls.length:=EX.mpr B.ne;rw [Eg];refine z U (by lia) (by lia) fun i M2 Y i1 J => ?_
 obtain ⟨j,rfl⟩:=GY Y;have O:j < ls.length:=by lia
 refine aK (J.keep _ _ F G) (d:=tpD (ls[j]'O)) (b4 (by rw [Eo,h7 O];rfl)) ?_
 obtain ⟨h1,h2⟩:=B.l _ (K7 O);exact q _ _ h1 h2 J
theorem yI {f ft fp:Nat} {s:Stmt} (hf:T[f]? = some (nj s ft fp)) {n:Nat} (B:dN T (n - 1) ft) (C6:tQ T (n - 1) fp) (hn : 1<=n) {b:Addr} {most:Nat} (hm:most<=1000) {M:Mem} {Q:QD} (hb:Box b M)
 (q:∀ L0 L1 L2 ps pr M',BW L0 L1 L2 ps->ps.length<=most->Bx b M M'->M pr=none->pr≠b->M' pr=some (.lst (ps.map prD))->Q (.tup [.int (L0:Nat), .int (L1:Nat), .int (L2:Nat), .ref pr]) M'):phi T n f [.ref b, .int most] M Q:=by
 refine ay hn hf rfl (ρ := [some _,some _,none,none,none,none]) rfl ?_;unfold nj;walk_at "st";refine ⟨by decide,by decide, ?_⟩
 have er:b8 0 (3:Int).toNat=[.int 0, .int 1, .int 2]:=rfl;rw [er];simp only [aY];refine ⟨trivial,_,rfl, ?_⟩;walk_at "wp";refine gM B hb fun m0 M0 CB x0 => ?_;refine B x0.box (by lia) (by lia) fun i0 M1 CC CD x1 => ?_
 walk_at "wp";refine ⟨by rw [tv];simp, ?_⟩
 have y1:=x0.trans x1;refine gM B y1.box fun m1 M2 CF x2 => ?_;refine B x2.box (by lia) (by lia) fun i1 M3 CG CH x3 => ?_
 walk_at "wp";refine ⟨by rw [tv];simp, ?_⟩
 have y3:=(y1.trans x2).trans x3;refine gM B y3.box fun m2 M4 CI x4 => ?_;refine B x4.box (by lia) (by lia) fun i2 M5 CJ CK x5 => ?_
 walk_at "wp";refine ⟨by rw [tv];simp,fun pL C7 => ?_⟩
 have y5:=(y3.trans x4).trans x5;obtain ⟨L0,e0⟩:=GY (show 0<=1+i0 by lia)
 obtain ⟨L1,e1⟩:=GY (show 0<=1+i1 by lia)
 obtain ⟨L2,e2⟩:=GY (show 0<=1+i2 by lia)
 have h0 : 1<=L0/\L0<=12:=by lia
 have h1 : 1<=L1/\L1<=12:=by lia
 have h2 : 1<=L2/\L2<=12:=by lia
 have Z:=ce y5.box C7;have y6:=y5.ge (Ge.new (o := .lst ([]++[.int (1+i0)]++[.int (1+i1)]++[.int (1+i2)])) C7);have mL:af M5 pL (.lst ([]++[.int (1+i0)]++[.int (1+i1)]++[.int (1+i2)])) pL=some (.lst [.int (L0:Nat), .int (L1:Nat), .int (L2:Nat)]):=by rw [ad,e0,e1,e2];rfl
 generalize af M5 pL (.lst ([]++[.int (1+i0)]++[.int (1+i1)]++[.int (1+i2)]))=M6 at y6 mL;clear x0 x1 x2 x3 x4 x5 y1 y3 y5 C7 e0 e1 e2;walk_at "st";refine ⟨_,ag mL, ?_⟩;simp only [aY];refine ⟨ag mL,_,rfl, ?_⟩;walk_at "wp";refine C6 (by lia) y6.box fun Cv a0 M7 P0 x7 Ck Cl => ?_
 have BY:=ce y6.box Ck;have y7:=y6.trans x7;have C8:=x7.keep _ _ Z mL;refine ⟨by rw [tv];simp,ag C8, ?_⟩
 refine C6 (by lia) y7.box fun Cw a1 M8 P1 x8 Cn Co => ?_
 have BZ:=ce y7.box Cn;have y8:=y7.trans x8;have C9:=x8.keep _ _ Z C8;refine ⟨by rw [tv];simp,ag C9, ?_⟩
 refine C6 (by lia) y8.box fun Cy a2 M9 P2 x9 Cp Cq => ?_
 have C3:=ce y8.box Cp;have y9:=y8.trans x9;have Ca:=x9.keep _ _ Z C9;refine ⟨by rw [tv];simp,ag Ca,fun pP Cb => ?_⟩
 have C0:=ce y9.box Cb;have gP:=Ge.new (o := .lst ([]++[.ref a0]++[.ref a1]++[.ref a2])) Cb;have C1:=y9.ge gP;have mP:af M9 pP (.lst ([]++[.ref a0]++[.ref a1]++[.ref a2])) pP=some (.lst [.ref a0, .ref a1, .ref a2]):=by rw [ad];rfl
 have J:=gP _ _ Ca;have L:=gP _ _ (x9.keep _ _ BY (x8.keep _ _ BY Cl));have U:=gP _ _ (x9.keep _ _ BZ Co);have Y:=gP _ _ Cq;generalize af M9 pP (.lst ([]++[.ref a0]++[.ref a1]++[.ref a2]))=Cr at C1 mP J L U Y;clear x7 x8 x9 y6 y7 y8 y9 mL C8 C9 Ca Cl Co Cq gP Cb Ck Cn Cp;walk_at "st";refine ⟨by rw [tv];lia,fun pr j => ?_⟩
 have C2:=ce C1.box j;have Ct:=C1.none j C2;have gR:=Ge.new (o := .lst []) j;have Cc:=C1.ge gR;have mR:af Cr pr (.lst []) pr=some (.lst (([]:List Pr).map prD)):=ad;have nL:pL≠pr:=fun z=>by rw [<- z,J] at j;cases j
 have nP:pP≠pr:=fun z=>by rw [<- z,mP] at j;cases j
 have n0:a0≠pr:=fun z=>by rw [<- z,L] at j;cases j
 have n1:a1≠pr:=fun z=>by rw [<- z,U] at j;cases j
 have n2:a2≠pr:=fun z=>by rw [<- z,Y] at j;cases j
 have C4:=gR _ _ J;have C5:=gR _ _ mP;have L:=gR _ _ L;have U:=gR _ _ U;have Y:=gR _ _ Y;generalize af Cr pr (.lst [])=M11 at Cc mR C4 C5 L U Y;clear gR J mP C1 j;walk_at "st";refine B Cc.box (by lia) (by lia) fun c CL c0 c1 G => ?_
 refine ⟨c,rfl,by lia,by lia, ?_⟩
 refine vL (I:=fun l ρ M' => ∃ (ps:List Pr) (o5:Option D), ρ = [some (.ref b),some (.int most),some (.ref pL),some (.ref pP),some (.ref pr),o5]/\ps.length=l.length/\Lns L0 L1 L2 ps/\(∀ p∈ps,BdP 1000 p)/\Bx b M M'/\M' pr=some (.lst (ps.map prD))/\M' pL=some (.lst [.int (L0:Nat), .int (L1:Nat), .int (L2:Nat)])/\M' pP=some (.lst [.ref a0, .ref a1, .ref a2])/\M' a0=some (.lst (Cv.map tpD))/\M' a1=some (.lst (Cw.map tpD))/\M' a2=some (.lst (Cy.map tpD)))
  ⟨[],none,rfl,rfl,fun p h=>(by cases h),fun p h=>(by cases h),Cc.trans G,G.keep _ _ C2 mR,G.keep _ _ Z C4,G.keep _ _ C0 C5,G.keep _ _ BY L,G.keep _ _ BZ U,G.keep _ _ C3 Y⟩ (fun _ _ _ _=>trivial) ?_ ?_
 ·rintro l x r ρ N0 e ⟨ps,o5,rfl,hl,Cd,Ce,z0,nr,nl,np',Cf,Cg,Ch⟩;have Cz:=aO e;rw [bE] at Cz;refine ⟨_,rfl,fun F hF => ?_⟩;walk_at "st";refine ⟨⟨_,nr⟩,_,ag np', ?_⟩;simp only [aY];refine ⟨ag np',_,rfl, ?_⟩;walk_at "wp";refine jj B P0 z0.box BY Cf fun l0 N1 v0 w0 z1 => ?_;refine ⟨by rw [tv];simp,ag (z1.keep _ _ C0 np'), ?_⟩
  refine jj B P1 z1.box BZ (z1.keep _ _ BZ Cg) fun l1 N2 v1 w1 z2 => ?_;have Ci:=z1.trans z2;refine ⟨by rw [tv];simp,ag (Ci.keep _ _ C0 np'), ?_⟩
  refine jj B P2 z2.box C3 (Ci.keep _ _ C3 Ch) fun l2 N3 v2 w2 z3 => ?_;have Cj:=Ci.trans z3;refine ⟨by rw [tv];simp,ag (Cj.keep _ _ C0 np'),fun pt CA => ?_⟩
  refine ⟨_,_,rfl,ag ad, ?_⟩;have gt:=Ge.new (o := .lst ([]++[tpD l0]++[tpD l1]++[tpD l2])) CA;have Cu:=Cj.ge gt;refine ⟨pr,_,_,rfl,rfl,gt _ _ (Cj.keep _ _ C2 nr),by rw [Eg,tv];lia, ?_⟩
  have kp:∀ {c:Addr} {o o':O},c≠b->c≠pr->N0 c=some o->af (af N3 pt (.lst ([]++[tpD l0]++[tpD l1]++[tpD l2]))) pr o' c=some o:=fun h1 h2 h3=>by rw [ah h2];exact Cu.keep _ _ h1 h3
  refine hF _ _ ⟨ps++[(l0,l1,l2)],_,rfl,by simp [hl],fun p hp => ?_,fun p hp => ?_,(z0.trans Cu).upd Ct C2, ?_,kp Z nL nl,kp C0 nP np',kp BY n0 Cf,kp BZ n1 Cg,kp C3 n2 Ch⟩
  ·rcases Ea.mp hp with h | h
   ·exact Cd p h
   ·simp at h;subst h;exact ⟨v0,v1,v2⟩
  ·rcases Ea.mp hp with h | h
   ·exact Ce p h
   ·simp at h;subst h;exact ⟨w0.le (by decide),w1.le (by decide),w2.le (by decide)⟩
  ·rw [ad];simp [prD,tpD]
 ·rintro ρ N0 ⟨ps,o5,rfl,hl,Cd,Ce,z0,nr,nl,np',Cf,Cg,Ch⟩;rw [bE] at hl;walk_at "st";refine ⟨_,_,rfl,ag nl, ?_⟩;refine ⟨by rw [tv];lia, .inr trivial,by rw [tv];simp, ?_⟩
  exact q L0 L1 L2 ps pr N0 ⟨h0,h1,h2,Cd,Ce⟩ (by lia) z0 Ct C2 nr
end
section
open PySem PySem.Spec PyProof.Rows L2.Srt
mutual
theorem tR:∀ (s:Sh) {a b:D},hs s a=true->hs s b=true->kyD a=kyD b->a=b
 | .int, .int i, .int j,_,_,e=>by
  have:Ky.int i=Ky.int j:=e
  cases this;rfl
 | .tup l, .tup ds, .tup es,h,g,e=>by
  have h:hss l ds=true:=by simpa [hs] using h
  have g:hss l es=true:=by simpa [hs] using g
  have e:Ky.tup (toKs (pds ds))=Ky.tup (toKs (pds es)):=by simpa [kyD,pd,toK] using e
  rw [ky_injs l h g (Ky.tup.inj e)]
 | .int, .tup _,_,h,_,_=>by simp [hs] at h
 | .int, .non,_,h,_,_=>by simp [hs] at h
 | .int, .bl _,_,h,_,_=>by simp [hs] at h
 | .int, .str _,_,h,_,_=>by simp [hs] at h
 | .int, .con _,_,h,_,_=>by simp [hs] at h
 | .int, .ref _,_,h,_,_=>by simp [hs] at h
 | .int, .fn _,_,h,_,_=>by simp [hs] at h
 | .int, .int _, .tup _,_,h,_=>by simp [hs] at h
 | .int, .int _, .non,_,h,_=>by simp [hs] at h
 | .int, .int _, .bl _,_,h,_=>by simp [hs] at h
 | .int, .int _, .str _,_,h,_=>by simp [hs] at h
 | .int, .int _, .con _,_,h,_=>by simp [hs] at h
 | .int, .int _, .ref _,_,h,_=>by simp [hs] at h
 | .int, .int _, .fn _,_,h,_=>by simp [hs] at h
 | .tup _, .int _,_,h,_,_=>by simp [hs] at h
 | .tup _, .non,_,h,_,_=>by simp [hs] at h
 | .tup _, .bl _,_,h,_,_=>by simp [hs] at h
 | .tup _, .str _,_,h,_,_=>by simp [hs] at h
 | .tup _, .con _,_,h,_,_=>by simp [hs] at h
 | .tup _, .ref _,_,h,_,_=>by simp [hs] at h
 | .tup _, .fn _,_,h,_,_=>by simp [hs] at h
 | .tup _, .tup _, .int _,_,h,_=>by simp [hs] at h
 | .tup _, .tup _, .non,_,h,_=>by simp [hs] at h
 | .tup _, .tup _, .bl _,_,h,_=>by simp [hs] at h
 | .tup _, .tup _, .str _,_,h,_=>by simp [hs] at h
 | .tup _, .tup _, .con _,_,h,_=>by simp [hs] at h
 | .tup _, .tup _, .ref _,_,h,_=>by simp [hs] at h
 | .tup _, .tup _, .fn _,_,h,_=>by simp [hs] at h
theorem ky_injs:∀ (l:List Sh) {ds es:List D},hss l ds=true->hss l es=true->toKs (pds ds)=toKs (pds es)->ds=es
 | [],[],[],_,_,_=>rfl
 | s::l,d::ds,e::es,h,g,k=>by
   have h:hs s d=true/\hss l ds=true:=by simpa [hss] using h
   have g:hs s e=true/\hss l es=true:=by simpa [hss] using g
   have k:toK (pd d)=toK (pd e)/\toKs (pds ds)=toKs (pds es):=by simpa [pds,toKs] using k
   rw [tR s h.1 g.1 k.1,ky_injs l h.2 g.2 k.2]
 | [],_::_,_,h,_,_=>by simp [hss] at h
 | [],[],_::_,_,h,_=>by simp [hss] at h
 | _::_,[],_,h,_,_=>by simp [hss] at h
 | _::_,_::_,[],_,h,_=>by simp [hss] at h
end
theorem nV {sh:Sh} {xs xs' ys ys':List D} (h:∀ d∈xs,hs sh d=true) (p:ys.Perm xs) (p':ys'.Perm xs') (px:xs.Perm xs') (s:gy ys) (s':gy ys'):ys=ys':=by
 refine List.Perm.eq_of_pairwise (le:=fun a b=>ltK (kyD b) (kyD a)=false) (fun a b j q h1 h2 => ?_) s s' (p.trans (px.trans p'.symm));have j:=h a (p.mem_iff.mp j);have q:=h b (px.mem_iff.mpr (p'.mem_iff.mp q));exact tR sh j q (jI _ _ h2 h1)
end
section
open PySem PySem.Spec PyProof.Rows L2.Srt
variable {T:List FD}
noncomputable abbrev Ev:=Nat×Nat×List Int
noncomputable abbrev En:=(Nat×List Int)×Addr×List Nat
noncomputable def evP (x:Nat×Pr):List Ev := [(x.1,0,x.2.1),(x.1,1,x.2.2.1),(x.1,2,x.2.2.2)]
noncomputable def evL (l:List (Nat×Pr)):List Ev:=l.flatMap evP
noncomputable def bv (c:Nat×List Int):NK := [.inl (c.1:Nat), .inr c.2]
noncomputable def kvE (e:En):NK×D:=(bv e.1, .ref e.2.1)
noncomputable def gN (l:List Nat):List D:=l.map fun i=>D.int (i:Nat)
theorem nn {c d:Nat×List Int} (h:bv c=bv d):c=d:=by
 obtain ⟨a,b⟩:=c;obtain ⟨a',b'⟩:=d;simp [bv] at h;obtain ⟨h1,h2⟩:=h;have:a=a':=by lia
 rw [this,h2]
structure AlI (M0:Mem) (a:Addr) (E:List Ev) (es:List En) (M':Mem):Prop where
 g:Ge M0 M'
 d:M' a=some (.dcn (es.map kvE))
 m:∀ e∈es,M' e.2.1=some (.lst (gN e.2.2))
 fr:∀ e∈es,M0 e.2.1=none/\e.2.1≠a
 nk:(es.map (·.1)).Nodup
 na:(es.map (·.2.1)).Nodup
 nums:∀ e∈es,e.2.2=(E.filter fun v=>decide (v.2=e.1)).map (·.1)
 all:∀ v∈E, ∃ e∈es,e.1=v.2
theorem AlI.ge {j:Mem} {a:Addr} {E:List Ev} {es:List En} {M' M'':Mem} (h:AlI j a E es M') (g:Ge M' M''):AlI j a E es M'':=⟨h.g.trans g,g _ _ h.d,fun e he=>g _ _ (h.m e he),h.fr,h.nk,h.na,h.nums,h.all⟩
theorem wH {es:List En} (nk:(es.map (·.1)).Nodup):∀ {e:En},e∈es->ng (es.map kvE) (bv e.1)=some (.ref e.2.1):=by
 induction es with
 | nil=>intro e h;cases h
 | cons x es ih =>
   intro e h;rw [Ew,Hd] at nk;unfold ng;rw [Ew,FT]
   rcases Eb.mp h with rfl | h
   ·simp [kvE]
   ·have j : ¬ bv x.1=bv e.1:=fun z=>nk.1 (by rw [nn z];exact EA.mpr ⟨e,h,rfl⟩)
    have:=ih nk.2 h;unfold ng at this;simpa [kvE,j] using this
theorem tS {es:List En} {c:Nat×List Int} (h:∀ e∈es,e.1≠c):ng (es.map kvE) (bv c)=none:=by
 unfold ng;rw [Option.map_eq_none_iff,List.find?_eq_none];intro x hx;obtain ⟨e,he,rfl⟩:=EA.mp hx;have : ¬ bv e.1=bv c:=fun z=>h e he (nn z);show ¬ decide (bv e.1=bv c)=true;rw [decide_eq_false this];decide
noncomputable def upE (c:Nat×List Int) (i:Nat) (e:En):En:=if e.1=c then (e.1,e.2.1,e.2.2++[i]) else e
theorem iP {c:Nat×List Int} {i:Nat} {e:En}:(upE c i e).1=e.1:=by unfold upE;split <;> rfl
theorem kr {c:Nat×List Int} {i:Nat} {e:En}:(upE c i e).2.1=e.2.1:=by unfold upE;split <;> rfl
theorem AlI.old {U:Mem} {a:Addr} {E:List Ev} {es:List En} {M':Mem} (h:AlI U a E es M') {e:En} (he:e∈es) (i:Nat):AlI U a (E++[(i,e.1)]) (es.map (upE e.1 i)) (af M' e.2.1 (.lst (gN (e.2.2++[i])))) where
 g:=fun c o F=>by rw [ah (fun z=>by rw [z,(h.fr e he).1] at F;cases F)];exact h.g _ _ F
 d:=by
  rw [ah (Ne.symm (h.fr e he).2),h.d,Ko];congr 2;exact List.map_congr_left fun x _=>by simp [kvE,iP,kr]
 m:=fun x hx=>by
  obtain ⟨y,j,rfl⟩:=EA.mp hx;rw [kr]
  by_cases z:y.2.1=e.2.1
  ·have:y=e:=by
    have G:=h.na;obtain ⟨J,h1⟩:=Gg j;obtain ⟨L,h2⟩:=Gg he;have q:(es.map (·.2.1))[J]? = some y.2.1:=by rw [Eo,h1];rfl
    have O:(es.map (·.2.1))[L]? = some y.2.1:=by rw [Eo,h2,z];rfl
    have:=(MB (o7.mp q).1 G).mp (q.trans O.symm);rw [this,h2] at h1;cases h1;rfl
   subst this;rw [ad];unfold upE;rw [if_pos rfl]
  ·rw [ah z];have : ¬ y.1=e.1:=fun w=>z (by
    have G:=h.nk;obtain ⟨J,h1⟩:=Gg j;obtain ⟨L,h2⟩:=Gg he;have q:(es.map (·.1))[J]? = some y.1:=by rw [Eo,h1];rfl
    have O:(es.map (·.1))[L]? = some y.1:=by rw [Eo,h2,w];rfl
    have:=(MB (o7.mp q).1 G).mp (q.trans O.symm);rw [this,h2] at h1;cases h1;rfl)
   unfold upE;rw [if_neg this];exact h.m y j
 fr:=fun x hx=>by
  obtain ⟨y,j,rfl⟩:=EA.mp hx;rw [kr];exact h.fr y j
 nk:=by
  rw [Ko];have:((·.1) ∘ upE e.1 i:En->_)=(·.1):=by funext x;exact iP
  rw [this];exact h.nk
 na:=by
  rw [Ko];have:((·.2.1) ∘ upE e.1 i:En->_)=(·.2.1):=by funext x;exact kr
  rw [this];exact h.na
 nums:=fun x hx=>by
  obtain ⟨y,j,rfl⟩:=EA.mp hx;rw [iP,EY,FA, <- h.nums y j];unfold upE
  by_cases w:y.1=e.1
  ·rw [if_pos w,FZ (by simp [w])];rfl
  ·rw [if_neg w,FY (by simpa using Ne.symm w)];simp
 all:=fun v B=>by
  rcases Ea.mp B with B | B
  ·obtain ⟨y,j,q⟩:=h.all v B;exact ⟨_,FJ j,by rw [iP];exact q⟩
  ·simp at B;subst B;exact ⟨_,FJ he,iP⟩
theorem AlI.new {G:Mem} {a:Addr} {E:List Ev} {es:List En} {M':Mem} (h:AlI G a E es M') {c:Nat×List Int} (J:∀ e∈es,e.1≠c) (i:Nat) {p:Addr} (q:M' p=none) (L:G a=none) :
 AlI G a (E++[(i,c)]) (es++[(c,p,[i])]) (af (af (af M' p (.lst [])) a (.dcn (np (es.map kvE) (bv c) (.ref p)))) p (.lst [.int (i:Nat)])):=by
 have B:p≠a:=fun z=>by rw [z,h.d] at q;cases q
 have U:G p=none:=oR h.g q;refine ⟨fun x o hx => ?_, ?_,fun e he => ?_,fun e he => ?_, ?_, ?_,fun e he => ?_,fun v j => ?_⟩
 ·have h1:x≠p:=fun z=>by rw [z,U] at hx;cases hx
  have h2:x≠a:=fun z=>by rw [z,L] at hx;cases hx
  rw [ah h1,ah h2,ah h1];exact h.g _ _ hx
 ·rw [ah (Ne.symm B),ad];congr 2;unfold np;rw [tS J];simp [kvE]
 ·rcases Ea.mp he with he | he
  ·have h1:e.2.1≠p:=fun z=>by have:=h.m e he;rw [z,q] at this;cases this
   rw [ah h1,ah (h.fr e he).2,ah h1];exact h.m e he
  ·simp at he;subst he;rw [ad];rfl
 ·rcases Ea.mp he with he | he
  ·exact h.fr e he
  ·simp at he;subst he;exact ⟨U,B⟩
 ·rw [FA,Iu];refine ⟨h.nk,by simp,fun x hx y F => ?_⟩
  simp at F;subst F;obtain ⟨e,he,rfl⟩:=EA.mp hx;exact J e he
 ·rw [FA,Iu];refine ⟨h.na,by simp,fun x hx y F => ?_⟩
  simp at F;subst F;obtain ⟨e,he,rfl⟩:=EA.mp hx;intro z;have:=h.m e he;rw [z,q] at this;cases this
 ·rw [EY,FA]
  rcases Ea.mp he with he | he
  ·rw [<- h.nums e he,FY (by simpa using Ne.symm (J e he))];simp
  ·simp at he;subst he;have:(E.filter fun v=>decide (v.2=c))=[]:=by
    rw [Kn];intro v j;obtain ⟨e,he,O⟩:=h.all v j;simpa using fun z=>J e he (O.trans z)
   rw [this,FZ (by simp)];rfl
 ·rcases Ea.mp j with j | j
  ·obtain ⟨e,he,O⟩:=h.all v j;exact ⟨e,by simp [he],O⟩
  ·simp at j;subst j;exact ⟨_,by simp;exact .inr rfl,rfl⟩
end
section
open PySem PySem.Spec PyProof.Rows L2.Srt
theorem no {a b:K3} (h:a.1 < b.1∨(a.1=b.1/\(a.2.1 < b.2.1∨(a.2.1=b.2.1/\a.2.2 < b.2.2)))):klt a b:=by
 obtain ⟨a1,a2,j⟩:=a;obtain ⟨q,z,B⟩:=b;dsimp only at h;have F:∀ {x y:Int},x < y->ao (.int x) (.int y) = .lt:=fun h=>by simp [ao,h]
 have he:∀ {x y:Int},x=y->ao (.int x) (.int y) = .eq:=fun h=>by simp [ao,h]
 unfold klt k3K ltK;simp only [ao,cmpKs]
 rcases h with h | ⟨rfl,h⟩
 ·simp [h,Ordering.then]
 ·rcases h with h | ⟨rfl,h⟩
  ·simp [h,Ordering.then]
  ·simp [h,Ordering.then]
end
section
open PySem PySem.Spec PyProof.Rows L2.Srt
variable {T:List FD}
noncomputable def prn (ps:List Pr) (r:Nat):Pr:=ps.getD r ([],[],[])
theorem iQ {ps:List Pr} {r:Nat} {p:Pr} (h:ps[r]? = some p):prn ps r=p:=by simp [prn,h]
noncomputable def tl3 (ps:List Pr) (r s:Nat) (l:List Nat):List K3:=(l.filter fun t=>decide (r≠s)&&decide (prt (prn ps r) t=prt (prn ps s) t)).map fun t:Nat=>((r:Int),(s:Int),(t:Int))
noncomputable def tl2 (ps:List Pr) (r:Nat) (l:List Nat):List K3:=l.flatMap fun s=>tl3 ps r s (ED 3)
noncomputable def tl1 (ps:List Pr) (l:List Nat):List K3:=l.flatMap fun r=>tl2 ps r (ED ps.length)
noncomputable def flp (ps:List Pr):List K3:=tl1 ps (ED ps.length)
theorem tl3_mem {ps:List Pr} {r s:Nat} {l:List Nat} {x:K3}:x∈tl3 ps r s l ↔ ∃ t,t∈l/\x=((r:Int),(s:Int),(t:Int))/\r≠s/\prt (prn ps r) t=prt (prn ps s) t:=by
 unfold tl3;rw [EA];constructor
 ·rintro ⟨t,h,rfl⟩;rw [Fm] at h;simp only [g8,decide_eq_true_eq] at h;exact ⟨t,h.1,rfl,h.2⟩
 ·rintro ⟨t,h1,rfl,h2,j⟩;exact ⟨t,Fm.mpr ⟨h1,by simp [h2,j]⟩,rfl⟩
theorem yJ {ps:List Pr} {x:K3}:x∈flp ps ↔ ∃ r s t:Nat,r < ps.length/\s < ps.length/\t < 3/\x=((r:Int),(s:Int),(t:Int))/\r≠s/\prt (prn ps r) t=prt (prn ps s) t:=by
 unfold flp tl1 tl2;simp only [HE,Jm,tl3_mem];constructor
 ·rintro ⟨r,j,s,hs,t,q,h⟩;exact ⟨r,s,t,j,hs,q,h⟩
 ·rintro ⟨r,s,t,j,hs,q,h⟩;exact ⟨r,j,s,hs,t,q,h⟩
theorem range_lt {n:Nat}:(ED n).Pairwise (· < ·):=List.pairwise_lt_range
theorem flp_srt {ps:List Pr}:(flp ps).Pairwise klt:=by
 unfold flp tl1;rw [GD];refine ⟨fun r _ => ?_,range_lt.imp fun {r r'} z x hx y j => ?_⟩
 ·unfold tl2;rw [GD];refine ⟨fun s _ => ?_,range_lt.imp fun {s s'} hs x hx y j => ?_⟩
  ·unfold tl3;rw [FN];have q:(List.filter (fun t=>decide (r≠s)&&decide (prt (prn ps r) t=prt (prn ps s) t)) (ED 3)).Pairwise (· < ·):=range_lt.filter _;refine q.imp ?_;intro t t' B;refine no (.inr ⟨rfl, .inr ⟨rfl, ?_⟩⟩);show (t:Int) < t';lia
  ·obtain ⟨t,_,rfl,_⟩:=tl3_mem.mp hx;obtain ⟨t',_,rfl,_⟩:=tl3_mem.mp j;refine no (.inr ⟨rfl, .inl ?_⟩);show (s:Int) < s';lia
 ·unfold tl2 at hx j;rw [HE] at hx j;obtain ⟨s,_,hx⟩:=hx;obtain ⟨s',_,j⟩:=j;obtain ⟨t,_,rfl,_⟩:=tl3_mem.mp hx;obtain ⟨t',_,rfl,_⟩:=tl3_mem.mp j;refine no (.inl ?_);show (r:Int) < r';lia
theorem Au {ps:List Pr}:(flp ps).Nodup:=flp_srt.imp fun h z=>by subst z;exact yv h
theorem vW {ps:List Pr}:gy ((flp ps).map k3D):=by
 unfold gy;rw [FN];refine flp_srt.imp fun {a b} h => ?_;exact gv _ _ h
theorem jk {ps:List Pr}:(flp ps).length<=3*(ps.length*ps.length):=by
 have j:∀ r s,(tl3 ps r s (ED 3)).length<=3:=fun r s=>by unfold tl3;rw [Eg];exact Fb (GC _ _) (by simp)
 have h2:∀ r (l:List Nat),(tl2 ps r l).length<=3*l.length:=fun r l=>by
  unfold tl2
  induction l with
  | nil=>simp
  | cons x l ih=>rw [GK,r4,FW];have:=j r x;lia
 have h1:∀ l:List Nat,(tl1 ps l).length<=3*(l.length*ps.length):=fun l=>by
  unfold tl1
  induction l with
  | nil=>simp
  | cons x l ih=>rw [GK,r4,FW,Mh];have:=h2 x (ED ps.length);rw [Hr] at this;lia
 have:=h1 (ED ps.length);rw [Hr] at this;exact this
noncomputable def cF (t:Nat) (r:Nat) (l:List Nat):List K3:=(l.filter fun s:Nat => !decide ((r:Int)=(s:Int))).map fun s:Nat=>((r:Int),(s:Int),(t:Int))
noncomputable def cq (t:Nat) (nums l:List Nat):List K3:=l.flatMap fun r=>cF t r nums
noncomputable def cf (es:List En):List K3:=es.flatMap fun e=>cq e.1.1 e.2.2 e.2.2
theorem one3_mem {t r:Nat} {l:List Nat} {x:K3}:x∈cF t r l ↔ ∃ s,s∈l/\x=((r:Int),(s:Int),(t:Int))/\r≠s:=by
 unfold cF;rw [EA];constructor
 ·rintro ⟨s,h,rfl⟩;rw [Fm] at h;have h2 : ¬ ((r:Int)=(s:Int)):=by simpa using h.2
  exact ⟨s,h.1,rfl,fun z=>h2 (by rw [z])⟩
 ·rintro ⟨s,h1,rfl,h2⟩;exact ⟨s,Fm.mpr ⟨h1,by simp;lia⟩,rfl⟩
theorem vX {es:List En} {x:K3}:x∈cf es ↔ ∃ e r s,e∈es/\r∈e.2.2/\s∈e.2.2/\x=((r:Int),(s:Int),(e.1.1:Int))/\r≠s:=by
 unfold cf cq;simp only [HE,one3_mem];constructor
 ·rintro ⟨e,he,r,j,s,hs,h⟩;exact ⟨e,r,s,he,j,hs,h⟩
 ·rintro ⟨e,r,s,he,j,hs,h⟩;exact ⟨e,he,r,j,s,hs,h⟩
theorem ev_mem {ps:List Pr} {i t:Nat} {w:List Int}:(i,t,w)∈evL (enP ps)↔i < ps.length/\t < 3/\prt (prn ps i) t=w:=by
 unfold evL;rw [HE];constructor
 ·rintro ⟨⟨j,p⟩,q,h⟩;have q:=enP_mem.mp q;have z:=(o7.mp q).1;have B:=iQ q;simp only [evP,Eb,Eu,or_false,JX] at h
  rcases h with ⟨rfl,rfl,rfl⟩ | ⟨rfl,rfl,rfl⟩ | ⟨rfl,rfl,rfl⟩ <;> exact ⟨z,by lia,by rw [B];rfl⟩
 ·rintro ⟨h1,h2,rfl⟩;have q:ps[i]? = some (ps[i]'h1):=h7 h1;refine ⟨(i,ps[i]'h1),enP_mem.mpr q, ?_⟩;rw [iQ q]
  match t,h2 with
  | 0,_=>simp [evP,prt]
  | 1,_=>simp [evP,prt]
  | 2,_=>simp [evP,prt]
theorem Bn {ps:List Pr}:(evL (enP ps)).Pairwise fun u v => ¬ (u.1=v.1/\u.2.1=v.2.1):=by
 unfold evL;rw [GD];have he:(enP ps).Pairwise fun x y=>x.1≠y.1:=by
  unfold enP;rw [JH];intro i j hi G q;simp;lia
 refine ⟨fun x _=>by simp [evP],he.imp fun {x y} h u B v F z=>h ?_⟩
 have f:∀ {x:Nat×Pr} {u:Ev},u∈evP x->u.1=x.1:=fun {x u} h=>by
  simp only [evP,Eb,Eu,or_false] at h
  rcases h with rfl | rfl | rfl <;> rfl
 rw [<- f B, <- f F];exact z.1
theorem yK {ps:List Pr} {c:Nat×List Int}:(((evL (enP ps)).filter fun v=>decide (v.2=c)).map (·.1)).Nodup:=by
 show Lx _ _;rw [FN];have:=(Bn (ps:=ps)).filter fun v=>decide (v.2=c);refine HQ ?_ this;intro u v j q h z;have j:=(Fm.mp j).2;have q:=(Fm.mp q).2;simp only [decide_eq_true_eq] at j q;exact h ⟨z,by rw [j,q]⟩
theorem yL {ps:List Pr} {M0 M':Mem} {a:Addr} {es:List En} (h:AlI M0 a (evL (enP ps)) es M'):(cf es).Nodup:=by
 unfold cf;show Lx _ _;rw [GD];refine ⟨fun e he => ?_, ?_⟩
 ·have hn:e.2.2.Nodup:=by rw [h.nums e he];exact yK
  unfold cq;rw [GD];refine ⟨fun r _ => ?_,hn.imp fun {r r'} G x hx y j z => ?_⟩
  ·unfold cF;rw [FN];refine (hn.filter _).imp fun {s s'} hs z=>hs ?_;simp at z;lia
  ·obtain ⟨s,_,rfl,_⟩:=one3_mem.mp hx;obtain ⟨s',_,rfl,_⟩:=one3_mem.mp j;simp at z;exact G (by lia)
 ·have hk:=h.nk;rw [List.Nodup,FN] at hk;refine HQ ?_ hk;intro e e' he L O x hx y j z;subst z;unfold cq at hx j;rw [HE] at hx j;obtain ⟨r,G,hx⟩:=hx;obtain ⟨r',q,j⟩:=j;obtain ⟨s,_,rfl,_⟩:=one3_mem.mp hx;obtain ⟨s',_,ey,_⟩:=one3_mem.mp j;simp only [JX] at ey;have e1:r=r':=by lia
  have J:e.1.1=e'.1.1:=by lia
  rw [h.nums e he,EA] at G;rw [h.nums e' L,EA] at q;obtain ⟨u,U,rfl⟩:=G;obtain ⟨v,Y,Z⟩:=q;rw [Fm,decide_eq_true_eq] at U Y;obtain ⟨ui,ut,uw⟩:=u;obtain ⟨vi,vt,vw⟩:=v;obtain ⟨_,_,h3⟩:=ev_mem.mp U.1;obtain ⟨_,_,h4⟩:=ev_mem.mp Y.1;have B:(ut,uw)=e.1:=U.2;have F:(vt,vw)=e'.1:=Y.2;refine O ?_;rw [<- B, <- F];rw [<- B, <- F] at J;dsimp only at J Z e1;have e3:ui=vi:=by lia
  rw [JX];refine ⟨J, ?_⟩;rw [<- h3, <- h4,J,e3]
theorem jU {ps:List Pr} {J M':Mem} {a:Addr} {es:List En} (h:AlI J a (evL (enP ps)) es M'):(cf es).Perm (flp ps):=by
 refine (List.perm_ext_iff_of_nodup (yL h) Au).mpr fun x => ?_;rw [vX,yJ];have nm:∀ e∈es, ∀ r,r∈e.2.2↔r < ps.length/\e.1.1 < 3/\prt (prn ps r) e.1.1=e.1.2:=fun e he r=>by
  rw [h.nums e he,EA];constructor
  ·rintro ⟨⟨i,t,w⟩,B,rfl⟩;rw [Fm,decide_eq_true_eq] at B;have z:(t,w)=e.1:=B.2;rw [<- z];exact ev_mem.mp B.1
  ·intro q;exact ⟨(r,e.1.1,e.1.2),Fm.mpr ⟨ev_mem.mpr q,by simp⟩,rfl⟩
 constructor
 ·rintro ⟨e,r,s,he,q,hs,rfl,j⟩;obtain ⟨h1,h2,L⟩:=(nm e he r).mp q;obtain ⟨g1,_,g3⟩:=(nm e he s).mp hs;exact ⟨r,s,e.1.1,h1,g1,h2,rfl,j,L.trans g3.symm⟩
 ·rintro ⟨r,s,t,q,hs,O,rfl,j,he⟩;obtain ⟨e,hm,z⟩:=h.all (r,t,prt (prn ps r) t) (ev_mem.mpr ⟨q,O,rfl⟩);have F:e.1.1=t:=by rw [z]
  have G:e.1.2=prt (prn ps r) t:=by rw [z]
  refine ⟨e,r,s,hm,(nm e hm r).mpr ⟨q,by lia,by rw [F,G]⟩,(nm e hm s).mpr ⟨hs,by lia,by rw [F,G,he]⟩,by rw [F],j⟩
end
section
open PySem PySem.Spec PyProof.Rows L2.Srt
variable {T:List FD}
noncomputable def jl (s:Stmt):FD:=⟨"flips",s,["scheme", "alike", "at", "product", "side", "part"],1,
 (.cons (.asg (.name 1) .dnewN)
 (.cons (.for (.tup (.cons (.name 2) (.cons (.name 3) .nil))) (.enum (.ix (.var 0) (.int 3))) (.cons (.for (.tup (.cons (.name 4) (.cons (.name 5) .nil))) (.enum (.var 3)) (.cons (.drop (.meth .append (.sdef (.var 1) (.tup (.cons (.var 4) (.cons (.var 5) .nil))) (.lst .nil)) (.var 2)))
 .nil))
 .nil))
 (.cons (.frzN 1 (.ret (.blt .sorted (.cons (.comp [none,none,none,none,none] ["side", "part", "numbers", "r", "s"] (.more (.itemsN (.var 1)) (.tup (.cons (.tup (.cons (.name 0) (.cons (.name 1) .nil))) (.cons (.name 2) .nil))) .nil (.more (.seq (.var 2)) (.name 3) .nil (.last (.seq (.var 2)) (.name 4) (.cons (.cmp .ne (.var 3) (.var 4)) .nil) (.tup (.cons (.var 3) (.cons (.var 4) (.cons (.var 0) .nil)))))))) .nil))))
 .nil)))⟩
noncomputable def evD (v:Ev):D := .tup [.int (v.2.1:Nat), .tup (v.2.2.map .int)]
theorem yM {c:Nat×List Int} (h:c.2≠[]):okK (bv c)=true:=by
 simp only [okK,bv,Gb,jc,cn h];rfl
theorem vY {l:List (Nat×Pr)} {x:Nat×Pr}:evL (l++[x])=evL l++evP x:=by simp [evL]
theorem fL:∀ {l:List (Nat×Pr)},(evL l).length=3*l.length
 | [] => rfl
 | x::l=>by
   have:evL (x::l)=evP x++evL l:=by simp [evL]
   rw [this,r4,fL];simp [evP];lia
theorem vZ {f:Nat} {s:Stmt} (hf:T[f]? = some (jl s)) {k:Nat} (hk : 1<=k) {x y z:D} {p0:Addr} {ps:List Pr} (C8:∀ p∈ps,NeP p) (hl:ps.length<=1000) {M:Mem} {Q:QD} (h0:M p0=some (.lst (ps.map prD)))
 (q:∀ pr M',Ge M M'->M pr=none->M' pr=some (.lst ((flp ps).map k3D))->Q (.ref pr) M'):phi T k f [.tup [x,y,z, .ref p0]] M Q:=by
 refine ay (by lia) hf rfl (ρ := [some _,none,none,none,none,none]) rfl ?_
 unfold jl;walk_at "st";intro a ha;have BY:AlI M a [] [] (af M a (.dcn [])):=⟨Ge.new ha,ad,fun e h=>(by cases h),fun e h=>(by cases h),L9,L9,fun e h=>(by cases h),fun e h=>(by cases h)⟩
 generalize af M a (.dcn [])=M0 at BY;walk_at "st";refine ⟨_,rfl,_,ag (BY.g _ _ h0), ?_⟩;rw [gK];refine ba (f:=enD) (ys:=enP ps) (I:=fun l ρ M' => ∃ (o2 L B Z:Option D) (es:List En), ρ = [some (.tup [x,y,z, .ref p0]),some (.ref a),o2,L,B,Z]/\AlI M a (evL l) es M'/\es.length<=(evL l).length) rfl
  ⟨none,none,none,none,[],rfl,BY,Gc _⟩ ?_ ?_ ?_
 ·rintro l ρ M' ⟨_,_,_,_,es,rfl,h,_⟩;exact ag (h.g _ _ h0)
 ·rintro l u r ρ M1 e ⟨o2,L,B,Z,es,rfl,G,O⟩;obtain ⟨e1,e2⟩:=eU e;have hu:NeP u.2:=C8 u.2 (by rw [e1];simp)
  have C9:=aO e;rw [jh] at C9;refine ⟨_,rfl,fun F hF => ?_⟩;walk_at "st";have en:dl [D.tup (u.2.1.map .int), .tup (u.2.2.1.map .int), .tup (u.2.2.2.map .int)]=(evP u).map evD:=rfl;refine ⟨_,rfl, ?_⟩;rw [en];refine ba (f:=evD) (ys:=evP u) (I:=fun d ρ M' => ∃ (B Z:Option D) (es:List En), ρ = [some (.tup [x,y,z, .ref p0]),some (.ref a),some (.int (u.1:Nat)),some (prD u.2),B,Z]/\AlI M a (evL l++d) es M'/\es.length<=(evL l++d).length) rfl
   ⟨B,Z,es,rfl,by rw [F8];exact G,by rw [F8];exact O⟩ (fun _ _ _ _=>by first | rfl | trivial) ?_ ?_
  ·rintro d v r' ρ M2 ev ⟨B,Z,es,rfl,G,O⟩;have hv:v∈evP u:=by rw [ev];simp
   have C2:v.1=u.1/\v.2.2≠[]:=by
    simp only [evP,Eb,Eu,or_false] at hv
    rcases hv with rfl | rfl | rfl
    ·exact ⟨rfl,hu.1⟩
    ·exact ⟨rfl,hu.2.1⟩
    ·exact ⟨rfl,hu.2.2⟩
   have Ce:d.length < 3:=by have:=aO ev;simpa [evP] using this
   have Cf:es.length<=3003:=by
    rw [r4,fL] at O;lia
   refine ⟨_,rfl,fun F2 C3 => ?_⟩;walk_at "st";refine ⟨⟨_,G.d⟩,by rw [tv];lia,by rw [tv];lia,fun pz U => ?_⟩
   have J:=G.ge (Ge.new (o := .lst []) U);have C4:v=(u.1,v.2):=by rw [<- C2.1]
   refine ⟨_,J.d,bv v.2,rfl,yM C2.2,by rw [Eg,tv];lia,fun w hw => ?_,fun hn => ?_⟩
   ·by_cases hx:∃ e∈es,e.1=v.2
    ·obtain ⟨en,Y,ek⟩:=hx;rw [<- ek,wH J.nk Y] at hw
     cases hw
     have hm:=J.m en Y;have Cg:en.2.2.length<=4000:=by
      rw [J.nums en Y,Eg];refine Fb (GC _ _) ?_;rw [r4,fL];lia
     refine ⟨⟨_,rfl,_,hm⟩, ?_⟩;refine ⟨_,_,_,rfl,rfl,hm,by simp [gN,tv];lia, ?_⟩
     have BZ:=J.old Y u.1;have e4:gN en.2.2++[D.int (u.1:Nat)]=gN (en.2.2++[u.1]):=by simp [gN]
     rw [e4];refine C3 _ _ ⟨_,_,es.map (upE en.1 u.1),rfl, ?_, ?_⟩
     ·have : [v]=[(u.1,en.1)]:=by rw [ek, <- C4]
      rw [<- Ei,this];exact BZ
     ·rw [<- Ei,Eg,r4];exact Fb O (Nat.le_add_right _ _)
    ·have C0:∀ e∈es,e.1≠v.2:=fun e he z=>hx ⟨e,he,z⟩;rw [tS C0] at hw;cases hw
   ·have C0:∀ e∈es,e.1≠v.2:=fun e he z=>by rw [<- z,wH J.nk he] at hn;cases hn
    have Ca:pz≠a:=fun z=>by rw [z,G.d] at U;cases U
    have hm:af (af M2 pz (.lst [])) a (.dcn (np (es.map kvE) (bv v.2) (.ref pz))) pz=some (.lst []):=by rw [ah Ca,ad]
    refine ⟨⟨_,hm⟩, ?_⟩;refine ⟨_,_,_,rfl,rfl,hm,by rw [tv];simp, ?_⟩
    have BZ:=G.new C0 u.1 U ha;refine C3 _ _ ⟨_,_,es++[(v.2,pz,[u.1])],rfl, ?_, ?_⟩
    ·have : [v]=[(u.1,v.2)]:=by rw [<- C4]
     rw [<- Ei,this];exact BZ
    ·rw [<- Ei,r4,r4];exact Nat.add_le_add O (Ec 1)
  ·rintro ρ M2 ⟨B,Z,es,rfl,G,O⟩;rw [<- vY] at G O;exact hF _ _ ⟨_,_,_,_,es,rfl,G,O⟩
 rintro ρ M1 ⟨o2,L,B,Z,es,rfl,G,O⟩;walk_at "st";refine ⟨a,_,rfl,G.d, ?_⟩;have g2:Ge M (af M1 a (.fdn (es.map kvE))):=fun c o ec=>by rw [ah (fun z=>by rw [z,ha] at ec;cases ec)];exact G.g _ _ ec
 have md:af M1 a (.fdn (es.map kvE)) a=some (.fdn (es.map kvE)):=ad;have mm:∀ e∈es,af M1 a (.fdn (es.map kvE)) e.2.1=some (.lst (gN e.2.2)):=fun e he=>by rw [ah (G.fr e he).2];exact G.m e he
 generalize af M1 a (.fdn (es.map kvE))=M2 at g2 md mm;have lE:(evL (enP ps)).length<=3000:=by rw [fL,jh];lia
 have Ch:∀ e∈es,e.2.2.length<=3000:=fun e he=>by
  rw [G.nums e he,Eg];exact Fb (GC _ _) lE
 have Cd:(cf es).length<=3*(ps.length*ps.length):=by rw [(jU G).length_eq];exact jk
 have Ci:ps.length*ps.length<=1000*1000:=Le hl hl;walk_at "wp";refine ⟨_,md, ?_⟩;rw [Ko];refine aZ (f:=fun e:En=>kvN (kvE e)) (ys:=es) (I:=fun l ρ M' acc=>(∃ o0 o1 o2 L B, ρ = [o0,o1,o2,L,B])/\M'=M2/\acc=(cf l).map k3D) rfl ⟨⟨_,_,_,_,_,rfl⟩,rfl,rfl⟩ (fun _ _ _ _ _=>trivial) ?_ ?_
 ·rintro l e r ρ M3 acc eS ⟨⟨o0,o1,o2,L,B,rfl⟩,rfl,rfl⟩;have he:e∈es:=by rw [eS];simp
  have L1:(cf l).length+(cq e.1.1 e.2.2 e.2.2).length<=(cf es).length:=by
   rw [eS];unfold cf;rw [FK,GK];simp only [r4];lia
  refine ⟨_,rfl,fun N1 Cb => ?_⟩;walk_at "wp";refine ⟨_,ag (mm e he), ?_⟩;refine aZ (f:=fun i:Nat=>D.int (i:Nat)) (ys:=e.2.2) (I:=fun l' ρ M' acc=>(∃ L B, ρ = [some (.int (e.1.1:Nat)),some (.tup (e.1.2.map .int)),some (.ref e.2.1),L,B])/\M'=M3/\acc=(cf l++cq e.1.1 e.2.2 l').map k3D) rfl ⟨⟨_,_,rfl⟩,rfl,by simp [cq]⟩ (fun _ _ _ _ h=>by rw [h.2.1];exact ag (mm e he)) ?_ ?_
  ·rintro l' i r' ρ M4 acc e' ⟨⟨L,B,rfl⟩,rfl,rfl⟩;have L2:(cq e.1.1 e.2.2 l').length+(cF e.1.1 i e.2.2).length<=(cq e.1.1 e.2.2 e.2.2).length:=by
    (conv=>rhs;unfold cq;rw [e'])
    unfold cq;rw [FK,GK];simp only [r4];rw [<- e'];lia
   refine ⟨_,rfl,fun N2 Cc => ?_⟩;walk_at "wp";refine ⟨_,ag (mm e he), ?_⟩;refine aZ (f:=fun i:Nat=>D.int (i:Nat)) (ys:=e.2.2) (I:=fun l'' ρ M' acc=>(∃ B, ρ = [some (.int (e.1.1:Nat)),some (.tup (e.1.2.map .int)),some (.ref e.2.1),some (.int (i:Nat)),B])/\M'=M4/\acc=(cf l++(cq e.1.1 e.2.2 l'++cF e.1.1 i l'')).map k3D) rfl ⟨⟨_,rfl⟩,rfl,by simp [cF]⟩ (fun _ _ _ _ h=>by rw [h.2.1];exact ag (mm e he)) ?_ ?_
   ·rintro l'' j r'' ρ M5 acc e'' ⟨⟨B,rfl⟩,rfl,rfl⟩;have L3:(cF e.1.1 i l'').length<=(cF e.1.1 i e.2.2).length:=by
     (conv=>rhs;rw [e''])
     unfold cF;rw [EY,FA,r4];lia
    refine ⟨_,rfl,fun N3 C5 => ?_⟩;walk_at "wp"
    by_cases hz:((i:Nat):Int)=((j:Nat):Int)
    ·rw [if_neg (by simp [hz])]
     refine C5 _ _ _ ⟨⟨_,rfl⟩,rfl, ?_⟩;unfold cF;rw [EY,FY (by simp [hz])];simp
    ·rw [if_pos (by simpa using hz)]
     refine ⟨by rw [tv];lia,by rw [Eg,tv,r4,r4];lia,C5 _ _ _ ⟨⟨_,rfl⟩,rfl, ?_⟩⟩
     unfold cF;rw [EY,FZ (by simpa using hz)];simp [k3D]
   ·rintro ρ M5 acc ⟨⟨B,rfl⟩,rfl,rfl⟩;refine Cc _ _ _ ⟨⟨_,_,rfl⟩,rfl, ?_⟩;unfold cq;rw [FK];simp
  ·rintro ρ M4 acc ⟨⟨L,B,rfl⟩,rfl,rfl⟩;refine Cb _ _ _ ⟨⟨_,_,_,_,_,rfl⟩,rfl, ?_⟩;unfold cf;rw [FK];simp
 ·rintro ρ M3 acc ⟨⟨o0,o1,o2,L,B,rfl⟩,rfl,rfl⟩ pc hpc;have g3:=g2.trans (Ge.new (o := .lst ((cf es).map k3D)) hpc);refine ⟨_,_, .tup [.int, .int, .int],rfl,ag ad,rfl,fun d hd => ?_,fun pr ys C6 C1 C7 => ?_⟩
  ·obtain ⟨t,_,rfl⟩:=EA.mp hd;rfl
  ·have hy:ys=(flp ps).map k3D:=nV (sh := .tup [.int, .int, .int]) (fun d hd=>by
    obtain ⟨t,_,rfl⟩:=EA.mp hd;rfl) C1 (JD _) ((jU G).map k3D) C7 vW
   subst hy;exact q pr _ (g3.trans (Ge.new C6)) (oR g3 C6) ad
noncomputable def gO (s:Stmt):FD:=⟨"_law_flips",s,["_law_scheme", "_law_found", "_law_r", "_law_s", "_law_side"],1,
 (.cons (.asg (.name 1) (.lst .nil))
 (.cons (.for (.name 2) (.rng1 (.blt .len (.cons (.ix (.var 0) (.int 3)) .nil))) (.cons (.for (.name 3) (.rng1 (.blt .len (.cons (.ix (.var 0) (.int 3)) .nil))) (.cons (.for (.name 4) (.rng1 (.int 3)) (.cons (.ite (.and (.cons (.cmp .ne (.var 2) (.var 3)) (.cons (.cmp .eq (.ix (.ix (.ix (.var 0) (.int 3)) (.var 2)) (.var 4)) (.ix (.ix (.ix (.var 0) (.int 3)) (.var 3)) (.var 4))) .nil))) (.cons (.drop (.meth .append (.var 1) (.tup (.cons (.var 2) (.cons (.var 3) (.cons (.var 4) .nil))))))
 .nil) .nil)
 .nil))
 .nil))
 .nil))
 (.cons (.ret (.var 1))
 .nil)))⟩
theorem tT {f:Nat} {s:Stmt} (hf:T[f]? = some (gO s)) {k:Nat} (hk : 1<=k) {x y z:D} {O:Addr} {ps:List Pr} (hl:ps.length<=1000) {M:Mem} {Q:QD} (h0:M O=some (.lst (ps.map prD)))
 (q:∀ pr M',Ge M M'->M pr=none->M' pr=some (.lst ((flp ps).map k3D))->Q (.ref pr) M'):phi T k f [.tup [x,y,z, .ref O]] M Q:=by
 refine ay (by lia) hf rfl (ρ := [some _,none,none,none,none]) rfl ?_
 unfold gO;walk_at "st";refine ⟨by rw [tv];lia,fun pf G => ?_⟩
 have U:=Ge.new (o := .lst []) G;have m0:af M pf (.lst []) pf=some (.lst ((tl1 ps []).map k3D)):=ad;generalize af M pf (.lst [])=M0 at U m0;have C0:=jk (ps:=ps);have C1:ps.length*ps.length<=1000*1000:=Le hl hl;walk_at "st";refine ⟨_,rfl,fG (U _ _ h0) ?_⟩;rw [Eg];refine ⟨_,rfl,by lia,by lia, ?_⟩
 rw [Fh,cc];refine ba (f:=fun i:Nat=>D.int (i:Nat)) (ys:=ED ps.length) (I:=fun l ρ M' => ∃ Y B j:Option D, ρ = [some (.tup [x,y,z, .ref O]),some (.ref pf),Y,B,j]/\Ge M M'/\M' pf=some (.lst ((tl1 ps l).map k3D))) rfl
  ⟨none,none,none,rfl,U,m0⟩ (fun _ _ _ _=>trivial) ?_ ?_
 ·rintro l r lr ρ M1 e ⟨Y,B,j,rfl,g1,Z⟩;obtain ⟨hi,hr⟩:=dA e;have L1:(tl1 ps l).length+(tl2 ps r (ED ps.length)).length<=(flp ps).length:=by
   unfold flp;(conv=>rhs;rw [e]);unfold tl1;rw [FK,GK];simp only [r4];lia
  have hp:ps[r]? = some (ps[r]'hr):=h7 hr;refine ⟨_,rfl,fun F hF => ?_⟩;walk_at "st";refine ⟨_,rfl,fG (g1 _ _ h0) ?_⟩;rw [Eg];refine ⟨_,rfl,by lia,by lia, ?_⟩
  rw [Fh,cc];refine ba (f:=fun i:Nat=>D.int (i:Nat)) (ys:=ED ps.length) (I:=fun l' ρ M' => ∃ B j:Option D, ρ = [some (.tup [x,y,z, .ref O]),some (.ref pf),some (.int (r:Nat)),B,j]/\Ge M M'/\M' pf=some (.lst ((tl1 ps l++tl2 ps r l').map k3D))) rfl
   ⟨B,j,rfl,g1,by simpa [tl2] using Z⟩ (fun _ _ _ _=>trivial) ?_ ?_
  ·rintro l' s' lr' ρ M2 e' ⟨B,j,rfl,g2,m2⟩;obtain ⟨C2,hs⟩:=dA e';have L2:(tl2 ps r l').length+(tl3 ps r s' (ED 3)).length<=(tl2 ps r (ED ps.length)).length:=by
    (conv=>rhs;rw [e'])
    unfold tl2;rw [FK,GK];simp only [r4];lia
   have hq:ps[s']? = some (ps[s']'hs):=h7 hs;refine ⟨_,rfl,fun F2 BY => ?_⟩;walk_at "st";refine ⟨by decide,by decide, ?_⟩
   have er:b8 0 (3:Int).toNat=(ED 3).map fun i:Nat=>D.int (i:Nat):=by rw [cc];rfl
   rw [er];refine ba (f:=fun i:Nat=>D.int (i:Nat)) (ys:=ED 3) (I:=fun l'' ρ M' => ∃ j:Option D, ρ = [some (.tup [x,y,z, .ref O]),some (.ref pf),some (.int (r:Nat)),some (.int (s':Nat)),j]/\Ge M M'/\M' pf=some (.lst ((tl1 ps l++(tl2 ps r l'++tl3 ps r s' l'')).map k3D))) rfl
    ⟨j,rfl,g2,by simpa [tl3] using m2⟩ (fun _ _ _ _=>trivial) ?_ ?_
   ·rintro l'' t lr'' ρ M3 e'' ⟨j,rfl,g3,L⟩;obtain ⟨BZ,ht⟩:=dA e'';have L3:(tl3 ps r s' l'').length<=(tl3 ps r s' (ED 3)).length:=by
     (conv=>rhs;rw [e''])
     unfold tl3;rw [EY,FA,r4];lia
    refine ⟨_,rfl,fun F3 J => ?_⟩;walk_at "st";have skip:(decide (r≠s')&&decide (prt (prn ps r) t=prt (prn ps s') t))=false->tl3 ps r s' (l''++[t])=tl3 ps r s' l'':=fun hz=>by
     unfold tl3;rw [EY,FY (by rw [hz];decide)];simp
    by_cases hz:r=s'
    ·rw [if_neg (by simp [hz])]
     walk_at "wp";refine J _ _ ⟨_,rfl,g3, ?_⟩;rw [skip (by simp [hz])];exact L
    ·rw [if_pos (by simp;lia)]
     refine ⟨_,rfl,aK (g3 _ _ h0) (d:=prD (ps[r]'hr)) (b4 (by rw [Eo,hp];rfl)) ?_⟩
     refine ⟨_,_,rfl,b4 (tP ht), ?_⟩;refine ⟨_,rfl,aK (g3 _ _ h0) (d:=prD (ps[s']'hs)) (b4 (by rw [Eo,hq];rfl)) ?_⟩
     refine ⟨_,_,rfl,b4 (tP ht), ?_⟩;refine cW ⟨_,rfl, ?_⟩;have e1:=iQ hp;have e2:=iQ hq
     by_cases hw:prt (ps[r]'hr) t=prt (ps[s']'hs) t
     ·rw [if_pos (by simpa using hw)]
      walk_at "st";refine ⟨⟨_,L⟩,by rw [tv];lia,pf,_,_,rfl,rfl,L,by rw [Eg,tv,r4,r4];lia, ?_⟩
      refine J _ _ ⟨_,rfl,fun c o ec => ?_, ?_⟩
      ·rw [ah (fun z=>by rw [z,G] at ec;cases ec)];exact g3 _ _ ec
      ·rw [ad];unfold tl3;rw [EY,FZ (by rw [e1,e2];simp [hz,hw])];simp [k3D]
     ·rw [if_neg (by simpa using hw)]
      walk_at "wp";refine J _ _ ⟨_,rfl,g3, ?_⟩;rw [skip (by rw [e1,e2];simp [hw])];exact L
   ·rintro ρ M3 ⟨j,rfl,g3,L⟩;refine BY _ _ ⟨_,_,rfl,g3, ?_⟩;rw [L];unfold tl2;rw [FK];simp
  ·rintro ρ M2 ⟨B,j,rfl,g2,m2⟩;refine hF _ _ ⟨_,_,_,rfl,g2, ?_⟩;rw [m2];unfold tl1;rw [FK];simp
 ·rintro ρ M1 ⟨Y,B,j,rfl,g1,Z⟩;walk_at "st";exact q pf M1 g1 G Z
end
section
variable {T:List FD}
noncomputable def dQ (y:Str) (s:Stmt) (f:Nat):FD:=⟨"_law_same",s,["_law_found",y],2,
 (.cons (.ite (.tru (.isin2 (.var 1) "list" "tuple")) (.cons (.ite (.or (.cons (.cmp .ne (.isin (.var 1) "list") (.isin (.var 0) "list")) (.cons (.cmp .ne (.isin (.var 1) "tuple") (.isin (.var 0) "tuple")) .nil))) (.cons (.ret (.bl false))
 .nil) .nil)
 (.cons (.ret (.and (.cons (.cmp .eq (.blt .len (.cons (.var 0) .nil)) (.blt .len (.cons (.var 1) .nil))) (.cons (.blt .all (.cons (.comp [none,(some 0),(some 1)] ["_law_k", "_law_found",y] (.last (.rng1 (.blt .len (.cons (.var 1) .nil))) (.name 0) .nil (.call f (.cons (.ix (.var 1) (.var 0)) (.cons (.ix (.var 2) (.var 0)) .nil))))) .nil)) .nil))))
 .nil)) .nil)
 (.cons (.ret (.and (.cons (.isin (.var 0) "int") (.cons (.not (.isin (.var 0) "bool")) (.cons (.cmp .eq (.var 0) (.var 1)) .nil)))))
 .nil))⟩
theorem wJ {M:Mem} {x d:D} {ds:List D} {i:Int} {Q:QD} (h:aq M x=some ds) (e:atI ds i=some d) (q:Q d M):wIx x (.int i) M Q:=by
 cases x with
 | ref a =>
   simp only [aq] at h
   split at h
   ·next j=>cases h;exact aK j e q
   ·cases h
 | tup es=>cases h;exact ⟨i,d,rfl,e,q⟩
 | con es=>cases h;exact ⟨i,d,rfl,e,q⟩
 | _=>cases h
noncomputable def Sm (M:Mem):Nat->D->D->Prop
 | _, .int i, .int j=>i=j
 | n+1, .tup ds, .tup es=>ds.length<=100000/\ds.length=es.length /\ ∀ (k:Nat) d e,ds[k]? = some d->es[k]? = some e->Sm M n d e
 | n+1, .ref a, .ref b => ∃ ds es,M a=some (.lst ds)/\M b=some (.lst es)/\ds.length<=100000/\ds.length=es.length /\ ∀ (k:Nat) d e,ds[k]? = some d->es[k]? = some e->Sm M n d e
 | _,_,_=>False
theorem Sm.ge {M M':Mem} (g:Ge M M'):∀ {n:Nat} {x y:D},Sm M n x y->Sm M' n x y:=by
 intro n
 induction n with
 | zero=>intro x y h;cases x <;> cases y <;> first | exact h.elim | exact h
 | succ n ih =>
   intro x y h
   cases x <;> cases y <;> first
    | exact h.elim
    | (obtain ⟨ds,es,j,B,z,l,q⟩:=h;exact ⟨ds,es,g _ _ j,g _ _ B,z,l,fun k d e h1 h2=>ih (q k d e h1 h2)⟩)
    | (obtain ⟨z,l,q⟩:=h;exact ⟨z,l,fun k d e h1 h2=>ih (q k d e h1 h2)⟩)
    | exact h
theorem Sm.int {M:Mem} {n:Nat} {i:Int}:Sm M n (.int i) (.int i):=by unfold Sm;cases n <;> rfl
section
variable {f:Nat} {y:Str} {s:Stmt}
theorem nt (hf:T[f]? = some (dQ y s f)) {n:Nat} (j : 1<=n) {x:Int} {M:Mem} {Q:QD} (q:Q (.bl true) M):phi T n f [.int x, .int x] M Q:=by
 refine ay (by lia) hf rfl (ρ := [some _,some _]) rfl ?_
 unfold dQ;walk_at "st";refine ⟨"int",rfl,false,rfl, ?_⟩;rw [if_neg (by decide)]
 walk_at "st";refine ⟨"int",rfl, ?_⟩;rw [if_pos (by decide)]
 refine ⟨"int",rfl, ?_⟩;rw [if_pos (by decide),beq_self_eq_true]
 exact q
theorem jV {n m:Nat} (ih:∀ {x y:D} {M:Mem} {Q:QD},Sm M n x y->(∀ M',Ge M M'->Q (.bl true) M')->phi T m f [x,y] M Q) {u v:D} {ds es:List D} {M:Mem} {N:NC} (F:aq M u=some ds) (G:aq M v=some es) (z:ds.length<=100000) (l:ds.length=es.length)
 (h:∀ (k:Nat) d e,ds[k]? = some d->es[k]? = some e->Sm M n d e) (q:∀ ρ M',Ge M M'->N ρ M' (es.map fun _ => .bl true)) :
 aY (bn 0) (bM (wAr (phi T m f) (aF (wOp wIx (bI 1) (bI 0)) (aF (wOp wIx (bI 2) (bI 0)) bm)))) (fun _=>True) N (b8 0 (es.length:Int).toNat) [none,some u,some v] M []:=by
 refine aZ (f:=fun i=>D.int (i:Nat)) (I:=fun l ρ M' acc=>(∃ o0, ρ = [o0,some u,some v])/\Ge M M'/\acc=l.map fun _ => .bl true) cc ⟨⟨_,rfl⟩,Ge.refl,rfl⟩ (fun _ _ _ _ _=>trivial) ?_ ?_
 ·rintro l' i r ρ M1 acc e ⟨⟨o0,rfl⟩,g,rfl⟩;refine ⟨_,rfl,fun N' j => ?_⟩;have B:=aO e;rw [Hr] at B;have hi:i < es.length:=by
   have:i∈ED (es.length:Int).toNat:=by rw [e];simp
   have:=Jm.mp this;lia
  walk_at "wp";have h1:ds[i]? = some ds[i]:=h7 (by lia)
  have h2:es[i]? = some es[i]:=h7 hi;refine wJ (oP F g) (b4 h1) (wJ (oP G g) (b4 h2) (ih ((h i _ _ h1 h2).ge g) fun M2 g2 => ?_));refine ⟨by rw [Eg,tv];lia,j _ _ _ ⟨⟨_,rfl⟩,g.trans g2,by simp⟩⟩
 ·rintro ρ M1 acc ⟨⟨o0,rfl⟩,g,rfl⟩;have e:(ED (es.length:Int).toNat).map (fun _=>D.bl true)=es.map fun _ => .bl true:=by
   rw [Ny,Ny];simp
  rw [e];exact q _ M1 g
theorem nv:∀ es:List D,az gr (es.map fun _ => .bl true)=some (es.map fun _=>true)
 | [] => rfl
 | e::es=>by rw [Ew,Ew];simp only [az,gr,nv es];rfl
theorem ny {es:List D} {p:Addr} {M:Mem} {Q:QD} (q:Q (.bl true) (af M p (.lst (es.map fun _ => .bl true)))):q9 [.ref p] (af M p (.lst (es.map fun _ => .bl true))) Q:=by
 refine ⟨_,_,es.map (fun _=>true),rfl,ag ad,nv es, ?_⟩;rw [show ((es.map fun _=>true).all id)=true by simp]
 exact q
theorem yN (hf:T[f]? = some (dQ y s f)):∀ {n m:Nat},n+1<=m -> ∀ {u v:D} {M:Mem} {Q:QD},Sm M n u v->(∀ M',Ge M M'->Q (.bl true) M')->phi T m f [u,v] M Q:=by
 intro n
 induction n with
 | zero =>
   intro m hm u v M Q h q
   cases u <;> cases v <;> first
    | exact h.elim
    | (have e:=h;unfold Sm at e;subst e;exact nt hf (by lia) (q _ Ge.refl))
 | succ n ih =>
   intro m hm u v M Q h q
   cases u <;> cases v <;> first
    | exact h.elim
    | (have e:=h;unfold Sm at e;subst e;exact nt hf (by lia) (q _ Ge.refl))
    | skip
   case tup.tup ds es =>
    obtain ⟨z,l,h⟩:=h;refine ay (by lia) hf rfl (ρ := [some _,some _]) rfl ?_
    unfold dQ;walk_at "st";refine ⟨"tuple",rfl,true,rfl, ?_⟩;rw [if_pos rfl];walk_at "st";refine ⟨"tuple",rfl, "tuple",rfl,_,_,rfl,rfl,false,rfl, ?_⟩;rw [if_neg (by decide)]
    refine ⟨"tuple",rfl, "tuple",rfl,_,_,rfl,rfl,false,rfl, ?_⟩;rw [if_neg (by decide)]
    walk_at "st";rw [if_pos (by simp [l])]
    refine ⟨by lia,by lia, ?_⟩
    exact jV (ih (m:=m - 1) (by lia)) rfl rfl z l h fun ρ M' g p hp=>ny (q _ (g.trans (Ge.new hp)))
   case ref.ref a b =>
    obtain ⟨ds,es,B,j,z,l,h⟩:=h;refine ay (by lia) hf rfl (ρ := [some _,some _]) rfl ?_
    unfold dQ;have t1:tyN M (.ref a)=some "list" := by simp [tyN,B]
    have F:tyN M (.ref b)=some "list" := by simp [tyN,j]
    walk_at "st";refine ⟨"list",F,true,rfl, ?_⟩;rw [if_pos rfl];walk_at "st";refine ⟨"list",F, "list",t1,_,_,rfl,rfl,false,rfl, ?_⟩;rw [if_neg (by decide)]
    refine ⟨"list",F, "list",t1,_,_,rfl,rfl,false,rfl, ?_⟩;rw [if_neg (by decide)]
    walk_at "st";refine jd (ag B) (jd (ag j) ?_);walk_at "wp";rw [if_pos (by simp [l])]
    refine jd (ag j) ?_;refine ⟨_,rfl,by lia,by lia, ?_⟩
    exact jV (ih (m:=m - 1) (by lia)) (ag B) (ag j) z l h fun ρ M' g p hp=>ny (q _ (g.trans (Ge.new hp)))
end
end
section
open PySem PySem.Spec PyProof.Rows L2.Srt
theorem Av:∀ ns:List Int,FQ (ns.map .int) (ns.map .int)=true
 | [] => rfl
 | n::ns=>by simp [FQ,EW,Av ns]
theorem Aw:∀ ps:List Pr,FQ (ps.map eg) (ps.map eg)=true
 | [] => rfl
 | p::ps=>by simp [FQ,EW,Aw ps,eg,Av]
theorem wK {M:Mem} {a:Addr} {ps:List Pr} (h:M a=some (.lst (ps.map prD))):rb 16 M (.ref a)=some (.list (ps.map eg)):=by rw [Ap h,tK];rfl
theorem Bo {M:Mem} {a b:Addr} {ps:List Pr} {Q:QD} (j:M a=some (.lst (ps.map prD))) (z:M b=some (.lst (ps.map prD))) (q:Q (.bl false) M):wNe (.ref a) (.ref b) M Q:=by
 refine ⟨_,_,wK j,wK z, ?_⟩;rw [show EW (.list (ps.map eg)) (.list (ps.map eg))=true by simp [EW,Aw]]
 exact q
end
section
namespace K35
noncomputable def aj (i:Nat):Stmt:=PySem.Challenge.pw_fewtimes_k35_flips.main.body.getD i (.Pass ⟨0,0,0,0⟩)
noncomputable def d0:FD:=dv (aj 1)
noncomputable def d1:FD:=fJ (aj 3)
noncomputable def d2:FD:=dw (aj 4)
noncomputable def d3:FD:=dO (aj 5)
noncomputable def d4:FD:=gJ (aj 6) 1 2
noncomputable def d5:FD:=fK (aj 7)
noncomputable def d6:FD:=cP (aj 8) 3
noncomputable def d7:FD:=jg (aj 9) 0 5 6
noncomputable def d8:FD:=gL (aj 10) 4 7
noncomputable def d9:FD:=jl (aj 11)
noncomputable def d10:FD:=iN (aj 13)
noncomputable def b11:MSs :=
 (.cons (.asg (.name 2) (.bin .mod (.bin .mul (.bin .add (.bin .add (.bin .mod (.var 0) (.int 1000000007)) (.bin .mul (.int 7) (.var 1))) (.int 1)) (.int 48271)) (.int 2147483647)))
 (.cons (.asg (.name 3) (.bin .mod (.bin .mul (.var 2) (.bin .add (.bin .add (.bin .mod (.var 2) (.int 1009)) (.var 1)) (.int 3))) (.int 998244353)))
 (.cons (.ret (.bin .fdiv (.bin .mod (.bin .add (.bin .mul (.var 3) (.int 39373)) (.var 2)) (.int 2147483629)) (.int 64)))
 .nil)))
noncomputable def d11:FD:=⟨"_law_mixed",aj 14,["_law_number", "_law_k", "_law_once", "_law_twice"],2,b11⟩
noncomputable def d12:FD:=qE (aj 15) 10 11
noncomputable def d13:FD:=mZ (aj 16) 11
noncomputable def d14:FD:=dQ "_law_due" (aj 17) 14
noncomputable def d15:FD:=ni "_law_number" (aj 18) 13
noncomputable def d16:FD:=nj (aj 19) 13 15
noncomputable def d17:FD:=gO (aj 20)
noncomputable def b18:MSs :=
 (.cons (.for (.name 1) (.rng1 (.bin .add (.int 1) (.blt .min2 (.cons (.int 19) (.cons (.blt .len (.cons (.var 0) .nil)) .nil))))) (.cons (.asg (.name 2) (.call 16 (.cons (.call 12 (.cons (.var 0) (.cons (.var 1) .nil))) (.cons (.int 12) .nil))))
 (.cons (.for (.name 3) (.seq (.tup (.cons (.var 2) (.cons (.call 8 (.cons (.var 2) .nil)) .nil)))) (.cons (.asg (.name 4) (.call 17 (.cons (.var 3) .nil)))
 (.cons (.asg (.name 5) (.blt .list (.cons (.ix (.var 3) (.int 3)) .nil)))
 (.cons (.for (.name 6) (.rng1 (.int 2)) (.cons (.asg (.name 7) (.call 9 (.cons (.var 3) .nil)))
 (.cons (.ite (.or (.cons (.not (.tru (.call 14 (.cons (.var 7) (.cons (.var 4) .nil))))) (.cons (.cmp .ne (.ix (.var 3) (.int 3)) (.var 5)) .nil))) (.cons (.ret (.bl false))
 .nil) .nil)
 (.cons (.drop (.meth .append (.var 7) (.tup (.cons (.int 0) (.cons (.int 0) (.cons (.int 0) .nil))))))
 .nil))))
 .nil))))
 .nil)))
 (.cons (.ret (.bl true))
 .nil))
noncomputable def d18:FD:=⟨"law",aj 21,["_law_script", "_law_k", "_law_scheme", "_law_one", "_law_due", "_law_kept", "_law_turn", "_law_found"],1,b18⟩
noncomputable def tab:List FD := [d0,d1,d2,d3,d4,d5,d6,d7,d8,d9,d10,d11,d12,d13,d14,d15,d16,d17,d18]
noncomputable def nA:List (Str×D) := []
end K35
end
section
namespace K35
theorem Ax:∀ d∈tab,qC (tab.map (·.name)) nA d=true:=by decide +kernel
noncomputable abbrev PA (K:Frag) (x:Str) (f:Addr):Prop:=Ik K Fo x=some (some (.ref f))
noncomputable abbrev PL (K:Frag) (f:Addr) (x:Str) (s:Stmt) (oc:e7) (od:Option Addr) (kV dc pm:e7) (an:Option Addr) (cd ct:e7) (sl:Array (Option e7)):Prop:=K.lookup f=some ⟨oc,od, .func (Ha x x (cQ s) (bw s) (au s) .none kV dc pm an cd ct),sl⟩
noncomputable abbrev PC (K:Frag) (c:e7) (x:Str):Prop:=Jr K c x=true
noncomputable abbrev PK (K:Frag) (f:Addr):Prop:=Hu K (.ref f)=true
theorem all_mk {l:Kw} {w:EH} {K:Frag} {h:Heap} {mg:Str->Option e7} {fa:Addr} (X:K.In h) (G:h.Ns Fo mg) (hfa:mg "law" = some (.ref fa)) (z:∀ x∈bltNames,Ik K Fo x=some none)
 (a0:PA K "has_noughts" f0) (l0:PL K f0 "has_noughts" (aj 1) oc0 od0 kV0 dc0 pm0 an0 cd0 ct0 sl0) (c0:PC K cd0 "has_noughts") (k0:PK K f0)
 (a1:PA K "begins_below" f1) (l1:PL K f1 "begins_below" (aj 3) oc1 od1 kV1 dc1 pm1 an1 cd1 ct1 sl1) (c1:PC K cd1 "begins_below") (k1:PK K f1)
 (a2:PA K "negated" f2) (l2:PL K f2 "negated" (aj 4) oc2 od2 kV2 dc2 pm2 an2 cd2 ct2 sl2) (c2:PC K cd2 "negated") (k2:PK K f2)
 (a3:PA K "added" f3) (l3:PL K f3 "added" (aj 5) oc3 od3 kV3 dc3 pm3 an3 cd3 ct3 sl3) (c3:PC K cd3 "added") (k3:PK K f3)
 (a4:PA K "signed" f4) (l4:PL K f4 "signed" (aj 6) oc4 od4 kV4 dc4 pm4 an4 cd4 ct4 sl4) (c4:PC K cd4 "signed") (k4:PK K f4)
 (a5:PA K "first_alike" f5) (l5:PL K f5 "first_alike" (aj 7) oc5 od5 kV5 dc5 pm5 an5 cd5 ct5 sl5) (c5:PC K cd5 "first_alike") (k5:PK K f5)
 (a6:PA K "put_together" f6) (l6:PL K f6 "put_together" (aj 8) oc6 od6 kV6 dc6 pm6 an6 cd6 ct6 sl6) (c6:PC K cd6 "put_together") (k6:PK K f6)
 (a7:PA K "one_fewer" f7) (l7:PL K f7 "one_fewer" (aj 9) oc7 od7 kV7 dc7 pm7 an7 cd7 ct7 sl7) (c7:PC K cd7 "one_fewer") (k7:PK K f7)
 (a8:PA K "tidied" f8) (l8:PL K f8 "tidied" (aj 10) oc8 od8 kV8 dc8 pm8 an8 cd8 ct8 sl8) (c8:PC K cd8 "tidied") (k8:PK K f8)
 (a9:PA K "flips" f9) (l9:PL K f9 "flips" (aj 11) oc9 od9 kV9 dc9 pm9 an9 cd9 ct9 sl9) (c9:PC K cd9 "flips") (k9:PK K f9)
 (a10:PA K "_law_cell_at" f10) (l10:PL K f10 "_law_cell_at" (aj 13) oc10 od10 kV10 dc10 pm10 an10 cd10 ct10 sl10) (c10:PC K cd10 "_law_cell_at") (k10:PK K f10)
 (a11:PA K "_law_mixed" f11) (l11:PL K f11 "_law_mixed" (aj 14) oc11 od11 kV11 dc11 pm11 an11 cd11 ct11 sl11) (c11:PC K cd11 "_law_mixed") (k11:PK K f11)
 (a12:PA K "_law_box" f12) (l12:PL K f12 "_law_box" (aj 15) oc12 od12 kV12 dc12 pm12 an12 cd12 ct12 sl12) (c12:PC K cd12 "_law_box") (k12:PK K f12)
 (a13:PA K "_law_take" f13) (l13:PL K f13 "_law_take" (aj 16) oc13 od13 kV13 dc13 pm13 an13 cd13 ct13 sl13) (c13:PC K cd13 "_law_take") (k13:PK K f13)
 (a14:PA K "_law_same" f14) (l14:PL K f14 "_law_same" (aj 17) oc14 od14 kV14 dc14 pm14 an14 cd14 ct14 sl14) (c14:PC K cd14 "_law_same") (k14:PK K f14)
 (a15:PA K "_law_pool" f15) (l15:PL K f15 "_law_pool" (aj 18) oc15 od15 kV15 dc15 pm15 an15 cd15 ct15 sl15) (c15:PC K cd15 "_law_pool") (k15:PK K f15)
 (a16:PA K "_law_near_scheme" f16) (l16:PL K f16 "_law_near_scheme" (aj 19) oc16 od16 kV16 dc16 pm16 an16 cd16 ct16 sl16) (c16:PC K cd16 "_law_near_scheme") (k16:PK K f16)
 (a17:PA K "_law_flips" f17) (l17:PL K f17 "_law_flips" (aj 20) oc17 od17 kV17 dc17 pm17 an17 cd17 ct17 sl17) (c17:PC K cd17 "_law_flips") (k17:PK K f17)
 (a18:PA K "law" f18) (l18:PL K f18 "law" (aj 21) oc18 od18 kV18 dc18 pm18 an18 cd18 ct18 sl18) (c18:PC K cd18 "law") (k18:PK K f18)
 : ∃ fd:Ht,(∀ (s:g6) (v:e7),Mc s fd ⟨[v],[]⟩ [("_law_script",v)]) /\ ∀ base:Heap,K.In base->base.Ns Fo mg->cY l.prog w K mg base CX0 40 fa fd ["_law_script"] (lSp K (phi tab 40 18)):=by
 have e:=hfa.symm.trans (EO X G a18)
 cases e
 have O:wx K mg tab nA:=by
  refine ⟨fun x hx=>PySem.W.mg_none_of X G (z x hx), ?_,Ax, ?_⟩
  ·intro i d hd
   match i,hd with
   | 0,hd=>cases hd;exact ⟨_,_,ai l0 c0 k0,EO X G a0,a0,(ai l0 c0 k0).binds fun _ _ _ _ _ _ us hl=>by obtain ⟨u0,rfl⟩:=cb us hl;rfl⟩
   | 1,hd=>cases hd;exact ⟨_,_,ai l1 c1 k1,EO X G a1,a1,(ai l1 c1 k1).binds fun _ _ _ _ _ _ us hl=>by obtain ⟨u0,rfl⟩:=cb us hl;rfl⟩
   | 2,hd=>cases hd;exact ⟨_,_,ai l2 c2 k2,EO X G a2,a2,(ai l2 c2 k2).binds fun _ _ _ _ _ _ us hl=>by obtain ⟨u0,rfl⟩:=cb us hl;rfl⟩
   | 3,hd=>cases hd;exact ⟨_,_,ai l3 c3 k3,EO X G a3,a3,(ai l3 c3 k3).binds fun _ _ _ _ _ _ us hl=>by obtain ⟨u0,u1,rfl⟩:=cN us hl;rfl⟩
   | 4,hd=>cases hd;exact ⟨_,_,ai l4 c4 k4,EO X G a4,a4,(ai l4 c4 k4).binds fun _ _ _ _ _ _ us hl=>by obtain ⟨u0,rfl⟩:=cb us hl;rfl⟩
   | 5,hd=>cases hd;exact ⟨_,_,ai l5 c5 k5,EO X G a5,a5,(ai l5 c5 k5).binds fun _ _ _ _ _ _ us hl=>by obtain ⟨u0,rfl⟩:=cb us hl;rfl⟩
   | 6,hd=>cases hd;exact ⟨_,_,ai l6 c6 k6,EO X G a6,a6,(ai l6 c6 k6).binds fun _ _ _ _ _ _ us hl=>by obtain ⟨u0,u1,rfl⟩:=cN us hl;rfl⟩
   | 7,hd=>cases hd;exact ⟨_,_,ai l7 c7 k7,EO X G a7,a7,(ai l7 c7 k7).binds fun _ _ _ _ _ _ us hl=>by obtain ⟨u0,rfl⟩:=cb us hl;rfl⟩
   | 8,hd=>cases hd;exact ⟨_,_,ai l8 c8 k8,EO X G a8,a8,(ai l8 c8 k8).binds fun _ _ _ _ _ _ us hl=>by obtain ⟨u0,rfl⟩:=cb us hl;rfl⟩
   | 9,hd=>cases hd;exact ⟨_,_,ai l9 c9 k9,EO X G a9,a9,(ai l9 c9 k9).binds fun _ _ _ _ _ _ us hl=>by obtain ⟨u0,rfl⟩:=cb us hl;rfl⟩
   | 10,hd=>cases hd;exact ⟨_,_,ai l10 c10 k10,EO X G a10,a10,(ai l10 c10 k10).binds fun _ _ _ _ _ _ us hl=>by obtain ⟨u0,u1,rfl⟩:=cN us hl;rfl⟩
   | 11,hd=>cases hd;exact ⟨_,_,ai l11 c11 k11,EO X G a11,a11,(ai l11 c11 k11).binds fun _ _ _ _ _ _ us hl=>by obtain ⟨u0,u1,rfl⟩:=cN us hl;rfl⟩
   | 12,hd=>cases hd;exact ⟨_,_,ai l12 c12 k12,EO X G a12,a12,(ai l12 c12 k12).binds fun _ _ _ _ _ _ us hl=>by obtain ⟨u0,u1,rfl⟩:=cN us hl;rfl⟩
   | 13,hd=>cases hd;exact ⟨_,_,ai l13 c13 k13,EO X G a13,a13,(ai l13 c13 k13).binds fun _ _ _ _ _ _ us hl=>by obtain ⟨u0,u1,rfl⟩:=cN us hl;rfl⟩
   | 14,hd=>cases hd;exact ⟨_,_,ai l14 c14 k14,EO X G a14,a14,(ai l14 c14 k14).binds fun _ _ _ _ _ _ us hl=>by obtain ⟨u0,u1,rfl⟩:=cN us hl;rfl⟩
   | 15,hd=>cases hd;exact ⟨_,_,ai l15 c15 k15,EO X G a15,a15,(ai l15 c15 k15).binds fun _ _ _ _ _ _ us hl=>by obtain ⟨u0,u1,rfl⟩:=cN us hl;rfl⟩
   | 16,hd=>cases hd;exact ⟨_,_,ai l16 c16 k16,EO X G a16,a16,(ai l16 c16 k16).binds fun _ _ _ _ _ _ us hl=>by obtain ⟨u0,u1,rfl⟩:=cN us hl;rfl⟩
   | 17,hd=>cases hd;exact ⟨_,_,ai l17 c17 k17,EO X G a17,a17,(ai l17 c17 k17).binds fun _ _ _ _ _ _ us hl=>by obtain ⟨u0,rfl⟩:=cb us hl;rfl⟩
   | 18,hd=>cases hd;exact ⟨_,_,ai l18 c18 k18,EO X G a18,a18,(ai l18 c18 k18).binds fun _ _ _ _ _ _ us hl=>by obtain ⟨u0,rfl⟩:=cb us hl;rfl⟩
   | i+19,hd=>simp [tab] at hd
  ·intro x i hx;simp only [nA,Eb,Eu,or_false,JX] at hx
 refine ⟨Ha "law" "law" (cQ (aj 21)) (bw (aj 21)) (au (aj 21)) .none kV18 dc18 pm18 an18 cd18 ct18,fun s v => .of_eq rfl,fun base _ _ => ?_⟩;exact tj O 40 18 d18 _ _ rfl (ai l18 c18 k18)
theorem walk {l:Kw} {q:Er} {loose:List Str} {XP:(Str->Option e7)->Heap->Prop} {YP:EH->Heap->Prop} {d:DefRec} {K:Params->Frag} (hn:l.most=some 63) (hdf:d.params.defaults=[])
 (hlaw:∀ ns:List Int,ns.length<=63->phi tab 40 18 [.con (ns.map D.int)] (fun _=>none) fun d _=>d = .bl true)
 (hY:∀ (w:EH) (h:Heap),YP w h->(K w.params).In h)
 (F:∀ (w:EH) (mg:Str->Option e7) (fa:Addr) (h:Heap),(K w.params).In h->h.Ns Fo mg->mg d.name=some (.ref fa) ->
   ∃ fd:Ht,(∀ (s:g6) (u:e7),Mc s fd ⟨[u],[]⟩ [("_law_script",u)]) /\ ∀ base:Heap,(K w.params).In base->base.Ns Fo mg->cY l.prog w (K w.params) mg base CX0 40 fa fd ["_law_script"] (lSp (K w.params) (phi tab 40 18))) :
 PySem.W.WalkO q loose XP YP l.row.toRowW d [] (fun f vs=>NM f vs) :=
 L2.walk_of (n := 63) (k := 40) (x := "_law_script") (CX:=fun _=>CX0) (sp:=fun w=>lSp (K w.params) (phi tab 40 18)) hn (by decide) hdf ⟨rfl,by decide,by decide⟩ hY F (fun w H a ns hl hO hS=>Ah hO hS (hlaw ns hl)) fun _ _ _ _ _ z=>z
end K35
end
section
namespace K35
open PySem PySem.Spec PyProof.Rows L2.Srt
theorem oS {n:Nat} (j : 1<=n):qF tab n 11:=tL (x := "_law_number") (s:=aj 14) rfl j
theorem nB {n:Nat} (j : 2<=n):dN tab n 13:=fun z h1 h2 q=>yu (s:=aj 16) (fm := 11) rfl (oS (by lia)) j z h1 h2 q
theorem w4 {n m:Nat} (j:n+1<=m) {u v:D} {M:Mem} {Q:QD} (h:Sm M n u v) (q:∀ M',Ge M M'->Q (.bl true) M'):phi tab m 14 [u,v] M Q:=yN (s:=aj 17) (y := "_law_due") rfl j h q
theorem qI {n:Nat} (j : 2<=n):nh tab n 4:=fun z q=>tN (s:=aj 6) (sb:=aj 3) (sn:=aj 4) (fb := 1) (fn := 2) rfl rfl rfl j z q
theorem tU {n:Nat} (q : 3<=n):oQ tab n 7:=fun j h0 z B=>vU (s:=aj 9) (sn:=aj 1) (sa:=aj 7) (st':=aj 8) (sd:=aj 5) (fn := 0) (fa := 5) (ft := 6) (fd := 3) rfl rfl rfl rfl rfl q j.ne j.lp (by have:=j.n;lia) h0 z B
theorem qJ {n:Nat} (J : 4<=n) {B F L2:Nat} {x y z:D} {j:Addr} {ps:List Pr} (G:Tdy B F L2 ps) {M:Mem} {Q:QD} (h0:M j=some (.lst (ps.map prD)))
 (q:∀ qs pr M',Td (ps.map sgn) qs->Ge M M'->M pr=none->M' pr=some (.lst (qs.map prD))->Q (.tup [x,y,z, .ref pr]) M'):phi tab n 8 [.tup [x,y,z, .ref j]] M Q:=tO (s:=aj 10) (fs := 4) (fo := 7) rfl (qI (by lia)) (tU (by lia)) (by lia) G h0 q
theorem w5 {n:Nat} (B : 3<=n):tQ tab n 15:=fun j z q=>yH (s:=aj 18) (xn := "_law_number") (ft := 13) rfl (nB (by lia)) (by lia) j z q
theorem yO {M:Mem} {a b:Addr} {l:List K3} (j:l.length<=100000) (q:M a=some (.lst (l.map k3D))) (z:M b=some (.lst (l.map k3D))):Sm M 2 (.ref a) (.ref b):=by
 refine ⟨_,_,q,z,by rw [Eg];exact j,rfl,fun k d e h1 h2 => ?_⟩
 rw [h1] at h2;cases h2;rw [Eo] at h1;obtain ⟨t,_,rfl⟩:=Hb.mp h1;refine ⟨by simp,rfl,fun k d e h1 h2 => ?_⟩
 rw [h1] at h2;cases h2;have:k=0∨k=1∨k=2:=by
  have:=(o7.mp h1).1;simp at this;lia
 rcases this with rfl | rfl | rfl <;> cases h1 <;> exact Sm.int
theorem law_holds (ns:List Int) (hl:ns.length<=63):phi tab 40 18 [.con (ns.map D.int)] (fun _=>none) fun d _=>d = .bl true:=by
 refine ay (by lia) rfl rfl (ρ := [some _,none,none,none,none,none,none,none]) rfl ?_
 unfold d18 L2.Mi.K35.b18;walk_at "st";rw [Eg];refine ⟨by split <;> lia,by split <;> lia, ?_⟩
 refine ba (I:=fun l ρ M' => ∃ o1 o2 J L O q B, ρ = [some (.con (ns.map D.int)),o1,o2,J,L,O,q,B]) cc ⟨_,_,_,_,_,_,_,rfl⟩ (fun _ _ _ hI=>trivial) ?_ ?_
 ·rintro l k r ρ M8 e ⟨o1,o2,J,L,O,q,B,rfl⟩;refine ⟨_,rfl,fun F hF => ?_⟩;walk_at "st";refine Ao (s:=aj 15) (fc := 10) (fm := 11) (sc:=aj 13) rfl rfl (oS (by lia)) (by lia) (by lia) fun bx x y hp => ?_
  refine yI (s:=aj 19) (ft := 13) (fp := 15) (most := 12) rfl (nB (by lia)) (w5 (by lia)) (by lia) (by lia) ⟨_,_,_,ad⟩ fun U Y L2 ps pr M1 hN hlen x1 C0 Z mr => ?_
  have hT:Tdy U Y L2 ps:=⟨hN.l,by have:=hN.h0;lia,by have:=hN.h1;lia,by have:=hN.h2;lia,by lia⟩
  clear x1 C0 Z;walk_at "st";refine qJ (by lia) hT mr fun qs pd M2 hd g2 _ md => ?_
  have mr:=g2 _ _ mr;have C1:=hT.sg.td hd;have C2:qs.length<=12:=by have:=hd.len;rw [Eg] at this;lia
  clear g2;refine ⟨by rw [tv];lia, ?_⟩
  refine ba (f:=fun u:List Pr×Addr=>D.tup [.int (U:Nat), .int (Y:Nat), .int (L2:Nat), .ref u.2]) (ys := [(ps,pr),(qs,pd)]) (I:=fun l ρ M' => ∃ J L O q B:Option D, ρ = [some (.con (ns.map D.int)),some (.int (k:Nat)),some (.tup [.int (U:Nat), .int (Y:Nat), .int (L2:Nat), .ref pr]),J,L,O,q,B]/\M' pr=some (.lst (ps.map prD))/\M' pd=some (.lst (qs.map prD))) rfl
   ⟨J,L,O,q,B,rfl,mr,md⟩ (fun _ _ _ _=>by first | rfl | trivial) ?_ ?_
  ·rintro l1 u r1 ρ M3 e1 ⟨J,L,O,q,B,rfl,mr,md⟩;have hu:Tdy U Y L2 u.1/\u.1.length<=12/\M3 u.2=some (.lst (u.1.map prD)):=by
    have:u∈[(ps,pr),(qs,pd)]:=by rw [e1];simp
    simp only [Eb,Eu,or_false] at this
    rcases this with rfl | rfl
    ·exact ⟨hT,hlen,mr⟩
    ·exact ⟨C1,C2,md⟩
   obtain ⟨C3,BY,mu⟩:=hu;refine ⟨_,rfl,fun F1 C4 => ?_⟩;walk_at "st";refine tT (s:=aj 20) rfl (by lia) (by lia) mu fun pe M4 g4 _ me => ?_
   have mr:=g4 _ _ mr;have md:=g4 _ _ md;have mu:=g4 _ _ mu;clear g4;walk_at "st";refine ⟨_,rfl,_,_,rfl,ag mu,fun pk BZ => ?_⟩;have gk:=Ge.new (o := .lst (u.1.map prD)) BZ;have mk:af M4 pk (.lst (u.1.map prD)) pk=some (.lst (u.1.map prD)):=ad;have mr:=gk _ _ mr;have md:=gk _ _ md;have mu:=gk _ _ mu;have me:=gk _ _ me;generalize af M4 pk (.lst (u.1.map prD))=M5 at mk mr md mu me;clear gk BZ;walk_at "st";refine ⟨by decide,by decide, ?_⟩
   have C5:b8 0 (2:Int).toNat=[0,1].map fun i:Nat=>D.int (i:Nat):=rfl;rw [C5];refine ba (f:=fun i:Nat=>D.int (i:Nat)) (ys := [0,1]) (I:=fun l ρ M' => ∃ q B:Option D, ρ = [some (.con (ns.map D.int)),some (.int (k:Nat)),some (.tup [.int (U:Nat), .int (Y:Nat), .int (L2:Nat), .ref pr]),some (.tup [.int (U:Nat), .int (Y:Nat), .int (L2:Nat), .ref u.2]),some (.ref pe),some (.ref pk),q,B]/\M' pr=some (.lst (ps.map prD))/\M' pd=some (.lst (qs.map prD))/\M' u.2=some (.lst (u.1.map prD))/\M' pk=some (.lst (u.1.map prD))/\M' pe=some (.lst ((flp u.1).map k3D))) rfl
    ⟨q,B,rfl,mr,md,mu,mk,me⟩ (fun _ _ _ _=>trivial) ?_ ?_
   ·rintro l' i' r' ρ M6 e' ⟨q,B,rfl,mr,md,mu,mk,me⟩;refine ⟨_,rfl,fun F2 C6 => ?_⟩;walk_at "st";refine vZ (s:=aj 11) rfl (by lia) C3.ne (by lia) mu fun pf M7 g7 G mf => ?_
    have n1:pr≠pf:=fun z=>by rw [z,G] at mr;cases mr
    have n2:pd≠pf:=fun z=>by rw [z,G] at md;cases md
    have n3:u.2≠pf:=fun z=>by rw [z,G] at mu;cases mu
    have n4:pk≠pf:=fun z=>by rw [z,G] at mk;cases mk
    have n5:pe≠pf:=fun z=>by rw [z,G] at me;cases me
    have C7:(flp u.1).length<=100000:=by
     have h1:=jk (ps:=u.1);have h2:u.1.length*u.1.length<=12*12:=Le BY BY;lia
    walk_at "st";refine w4 (n := 2) (by lia) (yO C7 mf (g7 _ _ me)) fun M9 g9 => ?_
    refine ⟨true,rfl, ?_⟩;rw [if_neg (by decide)]
    have j:=g7.trans g9;refine ⟨_,rfl,Bo (j _ _ mu) (j _ _ mk) ?_⟩;refine ⟨false,rfl, ?_⟩;rw [if_neg (by decide)]
    walk_at "st";refine ⟨⟨_,g9 _ _ mf⟩,by rw [tv];lia,pf,_,_,rfl,rfl,g9 _ _ mf,by rw [Eg,tv];lia, ?_⟩
    refine C6 _ _ ⟨_,_,rfl, ?_, ?_, ?_, ?_, ?_⟩
    ·rw [ah n1];exact j _ _ mr
    ·rw [ah n2];exact j _ _ md
    ·rw [ah n3];exact j _ _ mu
    ·rw [ah n4];exact j _ _ mk
    ·rw [ah n5];exact j _ _ me
   ·rintro ρ M6 ⟨q,B,rfl,mr,md,mu,mk,me⟩;exact C4 _ _ ⟨_,_,_,_,_,rfl,mr,md⟩
  ·rintro ρ M3 ⟨J,L,O,q,B,rfl,mr,md⟩;exact hF _ _ ⟨_,_,_,_,_,_,_,rfl⟩
 ·rintro ρ M8 ⟨o1,o2,J,L,O,q,B,rfl⟩;dsimp only;walk_at "st"
end K35
end
end
end Mi
end
end L2
namespace PySem.W.Fast
theorem tw627264585147406974:True:=trivial
theorem tw11688452826265139869:True:=trivial
theorem tw16169615021924516498:True:=trivial
theorem tw8098682519576335624:True:=trivial
theorem tw9180591681497038101:True:=trivial
theorem tw16570137884557183885:True:=trivial
theorem tw11702868605876077909:True:=trivial
theorem tw12460916797194891621:True:=trivial
theorem tw6178433482478527482:True:=trivial
theorem tw2256290036463973937:True:=trivial
theorem tw8823325025217473696:True:=trivial
theorem tw2402521948709512098:True:=trivial
theorem tw8134371302295589751:True:=trivial
theorem tw18227384213957622163:True:=trivial
theorem tw9021811524068753161:True:=trivial
theorem tw17435968717972371822:True:=trivial
theorem tw1977647745800809432:True:=trivial
theorem tw11703762649283525726:True:=trivial
theorem tw1083446329442749508:True:=trivial
theorem tw10426923317997553326:True:=trivial
theorem tw7121988099740143860:True:=trivial
theorem tw16357788916728124168:True:=trivial
theorem tw14956282479667406017:True:=trivial
theorem tw17996929260480201519:True:=trivial
theorem tw9614752334616150406:True:=trivial
theorem tw13508307544539058118:True:=trivial
theorem tw4076576315428503668:True:=trivial
theorem tw9028273189919766152:True:=trivial
theorem tw14154127845234789000:True:=trivial
theorem tw7981818527654300124:True:=trivial
theorem tw6453488865773754077:True:=trivial
theorem tw15497092352869987824:True:=trivial
theorem tw13092076635247278275:True:=trivial
theorem tw9139913036104908508:True:=trivial
theorem tw12745236805976331533:True:=trivial
theorem tw3408341994197771635:True:=trivial
theorem tw1938531200890944476:True:=trivial
theorem tw8051876946656951848:True:=trivial
theorem tw1688021701768248233:True:=trivial
theorem tw17792311832176677134:True:=trivial
theorem tw15043654054046882525:True:=trivial
theorem tw4595272323514798320:True:=trivial
theorem tw10600273507061477136:True:=trivial
theorem tw4794917738962397701:True:=trivial
theorem tw10065743866599152860:True:=trivial
theorem tw4498042913937738074:True:=trivial
theorem tw15740284305668955651:True:=trivial
theorem tw6046569323230264556:True:=trivial
theorem tw1431874550711125398:True:=trivial
theorem tw1602850446021439520:True:=trivial
theorem tw15493893397695450469:True:=trivial
end PySem.W.Fast
open PySem.W in
set_option maxRecDepth 100000 in
set_option maxHeartbeats 0 in
theorem PySem.Challenge.cw_fewtimes_k35_flips_holds : PySem.Challenge.rw_fewtimes_k35_flips.Holds := by
 w_on;o_law;k_head;(case hw=>w_witness2)
 k_fill
 refine L2.Mi.K35.walk (l:=PySem.Challenge.rw_fewtimes_k35_flips) rfl rfl L2.Mi.K35.law_holds (fun w h Y=>PySem.W.kIn_of Y) ?F
 case F =>
  intro w mg fa h KX G hmg;refine' L2.Mi.K35.all_mk KX G hmg ?z ?_ ?_ ?_ ?_ ?_ ?_ ?_ ?_ ?_ ?_ ?_ ?_ ?_ ?_ ?_ ?_ ?_ ?_ ?_ ?_ ?_ ?_ ?_ ?_ ?_ ?_ ?_ ?_ ?_ ?_ ?_ ?_ ?_ ?_ ?_ ?_ ?_ ?_ ?_ ?_ ?_ ?_ ?_ ?_ ?_ ?_ ?_ ?_ ?_ ?_ ?_ ?_ ?_ ?_ ?_ ?_ ?_ ?_ ?_ ?_ ?_ ?_ ?_ ?_ ?_ ?_ ?_ ?_ ?_ ?_ ?_ ?_ ?_ ?_ ?_ ?_
  case z =>
   intro x hx;simp only [L2.Mi.bltNames,List.mem_cons,List.not_mem_nil,or_false] at hx
   rcases hx with rfl | rfl | rfl | rfl | rfl | rfl | rfl | rfl | rfl | rfl | rfl | rfl | rfl | rfl | rfl | rfl | rfl | rfl | rfl | rfl <;> k_is
  all_goals try (show _=_;k_is)
