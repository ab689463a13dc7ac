import PyProof.Rows.All
import Wide.All
import OpenK.AllK
import Wide.FinOn
import Lean
import PyProof.EqAt
import PyProof.EqKinds
import PyProof.TupleCall
import PyProof.ZipIter
import PyProof.EnumMake
import PyProof.EnumFor
import PyProof.CollectIter
import PyProof.Rows.SeqMore
import PyProof.ConsumeWalk
import PyProof.Rows.SortShellK
import PyProof.DictItems
import PyProof.DictWalks
import PyProof.AttrMissHeap
import PyProof.DictIter
import PyProof.MaxThree
import PyProof.SeqI3
import KE.KDictOf
import PySem.Challenge.RW_fewtimes_k23_turned_and_mirrored
set_option Elab.async false
set_option linter.all false
set_option compiler.extract_closed false
set_option genSizeOf false
set_option bootstrap.genMatcherCode false
set_option maxRecDepth 100000
set_option maxHeartbeats 4000000
open PySem.W (Frag)
open PySem renaming wpAny_bind → e6, Value → gV, Shared → tv, wpAny_pure → D1, sizeLine_eq → Fb, sizeLine → Fj, wpAny → Fq, model → Fz, Program → FI, wpAny_setField_rec → FK, starEach → FO, wpAny_callSpecial?_slot → FY, wpAny_call_entry → FZ, World → G2, DictEntry → G3, Paired → G5, Around → G8, wpAny_holding → Gc, wpAny_field → Gi, Comprehension → Gk, wpAny_mono → Gw, wpAny_newObj_type → Gz, PyData → GA, mainGlobals → GD, Builtin → GR, mem_of_lookup → GW, binaryOp → GX, sysModules → H0, wpAny_ite_false → Hi, assignEach → Hl, wpAny_typeOf → Hq, wpAny_attempt → Ht, foldedSetIterable → Hw, compareOp → Hx, cellsFrom → Hy, wpAny_rule → Hz, codeAny_builtin → HE, bootBuiltins → HI, cLine → HQ, wpAny_of_eq → HR, wpAny_isInstance → HU, wpAny_Call_Name_kw → HX, isSubtype_type → HZ, wpAny_passesOwn → I9, wpAny_truthy_bool → Ib, swappedStores → Ii, pyNext → Ij, rawInt → Ik, NameKind → Ip, tupleKind_room_in1 → Iy, wpAny_loadPart' → IC, wpAny_standAt → IE, builtinLookup_eq_fast → II, FuncData → IP, firstArgMember → IS, codeAny_mono → IW, backTo → J0, swapsWithSole → J1, behindInMarks → J2, attributeBase → J5, Reads → J8, codeAny → Ja, wpAny_pyIter_tuple → Jg, tupleKind → Jl, swapsWith → Jm, sliceBounds → Jp, wpAny_Call_method0_late → Jq, Operator → Jr, wpAny_newTuple → Jx, wpAny_ite_true → JE, Model → JH, inplaceOp → JJ, wpAny_newList → JT, plainId_quiet → JV, letOwnedTupleGo → JZ, typeLookup_type → K8, evalArgs_none → Kb, call_meets → Kq, wpAny_binaryOp_repeat_ref → Kx, standAt → KG, getItem → KH, wpAny_pyIter_list → KL, wpAny_pyIter_slot → KN, wpAny_comprehension_free → KS, noFill_tuple_add → KZ, entryFor_of_tree → La, pyIter → Lh, wpAny_pyNext_list_item → Li, IsPart → Lj, seqIndex_neg → Lk, wpAny_getItem_list_neg → Lm, typeIs_int → Lo, Keyword → Lp, IsEnum → Lr, wpAny_execs_nil → Lx, pushCells_keeps → LA, wpAny_pyNext_list_end → LD, seqIndex_of → LK, newFunctionEnv → LM, wpAny_seqItems → LN, wpAny_throw → LO, isSubtype_stop → LP, ReadsAll → LS, wpAny_pyIter_keyiter → LX, setItem → Mm, callerA → Mn, valueAt → Mo, assignInOrder → Mx, seq_tuple_add → My, wpAny_handled → Mz, mroOf_keyiter → MB, foldedForSure → MM, BindsTo → Nc, concat_meets → Nf, wpAny_sequenceKey → Ng, call_meetsIn → Nj, wpAny_pyIter_enum → Nk, Result → NF, wpAny_Dict_empty → NI, pushCells → NJ, IsEnumOut → NK, keywordEach → NU, atKey → NV, wpAny_letGo → NX, richCompare → NZ, builtinsNs → Of, wpAny_Name → Og, bindName → Oh, wpAny_load → Oi, bindL → Oj, bindC → Ol, call → Om, newExc → Oq, newTuple → Ot, entryFor → Ow, argsOk → Ox
open PySem.Heap renaming get?_push_of_some → q7, lt_size → Fg, get?_push_size → Fh, get?_update_ne → G9, SameBut → GP, size_push → Jw, get?_update_other → Ln, get?_update_self → LF, get?_push_cases → LQ, ExtBut → NW
open Bool renaming and_eq_true → D0, false_ne_true → Fp, not_eq_true' → GI, false_eq_true → Hm, not_eq_true → JO, false_or → KR, or_eq_true → LB, and_eq_true_iff → LR
open List renaming getElem?_append_right → D2, pairwise_append → Fc, length_map → Fd, getElem?_eq_getElem → Fe, length_append → Fk, replicate → Fm, size_toArray → Fn, mem_cons → Fo, append_assoc → Ft, getElem?_append_left → Fu, mem_map → Fw, mem_map_of_mem → Fy, getElem?_eq_some_iff → FC, mem_append → FE, mem_append_right → FF, map_cons → FJ, mem_cons_of_mem → FN, toList_toArray → FQ, mem_of_getElem? → FT, length_take → FU, getElem?_map → FX, length_eq_zero_iff → G6, pairwise_map → G7, mem_append_left → Gb, mem_cons_self → Gd, length_pos_iff → Gm, not_mem_nil → Gn, flatten_cons → Gq, map_map → Gv, getD_eq_getElem?_getD → Gx, append_nil → GB, nodup_cons → GC, replicate_succ → GF, length_filter_le → GG, nodup_iff_pairwise_ne → GJ, find?_cons → GL, map_append → GO, length_cons → GQ, drop_eq_getElem_cons → GS, filter_append → H9, mem_iff_getElem → Hb, filter_cons_of_pos → Hc, filter_cons_of_neg → Hd, range → Hf, mem_filter → Hh, take_append_drop → Hk, dropLast_concat_getLast → HB, flatten_append → HG, map_congr_left → HH, getElem?_set_self → HJ, drop_eq_nil_of_le → HM, find?_cons_of_neg → HP, lookup_cons → HS, Perm → HV, any_eq_true → HW, length_singleton → I7, length_nil → Ia, nodup_append → Ic, flatMap_cons → Ie, getElem?_cons_succ → Iu, any_cons → IF, perm_append_comm → IH, getElem?_set_ne → IM, map → IT, mem_reverse → IX, all_eq_true → IY, getElem?_take_of_lt → J3, all_cons → J7, foldl_cons → Jb, pairwise_cons → Jh, getElem?_drop → Jj, extract → Jz, take_of_length_le → JA, ext_getElem? → JB, reverse_perm → JC, find?_cons_of_pos → JF, length_drop → JL, foldl → JM, length → JW, mem_of_mem_drop → JX, mem_of_mem_take → JY, nil_append → K0, forIn_cons → K5, filterMap_cons → Ka, map_nil → Kd, mem_range → Kj, drop_drop → Kt, find?_eq_none → Kv, perm_ext_iff_of_nodup → Kw, mem_of_find?_eq_some → Kz, length_range → KQ, getElem?_replicate → KY, getElem_mem → L8, cons_append → L9, getElem?_cons_zero → Lc, of_mem_zip → Ly, pairwise_reverse → LG, getElem?_mapIdx → LU, reverse_reverse → LV, length_reverse → Mt, filter_sublist → Mv, flatMap_append → Mw, mem_filterMap → MQ, set_cons_zero → N7, set_cons_succ → N8, take_add_one → Np, drop_length → NL, map_snd_zip → NN, length_set → O5, find?_some → O9, mem_mapIdx → Oa, map_const' → Ob
open PyProof.Rows renaming wpS_bind → Ff, Keyed → Fi, pendingOf → Fx, arrOf → G4, wpS_forRange → Gh, SortSt → Gj, kindOf → GU, slot_tuple_getitem → Hj, wpS_modify → Hn, get?_update_seq → HD, failedOf → HF, listUpdate_at → Io, callWith_type1 → IJ, SortKind → J9, wpS_get → Jd, setPending → Ji, callWith_builtin1 → JK, mem_zip_self → Kh, assignInOrder_cons → Kl, AllBare → KD, seqSlot_of → L6, subscriptTail_builtinR → Ll, envOfC → LJ, entry_tuple_getitem → Mp, args_tuple_getitem → MW, seqObj → N3, assignInOrder_nil → N9, listItems_at → Nr, entry_list_iadd' → NO, keyKind'_eq → O0, seqEpoch_at → O1, IntsAre → Oc, mergeAt' → Ov
open Nat renaming le_refl → Fl, ne_of_lt → FR, lt_of_lt_of_le → FW, ne_of_gt → Gp, lt_irrefl → Gy, zero_le → Ha, le_trans → Ho, succ_mul → Hr, mul_le_mul_right → Ig, mul_le_mul → IU, le_of_lt → IV, min_eq_left → Je, sub_self → Kf, zero_add → Kg, succ_le_succ → L7, add_assoc → MA, not_lt → Oo
open Array renaming toList_append → Fs, toList_push → Fv, getElem?_toList → FG, getElem?_eq_getElem → FH, length_toList → FL, toList_reverse → G1, toList_extract → Hv, getElem?_eq_none → IA, size_append → IK, toList_inj → JR, map → JS, size_push → K7, toList_setIfInBounds → Ku, toList → Lg, all_eq_true → Nt, filterMap → O8
open PySem.Value renaming ref → FA, type → FV, none → He, bool → Lf, int → Mk, str → Ml, float → NT
open PySem.W renaming mg_of → FP, kia_one → GK, fnOf → Iv, keepIn → IQ, kitx_list → Js, kitx_dict → Jt, cellsFrom_some → Ju, nsIn → Jy, codeIn → Km, methodObj → KA, instObj → Lw, OpenLaw → Lz, lookIn → LI, kitAny → LY, kitx_float → MR, kitx_tuple → MU, callWith_K → MV, kitx_none → Na, kitx_bool → Nb, plainGet → NA, kitx_int → NB, kitx_str → ND
open PySem.NameKind renaming free → G0, cell → Hs
open PySem.PyData renaming eqv → Ga, canLayAll0 → GH, eqvAll → GN, depthAll → HA, depth → Iz, canLay0 → JD, tuple → Nl, list → NY
open PySem.Str renaming ofString → Gf
open List.Perm renaming append_left → Gg, append_right → Gs, of_eq → ID, refl → LW
open Int renaming toNat_natCast → Gr, emod_lt_of_pos → Jk, emod_nonneg → K9, add_mul → KP, add_zero → Lv, mul_add → Mj, toNat_of_nonneg → Mr, add_assoc → MP, mul_comm → Nz
open PySem.Builtin.Dict_items renaming pairFromOwner → Gu, ownedTupleIsFree → GY, isOneOf → I0
open PySem.SeqAt renaming readOf → GZ, readOf_eq → HC, eqAt_reads → NM
open True renaming intro → H8
open PySem.Obj renaming mapSeq → Hg, data_mapFields → MY
open Option renaming some → Hu, isSome_iff_exists → Il, map_eq_some_iff → Iw, map_some → Jc, bind_some → JP, isSome_some → MX, isSome_map → Ni, getD_none → NG, join_some → NQ, bind_none → NR, join_none → NS, map → Ou
open PySem.Calls renaming callWith_builtin → HK, spliced_cons → Jf, Name_function_global → Kk, spliced_nil → KI, evalArgs_plain → LL
open PySem.Builtin.List renaming listLengthHint → HN, listTooLong → J6
open PySem.F renaming slot_tuple_iterator_next → HY, slot_enumerate_next → IG, args_tuple_add_2 → J4, entry_tuple_add → Jo, slot_tuple_add → Jv, slot_dict_get → JI, slot_int_rmul → K1, args_tuple_iterator_next_1 → K6, plain_extend_loop → Kc, entry_tuple_iterator_next → Ke, slot_dict_items → KO, args_dict_get_3 → L4, args_enumerate_next_1 → L5, plainAttrs_list → Lb, entry_dict_get → Lq, entry_enumerate_next → Ls, slot_dict_items_iter → Lu, entry_proto_collect → LH, entry_extend_loop → Mu, args_int_rmul_2 → Nh, plainAttrs_dict → Nv, type_dict_items → Nw, entry_int_rmul → NH, slot_dict_iter → NP, fills_int_mul → O6, slot_tuple_lt → O7
open PySem.Builtin.Slice renaming slicePlaces → I8, sliceAdjust → IZ, sliceApplied → Kn
open PySem.Paired renaming length → Ih
open PySem.Builtin.Tuple renaming tupleExact → Im, tupleCompareSizes → JG, tupleItemsOf → Ko, tupleIsExact → Kr, tupleTooMany → Ks
open LawfulBEq renaming eq_of_beq → Iq
open PySem.Data renaming seq → Ir, fields → Jn
open ForInStep renaming yield → IB
open And renaming intro → JN
open PyProof.Rows.SortSt renaming mk' → JQ
open PySem.Shared renaming TypeIs → JU
open PyProof.Rows.IsTup renaming new → Ki
open List.Pairwise renaming nil → KJ, imp_of_mem → KU
open PySem.Env renaming blockKind → KW, kindOf → N6
open Prod renaming ext → L3
open Sum renaming inl → Ld, inr → Le
open List.cons renaming injEq → LC
open PySem.Expr renaming Subscript → LZ, Attribute → Mg, Constant → MD, ListComp → MJ, UnaryOp → Nx, Compare → Ny, BoolOp → O2, BinOp → Oy, IfExp → Oz, Tuple → OA, Slice → OB, Name → OE, List → OF, Call → OG, Dict → OH
open PySem.Stmt renaming AugAssign → Mh, Continue → MK, Assign → O3, Return → O4, While → OC, Break → OD, Expr → OI, Pass → OJ
open PySem.Heap.SameBut renaming update → Mq
open PySem.Builtin.Int renaming intBits → Ms
open Function renaming comp → MN
open PySem.Around renaming in1_handled → MZ, under_plain → N5
open PySem.Code renaming quiet_builtin → N4, builtin → Nu
open Option.some renaming injEq → Nm
open Exists renaming intro → Nq
open Iff renaming rfl → Oe
namespace L2
open PySem PySem.Spec PyProof.Rows
section
noncomputable abbrev Key:=Sum Int Str
noncomputable def gv:Key->gV->Bool
 | .inl k,v=>Value.isInt k v
 | .inr x,v=>Value.isStrOf x v
noncomputable def Cl (w:G2):Key->Int
 | .inl k=>hashInt k
 | .inr x=>hashStr w x
theorem aI:∀ {k:Key} {v:gV},gv k v=true->(∃ i t,k=Ld i/\v=Mk i t)∨(∃ x t,k=Le x/\v=Ml x t)
 | .inl i,v,h=>by
  obtain ⟨t,e⟩:=Value.isInt_shape (k:=i) (v:=v) h;exact .inl ⟨i,t,rfl,e⟩
 | .inr x,v,h=>by
  obtain ⟨t,e⟩:=Value.isStrOf_shape (x:=x) (v:=v) h;exact .inr ⟨x,t,rfl,e⟩
theorem rY (i:Int) (t:Tok):gv (.inl i) (.int i t)=true:=by simp [gv,Value.isInt]
theorem rZ (x:Str) (t:Tok):gv (.inr x) (.str x t)=true:=by simp [gv,Value.isStrOf]
theorem zU (a b:Int):decide ((Ld a:Key)=Ld b)=(a==b):=by
 by_cases e:a=b
 ·subst e;simp
 ·have h : ¬ (Ld a:Key)=Ld b:=fun q=>e (Ld.inj q);rw [decide_eq_false h];exact (beq_eq_false_iff_ne.mpr e).symm
theorem zV (a b:Str):decide ((Le a:Key)=Le b)=decide (a=b):=by
 by_cases e:a=b
 ·subst e;simp
 ·have h : ¬ (Le a:Key)=Le b:=fun q=>e (Le.inj q);rw [decide_eq_false h,decide_eq_false e]
theorem zW (a:Int) (b:Str):decide ((Ld a:Key)=Le b)=false:=decide_eq_false (fun q=>nomatch q)
theorem zX (a:Str) (b:Int):decide ((Le a:Key)=Ld b)=false:=decide_eq_false (fun q=>nomatch q)
noncomputable def aD (prog:FI) (w:G2):PySem.KeyKind prog w Key where
 is:=gv
 hash:=Cl w
 inj:=fun v a b ha hb=>by
  rcases aI ha with ⟨i,t,rfl,rfl⟩ | ⟨x,t,rfl,rfl⟩
  ·rcases aI hb with ⟨j,u,rfl,e⟩ | ⟨y,u,rfl,e⟩
   ·injection e with e1 _;rw [e1]
   ·exact nomatch e
  ·rcases aI hb with ⟨j,u,rfl,e⟩ | ⟨y,u,rfl,e⟩
   ·exact nomatch e
   ·injection e with e1 _;rw [e1]
 byValue:=fun k v h=>by
  rcases aI h with ⟨i,t,rfl,rfl⟩ | ⟨x,t,rfl,rfl⟩ <;> rfl
 pyHash:=fun hv h=>by
  rcases aI hv with ⟨i,t,rfl,rfl⟩ | ⟨x,t,rfl,rfl⟩
  ·exact wpAny_pyHash_int h
  ·exact wpAny_pyHash_str h
 eqBool:=fun hu hv h=>by
  rcases aI hu with ⟨i,t,rfl,rfl⟩ | ⟨x,t,rfl,rfl⟩
  ·rcases aI hv with ⟨j,u,rfl,rfl⟩ | ⟨y,u,rfl,rfl⟩
   ·rw [zU] at h;exact wpAny_eqBool_int h
   ·rw [zW] at h;exact SeqAt.EqAt.int_str i t y u _ _ _ _ h
  ·rcases aI hv with ⟨j,u,rfl,rfl⟩ | ⟨y,u,rfl,rfl⟩
   ·rw [zX] at h;exact SeqAt.EqAt.str_int x t j u _ _ _ _ h
   ·rw [zV] at h;exact wpAny_eqBool_str h
 «strs» := fun k x t v h=>by
  rcases aI h with ⟨i,u,rfl,e⟩ | ⟨y,u,rfl,e⟩
  ·exact nomatch e
  ·injection e with e1 _
   subst e1
   cases v <;> rfl
theorem oG (prog:FI) (w:G2) (i:Int) (t:Tok):(aD prog w).is (.inl i) (.int i t)=true:=rY i t
theorem oH (prog:FI) (w:G2) (x:Str) (t:Tok):(aD prog w).is (.inr x) (.str x t)=true:=rZ x t
end
section
inductive V where
 | non | bl (b:Bool) | int (i:Int) | str (x:Str) | byt (b:Array UInt8) | flt (b:UInt64) | ref (a:Addr) | ty (n:String)
 deriving DecidableEq
noncomputable def RelV:V->gV->Prop
 | .non,u=>u=He
 | .bl b,u=>u=Lf b
 | .int i,u => ∃ t,u=Mk i t
 | .str x,u => ∃ t,u=Ml x t
 | .byt b,u => ∃ t,u=Value.bytes b t
 | .flt b,u => ∃ t,u=NT b t
 | .ref a,u=>u=FA a
 | .ty n,u=>u=FV n
noncomputable abbrev Vals:List V->List gV->Prop:=G5 RelV
theorem Vals.length {xs:List V} {us:List gV} (r:Vals xs us):xs.length=us.length:=Ih r
theorem Vals.get:∀ {xs:List V} {us:List gV} {i:Nat} {x:V},Vals xs us->xs[i]? = some x -> ∃ u,us[i]? = some u/\RelV x u
 | _,_,_,_, .nil,e=>by simp at e
 | _,_,0,_, .cons r _,e=>by simp at e;subst e;exact ⟨_,rfl,r⟩
 | _,_,i+1,x, .cons _ t,e=>by
   obtain ⟨u,h1,h2⟩:=Vals.get (i:=i) (x:=x) t (by simpa using e)
   exact ⟨u,by simpa using h1,h2⟩
theorem Vals.set {x:V} {u:gV} (r:RelV x u):∀ {xs:List V} {us:List gV} (i:Nat),Vals xs us->Vals (xs.set i x) (us.set i u)
 | _,_,_, .nil => .nil
 | _,_,0, .cons _ t => .cons r t
 | _,_,i+1, .cons q t => .cons q (Vals.set r i t)
theorem Vals.append:∀ {xs ys:List V} {us ws:List gV},Vals xs us->Vals ys ws->Vals (xs++ys) (us++ws)
 | _,_,_,_, .nil,s=>s
 | _,_,_,_, .cons r t,s => .cons r (Vals.append t s)
theorem Vals.take:∀ {xs:List V} {us:List gV} (n:Nat),Vals xs us->Vals (xs.take n) (us.take n)
 | _,_,0,_ => .nil
 | _,_,_+1, .nil => .nil
 | _,_,n+1, .cons r t => .cons r (Vals.take n t)
theorem Vals.drop:∀ {xs:List V} {us:List gV} (n:Nat),Vals xs us->Vals (xs.drop n) (us.drop n)
 | _,_,0,r=>r
 | _,_,_+1, .nil => .nil
 | _,_,n+1, .cons _ t=>Vals.drop n t
noncomputable def RelO:Option V->Option gV->Prop
 | some v,some u=>RelV v u
 | none,none=>True
 | _,_=>False
noncomputable def KV {κ:Type}:List (κ × V)->List (κ × gV)->Prop:=G5 fun (p : κ × V) (q : κ × gV)=>p.1=q.1/\RelV p.2 q.2
noncomputable def kV:Key->V
 | .inl i => .int i
 | .inr x => .str x
inductive HO where
 | lst (xs:List V)
 | tup (xs:List V)
 | dK (kvs:List (Key×V)) | dT (kvs:List (List Key×V))
 | set (S:Int->Bool) (n:Nat)
 | ins (C dx:Addr) (fs:List (Str×V))
 | own (x:Addr)
 | xd (fs:List (Str×V))
 | met (f x:Addr)
 | rng (lo hi:Int)
 | frz (o:Obj) (u:HO)
 | tbl (ps:Array gV)
 | ext (φ:Heap->Prop)
noncomputable abbrev Hp:=Addr->Option HO
noncomputable def upd (H:Hp) (a:Addr) (o:HO):Hp:=fun b=>if b=a then some o else H b
theorem ar {H:Hp} {a:Addr} {o:HO}:upd H a o a=some o:=by unfold upd;rw [if_pos rfl]
theorem ai {H:Hp} {a b:Addr} {o:HO} (h:b≠a):upd H a o b=H b:=by unfold upd;rw [if_neg h]
theorem yc {H:Hp} {a:Addr} {o u:HO}:upd (upd H a o) a u=upd H a u:=by
 funext b;unfold upd;split <;> rfl
theorem xo {H:Hp} {a b:Addr} {o u:HO} (h:H a=some o) (h':H b=some u) (d:o≠u):a≠b:=by
 intro e;subst e;rw [h] at h';exact d (Hu.inj h')
theorem aR {H:Hp} {a b:Addr} {o:HO} (h:H a=some o) (h':H b=none):a≠b:=by
 intro e;subst e;rw [h] at h';cases h'
section
variable (P:FI) (w:G2)
noncomputable def ObjOk (H:Hp) (h:Heap) (a:Addr):HO->Prop
 | .lst xs=>xs.length<=Fj /\ ∃ (its:List gV) (n:Nat),Vals xs its/\h.get? a=some { cls := .type "list",data := .seq its.toArray n }
 | .tup xs=>xs.length<=Fj /\ ∃ its:List gV,Vals xs its/\IsTup h a its.toArray
 | .dK kvs=>kvs.length<=Fj/\(a==H0)=false /\ ∃ vs,KV kvs vs/\h.DictOf (aD P w) a vs
 | .dT kvs=>kvs.length<=Fj/\(a==H0)=false /\ ∃ xs:List (List Key×Addr×gV),
  G5 (fun (p:List Key×V) (q:List Key×Addr×gV)=>p.1=q.1/\H q.2.1=some (.tup (p.1.map kV))/\RelV p.2 q.2.2) kvs xs /\
  ∃ o es ep,h.get? a=some o/\o.ExactDict/\o.data = .dict es ep/\es.toList=xs.map (entryOfKey (Jl (aD P w)))/\(xs.map (·.1)).Nodup
 | .set S n=>h.SetOf (intKind P w) a S n
 | .ins C dx fs=>H dx=some (.own a)/\fs.length<=1000/\dx≠a/\h.get? a=some (Lw C dx) /\
  ∃ mA,h.Ns1 dx mA/\(∀ f,RelO (fs.lookup f) (mA f))/\PySem.Within mA (fs.map (·.1))
 | .own _ => ∃ o,h.get? a=some o
 | .xd fs => ∃ mA,h.Ns1 a mA /\ ∀ f,RelO (fs.lookup f) (mA f)
 | .rng lo hi => ∃ t u v,h.get? a=some { cls := .type "range",data := .fields #[.int lo t, .int hi u, .int 1 v] }
 | .frz o u=>h.get? a=some o/\ObjOk H h a u
 | .tbl ps=>h.get? a=some { cls := .none,data := .fields ps }
 | .met f x=>h.get? a=some (KA (.ref f) (.ref x))
 | .ext φ => φ h/\(∃ o,h.get? a=some o) /\ ∀ h1 h2:Heap, φ h1->(∀ o,h1.get? a=some o->h2.get? a=some o) -> φ h2
def HOk (H:Hp) (h:Heap):Prop := ∀ a o,H a=some o->ObjOk P w H h a o
end
section
variable {P:FI} {w:G2} {H H':Hp} {h h':Heap} {a:Addr} {o:HO}
theorem ObjOk.lt (x:ObjOk P w H h a o):a < h.objs.size:=by
 cases o with
 | lst xs=>obtain ⟨_,_,_,_,e⟩:=x;exact Fg e
 | tup xs=>obtain ⟨_,_,_,p⟩:=x;exact p.lt
 | dK kvs=>obtain ⟨_,_,_,_,o,_,_,e,_⟩:=x;exact Fg e
 | dT kvs=>obtain ⟨_,_,_,_,o,_,_,e,_⟩:=x;exact Fg e
 | set S n=>obtain ⟨o,_,_,_,e,_⟩:=x;exact Fg e
 | ins C dx fs=>obtain ⟨_,_,_,e,_⟩:=x;exact Fg e
 | own y=>obtain ⟨_,e⟩:=x;exact Fg e
 | xd fs=>obtain ⟨_,⟨_,_,_,e,_⟩,_⟩:=x;exact Fg e
 | rng lo hi=>obtain ⟨_,_,_,e⟩:=x;exact Fg e
 | frz ob u=>obtain ⟨e,_⟩:=x;exact Fg e
 | tbl ps=>exact Fg (show h.get? a=some _ from x)
 | met f y=>exact Fg (show h.get? a=some _ from x)
 | ext φ => obtain ⟨_,⟨_,e⟩,_⟩:=x;exact Fg e
theorem OO {α β:Type} {F G : α -> β -> Prop}:∀ {l₁:List α} {l₂:List β},G5 F l₁ l₂ -> (∀ a b,F a b->G a b)->G5 G l₁ l₂
 | _,_, .nil,_ => .nil
 | _,_, .cons r t,f => .cons (f _ _ r) (OO t f)
theorem ObjOk.stay (x:ObjOk P w H h a o) (k:∀ b u,(b=a∨H b=some (.own a))->h.get? b=some u->h'.get? b=some u)
 (ho:∀ b,H b=some (.own a)->H' b=some (.own a)) (j:∀ b xs,H b=some (.tup xs)->H' b=some (.tup xs)):ObjOk P w H' h' a o:=by
 induction o with
 | lst xs=>obtain ⟨z,its,n,r,e⟩:=x;exact ⟨z,its,n,r,k _ _ (.inl rfl) e⟩
 | tup xs=>obtain ⟨z,its,r,ob,e,c⟩:=x;exact ⟨z,its,r,ob,k _ _ (.inl rfl) e,c⟩
 | dK kvs=>obtain ⟨z,y,vs,r,ob,es,ep,e,c⟩:=x;exact ⟨z,y,vs,r,ob,es,ep,k _ _ (.inl rfl) e,c⟩
 | dT kvs =>
   obtain ⟨z,y,xs,r,ob,es,ep,e,c⟩:=x;exact ⟨z,y,xs,OO r fun p q z=>⟨z.1,j _ _ z.2.1,z.2.2⟩,ob,es,ep,k _ _ (.inl rfl) e,c⟩
 | set S n=>obtain ⟨ob,es,ep,t,e,c⟩:=x;exact ⟨ob,es,ep,t,k _ _ (.inl rfl) e,c⟩
 | ins C dx fs =>
   obtain ⟨d,z,ne,e,mA,⟨od,es,ep,e2,c⟩,r⟩:=x;exact ⟨ho _ d,z,ne,k _ _ (.inl rfl) e,mA,⟨od,es,ep,k _ _ (.inr d) e2,c⟩,r⟩
 | own y=>obtain ⟨ob,e⟩:=x;exact ⟨ob,k _ _ (.inl rfl) e⟩
 | xd fs=>obtain ⟨mA,⟨od,es,ep,e,c⟩,r⟩:=x;exact ⟨mA,⟨od,es,ep,k _ _ (.inl rfl) e,c⟩,r⟩
 | rng lo hi=>obtain ⟨t,u,v,e⟩:=x;exact ⟨t,u,v,k _ _ (.inl rfl) e⟩
 | frz ob u ih=>obtain ⟨e,q⟩:=x;exact ⟨k _ _ (.inl rfl) e,ih q⟩
 | tbl ps =>
   have e:h.get? a=some { cls := .none,data := .fields ps }:=x;show h'.get? a=some { cls := .none,data := .fields ps };exact k a _ (.inl rfl) e
 | met f y =>
   have e:h.get? a=some (KA (.ref f) (.ref y)):=x;show h'.get? a=some (KA (.ref f) (.ref y));exact k a _ (.inl rfl) e
 | ext φ => obtain ⟨p,⟨o,e⟩,st⟩:=x;exact ⟨st _ _ p fun o q=>k _ _ (.inl rfl) q,⟨o,k _ _ (.inl rfl) e⟩,st⟩
theorem HOk.lt (x:HOk P w H h) (e:H a=some o):a < h.objs.size:=(x a o e).lt
theorem HOk.fresh (x:HOk P w H h) (e:h.objs.size<=a):H a=none:=by
 cases q:H a with
 | none=>rfl
 | some u=>exact absurd (FW (x.lt q) e) (Gy _)
theorem HOk.kept (x:HOk P w H h) (k:∀ b u,h.get? b=some u->h'.get? b=some u):HOk P w H h':=fun a o e =>
 (x a o e).stay (fun b u _ q=>k b u q) (fun _ q=>q) fun _ _ q=>q
theorem HOk.laid (x:HOk P w H h) (k:∀ b u,h.get? b=some u->h'.get? b=some u) (z:h.objs.size<=a) (new:ObjOk P w (upd H a o) h' a o):HOk P w (upd H a o) h':=fun b u e=>by
 have j:=x.fresh z
 by_cases hb:b=a
 ·subst hb;rw [ar] at e;cases e;exact new
 ·rw [ai hb] at e;exact (x b u e).stay (fun c v _ q=>k c v q) (fun c q=>by rw [ai (aR q j)];exact q) fun c xs q=>by rw [ai (aR q j)];exact q
end
def Rd (H:Hp) (a:Addr) (u:HO):Prop:=H a=some u ∨ ∃ o,H a=some (.frz o u)
theorem Rd.of {H:Hp} {a:Addr} {u:HO} (h:H a=some u):Rd H a u := .inl h
theorem Rd.ok {P:FI} {w:G2} {H:Hp} {h:Heap} {a:Addr} {u:HO} (r:Rd H a u) (x:HOk P w H h):ObjOk P w H h a u:=by
 rcases r with r | ⟨o,r⟩
 ·exact x a u r
 ·obtain ⟨_,q⟩:=x a _ r;exact q
noncomputable def Mut:Option HO->Prop
 | some (.lst _)=>True
 | some (.dK _)=>True
 | some (.dT _)=>True
 | some (.set _ _)=>True
 | some (.ins _ _ _)=>True
 | some (.ext _)=>True
 | _=>False
section
variable {P:FI} {w:G2} {H:Hp} {h h':Heap} {x e:Addr} {o':HO}
theorem HOk.write (ok:HOk P w H h) (mu:Mut (H x)) (he:e=x∨H e=some (.own x)) (k:∀ b u,b≠e->h.get? b=some u->h'.get? b=some u) (F:∃ u,h'.get? e=some u)
 (new:ObjOk P w (upd H x o') h' x o'):HOk P w (upd H x o') h':=fun b u q=>by
 have nown:∀ c y,H c=some (.own y)->c≠x:=fun c y r z=>by subst z;rw [r] at mu;exact mu
 have ntup:∀ c xs,H c=some (.tup xs)->c≠x:=fun c xs r z=>by subst z;rw [r] at mu;exact mu
 by_cases hb:b=x
 ·subst hb;rw [ar] at q;cases q;exact new
 ·rw [ai hb] at q
  by_cases j:b=e
  ·have q':H b=some (.own x):=by
    rcases he with z | z
    ·exact absurd (j.trans z) hb
    ·rw [j];exact z
   rw [q] at q';cases q';obtain ⟨v,G⟩:=F;exact ⟨v,by rw [j];exact G⟩
  ·refine (ok b u q).stay (fun c v B r=>k c v ?_ r) (fun c r=>by rw [ai (nown c b r)];exact r) fun c xs r=>by rw [ai (ntup c xs r)];exact r
   rcases B with rfl | B
   ·exact j
   ·rintro rfl
    rcases he with z | z
    ·exact nown c b B z
    ·rw [B] at z;cases z;exact hb rfl
end
structure Un (fs ex:List Addr) (H H':Hp) (h h':Heap):Prop where
 keep:∀ b o,h.get? b=some o->H b=none->b∉fs->b∉ex->h'.get? b=some o
 slot:∀ b o,h.get? b=some o->H b=none->b∈fs->b∉ex -> ∃ sl,h'.get? b=some { o with slots:=sl }
 free:∀ b o,h.get? b=some o->H b=none->b∉ex->H' b=none
 there:∀ b o,h.get? b=some o->b∉ex -> ∃ o',h'.get? b=some o'
 tups:∀ b xs,H b=some (.tup xs)->H' b=some (.tup xs)
 frzs:∀ b o u,H b=some (.frz o u)->H' b=some (.frz o u)
 tbls:∀ b ps,H b=some (.tbl ps) -> ∃ more,H' b=some (.tbl (ps++more))
section
variable {fs fs' ex ex':List Addr} {H H1 H2:Hp} {h h1 h2 h':Heap} {a x e:Addr} {o:HO}
theorem Un.any (u:Un fs ex H H1 h h1) {b:Addr} {ob:Obj} (q:h.get? b=some ob) (n:H b=none) (hx:b∉ex):∃ sl,h1.get? b=some { ob with slots:=sl }:=by
 by_cases j:b∈fs
 ·exact u.slot b ob q n j hx
 ·exact ⟨ob.slots,u.keep b ob q n j hx⟩
theorem Un.kept (k:∀ b u,h.get? b=some u->h'.get? b=some u):Un fs ex H H h h' :=
 ⟨fun b ob q _ _ _=>k b ob q,fun b ob q _ _ _=>⟨ob.slots,k b ob q⟩,fun _ _ _ n _=>n,fun b ob q _=>⟨ob,k b ob q⟩,fun _ _ q=>q,fun _ _ _ q=>q,fun _ ps q=>⟨#[],by rw [q];simp⟩⟩
theorem Un.refl:Un fs ex H H h h:=Un.kept fun _ _ q=>q
theorem Un.laid (k:∀ b u,h.get? b=some u->h'.get? b=some u) (z:h.objs.size<=a) (j:H a=none):Un fs ex H (upd H a o) h h' where
 keep:=fun b u q _ _ _=>k b u q
 slot:=fun b u q _ _ _=>⟨u.slots,k b u q⟩
 free:=fun b u q n _=>by rw [ai (FR (FW (Fg q) z))];exact n
 there:=fun b u q _=>⟨u,k b u q⟩
 tups:=fun b xs q=>by rw [ai (aR q j)];exact q
 frzs:=fun b u xs q=>by rw [ai (aR q j)];exact q
 tbls:=fun b ps q=>⟨#[],by rw [ai (aR q j),q];simp⟩
theorem Un.write (mu:Mut (H x)) (he:e=x∨H e=some (.own x)) (k:∀ b u,b≠e->h.get? b=some u->h'.get? b=some u) (B:∃ u,h'.get? e=some u):Un fs ex H (upd H x o) h h':=by
 have hx:∀ b,H b=none->b≠x:=fun b n z=>by subst z;rw [n] at mu;exact mu
 have F:∀ b,H b=none->b≠e:=fun b n z=>by
  subst z
  rcases he with r | r
  ·exact hx b n r
  ·rw [n] at r;cases r
 have hm:∀ b u,H b=some u -> ¬ Mut (some u)->b≠x:=fun b u q nm z=>by subst z;rw [q] at mu;exact nm mu
 refine ⟨fun b u q n _ _=>k b u (F b n) q,fun b u q n _ _=>⟨u.slots,k b u (F b n) q⟩,fun b u q n _=>by rw [ai (hx b n)];exact n,fun b u q _ => ?_,
  fun b xs q=>by rw [ai (hm b _ q fun z=>z)];exact q,fun b u xs q=>by rw [ai (hm b _ q fun z=>z)];exact q,fun b ps q=>⟨#[],by rw [ai (hm b _ q fun z=>z),q];simp⟩⟩
 by_cases j:b=e
 ·subst j;exact B
 ·exact ⟨u,k b u j q⟩
end
noncomputable def trk (h:Heap) (H:Hp):List Addr:=(Hf h.objs.size).filter fun a=>(H a).isSome
noncomputable def eN (h:Heap) (H:Hp):Heap:=PySem.W.hideAll h (trk h H)
theorem s8 (h:Heap) (H:Hp):(eN h H).objs.size=h.objs.size:=PySem.W.hideAll_size _ _
theorem uY {h:Heap} {H:Hp} {b:Addr} {o:Obj} (e:h.get? b=some o) (n:H b=none):(eN h H).get? b=some o :=
 PySem.W.hideAll_get _ e fun hm=>by
  have q:(H b).isSome=true:=(Hh.mp hm).2;rw [n] at q;simp at q
theorem yd {h:Heap} {H:Hp} {b:Addr} {o:Obj} (e:(eN h H).get? b=some o):h.get? b=some o/\H b=none:=by
 have e':h.get? b=some o:=PySem.W.of_hideAll (trk h H) e;refine ⟨e', ?_⟩
 cases q:H b with
 | none=>rfl
 | some x =>
   have hm:b∈trk h H:=Hh.mpr ⟨Kj.mpr (Fg e'),by simp [q]⟩
   have z:(eN h H).get? b=none:=PySem.W.hideAll_none (trk h H) hm;rw [z] at e;cases e
noncomputable def ye (g h:Heap) (L:Addr):List (Addr×Obj):=(Hf h.objs.size).filterMap fun a=>if a=L∨(g.get? a).isSome=true then none else (h.get? a).map fun o=>(a,o)
noncomputable def rest (g h:Heap) (L d:Addr):List (Addr×Obj):=(ye g h L).filter fun p=>decide (p.1≠d)
end
section
structure Mod (K:Frag) (mg:Str->Option gV) (base:Heap):Prop where
 kin:K.In base
 glob:base.Ns GD mg
 blt:∃ mb,base.Ns Of mb /\ ∀ x:Str,x ≠ "__name__" -> mb x=HI x
 nolimit:base.NoLimit
structure Cx where
 prog:FI
 w:G2
 K:Frag
 mg:Str->Option gV
 base:Heap
 A:G8
 N:List Str
 s₀:tv
 H₀:Hp
 env:Env
 outer:List Env
 stack:List Env
 ex:List Addr
 fn:Str->Bool
 calm:Bool
 pn:List (Addr×Obj)
 xe:gV->tv->Prop
noncomputable def frs (l:List Env):List Addr:=l.filterMap (·.frame)
noncomputable abbrev Cx.fs (X:Cx):List Addr:=frs X.outer
def Vis (sc:Scope) (x:Str):Prop:=sc.names.lookup x=some .local∨sc.names.lookup x=some .cell∨sc.names.lookup x=some .free
def Loc (sc:Scope) (x:Str):Prop:=sc.names.lookup x=some .local∨sc.names.lookup x=some .cell
def Co (env:Env) (h:Heap) (m:Str->Option gV) (x:Str) (u:gV):Prop :=
 (env.kindOf x=some .local/\m x=some u)∨((env.kindOf x=some .cell∨env.kindOf x=some .free) /\ ∃ c,env.cells.lookup x=some c/\h.IsCell c (some u))
structure Cx.Ok (X:Cx):Prop where
 mod:Mod X.K X.mg X.base
 kind:X.env.scope.kind = .function
 glob:X.env.globals=GD
 blt:X.env.builtins=Of
 above:X.s₀.heap.objs.size<=X.env.locals
 inj:∀ x y c,X.env.cells.lookup x=some c->X.env.cells.lookup y=some c->x=y
 has:∀ x,(X.env.kindOf x=some .cell∨X.env.kindOf x=some .free) -> ∃ c,X.env.cells.lookup x=some c
 cab:∀ x c,X.fn x=true->X.env.cells.lookup x=some c->X.s₀.heap.objs.size<=c
 hd:X.calm=true->X.A.handled=none
 frames:X.A.frames=some X.stack
 stk:X.stack=X.outer∨(X.stack=X.env::X.outer/\X.env.frame=some X.env.locals)
 exf:∀ b∈X.ex,b≠X.env.locals /\ ∀ x c,X.env.cells.lookup x=some c->c≠b
 bs:∀ b o,X.base.get? b=some o->X.s₀.heap.get? b=some o/\X.H₀ b=none
 bsz:X.base.objs.size<=X.s₀.heap.objs.size
 noex:∀ b o,X.base.get? b=some o->b∉X.ex
 exfs:∀ b∈X.ex,b∉X.fs
 funs:X.s₀.heap.FunFrames X.base X.outer
 frf:∀ b∈X.fs,X.H₀ b=none
structure Inv (X:Cx) (pins:List (Addr×Obj)) (σ:List (Option V)) (H:Hp) (s:tv):Prop where
 ok:X.Ok
 os:s.os=X.s₀.os
 bare:KD s.gens
 base:Un X.fs X.ex X.H₀ H X.s₀.heap s.heap
 loc:∃ m,s.heap.Ns X.env.locals m /\ ∀ (i:Nat) (x:Str) (v:V),X.N[i]? = some x -> σ[i]? = some (some v)->Vis X.env.scope x -> ∃ u,RelV v u/\Co X.env s.heap m x u
 cell:∀ x c,X.env.cells.lookup x=some c -> ∃ v,s.heap.IsCell c v
 free:H X.env.locals=none
 freeC:∀ x c,X.env.cells.lookup x=some c->H c=none
 pin:∀ p∈X.pn++pins,s.heap.get? p.1=some p.2/\H p.1=none/\p.1≠X.env.locals/\p.1∉X.fs /\ ∀ v,p.2.data ≠ .cell v
 hok:HOk X.prog X.w H s.heap
 len : σ.length=X.N.length
section
variable {X:Cx} {pins:List (Addr×Obj)} {σ:List (Option V)} {H H':Hp} {s:tv} {h':Heap}
theorem Cx.Ok.nofr (ok:X.Ok) {b:Addr} {o:Obj} (e:X.base.get? b=some o):b∉X.fs:=fun j=>by
 have:=(ok.funs.mem j).1;rw [e] at this;cases this
theorem Inv.bs (I:Inv X pins σ H s):∀ b o,X.base.get? b=some o->s.heap.get? b=some o/\H b=none:=fun b o e =>
 ⟨I.base.keep b o (I.ok.bs b o e).1 (I.ok.bs b o e).2 (I.ok.nofr e) (I.ok.noex b o e),I.base.free b o (I.ok.bs b o e).1 (I.ok.bs b o e).2 (I.ok.noex b o e)⟩
theorem Inv.bk (I:Inv X pins σ H s):∀ b o,X.base.get? b=some o->s.heap.get? b=some o:=fun b o e=>(I.bs b o e).1
theorem Inv.mod (I:Inv X pins σ H s):Mod X.K X.mg X.base:=I.ok.mod
theorem Inv.kIn (I:Inv X pins σ H s):X.K.In s.heap:=I.ok.mod.kin.keeps I.bk
theorem Inv.lt (I:Inv X pins σ H s):X.env.locals < s.heap.objs.size:=let ⟨_,j,_⟩:=I.loc;j.lt
theorem Inv.sz (I:Inv X pins σ H s):X.s₀.heap.objs.size<=s.heap.objs.size:=Ho I.ok.above (IV I.lt)
theorem Inv.nofs (I:Inv X pins σ H s) {a:Addr} (h:s.heap.objs.size<=a):a∉X.fs:=fun j=>by
 obtain ⟨_,o,ho,_⟩:=I.ok.funs.mem j;exact absurd (FW (Fg ho) (Ho I.sz h)) (Gy _)
theorem Inv.cne (I:Inv X pins σ H s):∀ x c,X.env.cells.lookup x=some c->c≠X.env.locals:=fun x c e z=>by
 obtain ⟨v,o,ho,hd⟩:=I.cell x c e;obtain ⟨m,⟨o',es,ep,j,q,_⟩,_⟩:=I.loc;rw [z,j] at ho;cases ho;rw [q] at hd;cases hd
theorem Inv.funs (I:Inv X pins σ H s):s.heap.FunFrames X.base X.outer:=by
 have all:∀ (l:List Env),(∀ b∈frs l,b∈X.fs)->X.s₀.heap.FunFrames X.base l->s.heap.FunFrames X.base l:=by
  intro l
  induction l with
  | nil=>intro _ _;trivial
  | cons env r ih =>
    intro hs B;obtain ⟨F,⟨L,o,hf,G,ho,hd⟩,J⟩:=B;have j:L∈X.fs:=hs L (by unfold frs;rw [Ka,hf];exact Gd)
    obtain ⟨sl,e⟩:=I.base.slot L o ho (I.ok.frf L j) j fun z=>I.ok.exfs L z j;exact ⟨F,⟨L,_,hf,G,e,hd⟩,ih (fun b q=>hs b (by unfold frs;rw [Ka,hf];exact FN _ q)) J⟩
 exact all X.outer (fun _ q=>q) I.ok.funs
theorem Inv.stack (I:Inv X pins σ H s):s.heap.FunFrames X.base X.stack:=by
 rcases I.ok.stk with e | ⟨e,hf⟩
 ·rw [e];exact I.funs
 ·rw [e];obtain ⟨m,j,_⟩:=I.loc;refine .cons (by rw [I.ok.kind];decide) hf j ?_ I.funs
  exact Heap.get?_none_of_le (Ho I.ok.bsz I.ok.above)
theorem Inv.stkSub (I:Inv X pins σ H s):∀ b∈frs X.stack,b∈X.env.locals::X.fs:=fun b j=>by
 rcases I.ok.stk with e | ⟨e,hf⟩
 ·rw [e] at j;exact FN _ j
 ·rw [e] at j;unfold frs at j;rw [Ka,hf] at j;exact j
theorem Inv.stkFree (I:Inv X pins σ H s):∀ b∈frs X.stack,H b=none:=fun b j=>by
 rcases Fo.mp (I.stkSub b j) with e | j
 ·rw [e];exact I.free
 ·obtain ⟨_,o,ho,_⟩:=I.ok.funs.mem j;exact I.base.free b o ho (I.ok.frf b j) fun z=>I.ok.exfs b z j
theorem Inv.step {g':Array GenState} {t':Nat} {d':Drawn} {ch:List Addr} (I:Inv X pins σ H s)
 (j:∀ b∈ch,(b∈X.ex∨X.s₀.heap.objs.size<=b)/\b≠X.env.locals/\(∀ x c,X.env.cells.lookup x=some c->c≠b) /\ ∀ p∈X.pn++pins,p.1≠b)
 (keep:∀ b o,b≠X.env.locals->b∉X.fs->b∉ch->s.heap.get? b=some o->H b=none->h'.get? b=some o)
 (slot:∀ b o,b≠X.env.locals->b∈X.fs->b∉ch->s.heap.get? b=some o->H b=none -> ∃ sl,h'.get? b=some { o with slots:=sl }) (free:∀ b o,b∉ch->s.heap.get? b=some o->H b=none->H' b=none)
 (there:∀ b o,b∉ch->s.heap.get? b=some o -> ∃ o',h'.get? b=some o')
 (tups:∀ b xs,H b=some (.tup xs)->H' b=some (.tup xs)) (frzs:∀ b o u,H b=some (.frz o u)->H' b=some (.frz o u)) (tbls:∀ b ps,H b=some (.tbl ps) -> ∃ more,H' b=some (.tbl (ps++more)))
 (ns:∀ m,s.heap.Ns X.env.locals m->h'.Ns X.env.locals m) (hok:HOk X.prog X.w H' h') (J:KD g') :
 Inv X pins σ H' { s with heap:=h',gens:=g',drawn:=d',toks:=t' }:=by
 have neL:∀ b o,X.s₀.heap.get? b=some o->b≠X.env.locals:=fun b o e=>FR (FW (Fg e) I.ok.above);have neC:∀ b o,X.s₀.heap.get? b=some o->b∉X.ex->b∉ch:=fun b o e hx B=>by
  rcases (j b B).1 with z | z
  ·exact hx z
  ·exact absurd (FW (Fg e) z) (Gy _)
 have cellK:∀ x c,X.env.cells.lookup x=some c -> ∀ v,s.heap.IsCell c v->h'.IsCell c v:=fun x c e v ⟨o,ho,hd⟩=>by
  have nch:c∉ch:=fun z=>(j c z).2.2.1 x c e rfl
  by_cases F:c∈X.fs
  ·obtain ⟨sl,q⟩:=slot c o (I.cne x c e) F nch ho (I.freeC x c e);exact ⟨_,q,hd⟩
  ·exact ⟨o,keep c o (I.cne x c e) F nch ho (I.freeC x c e),hd⟩
 refine ⟨I.ok,I.os,J,⟨fun b o e n B hx => ?_,fun b o e n B hx => ?_,fun b o e n hx => ?_,fun b o e hx => ?_,fun b xs e=>tups b xs (I.base.tups b xs e),fun b o xs e=>frzs b o xs (I.base.frzs b o xs e),fun b ps e => ?_⟩, ?_,fun x c e => ?_, ?_,fun x c e => ?_,fun p G => ?_,hok,I.len⟩
 ·exact keep b o (neL b o e) B (neC b o e hx) (I.base.keep b o e n B hx) (I.base.free b o e n hx)
 ·obtain ⟨sl,e1⟩:=I.base.slot b o e n B hx;obtain ⟨sl',e2⟩:=slot b _ (neL b o e) B (neC b o e hx) e1 (I.base.free b o e n hx);exact ⟨sl',e2⟩
 ·obtain ⟨o',e1⟩:=I.base.there b o e hx;exact free b o' (neC b o e hx) e1 (I.base.free b o e n hx)
 ·obtain ⟨o',e1⟩:=I.base.there b o e hx;exact there b o' (neC b o e hx) e1
 ·obtain ⟨L,e1⟩:=I.base.tbls b ps e;obtain ⟨O,e2⟩:=tbls b _ e1;exact ⟨L++O,by rw [e2,Array.append_assoc]⟩
 ·obtain ⟨m,U,Y⟩:=I.loc;refine ⟨m,ns m U,fun i x v e1 e2 Z => ?_⟩;obtain ⟨u,r,l⟩:=Y i x v e1 e2 Z;refine ⟨u,r, ?_⟩
  rcases l with l | ⟨k,c,e,z⟩
  ·exact .inl l
  ·exact .inr ⟨k,c,e,cellK x c e _ z⟩
 ·obtain ⟨v,z⟩:=I.cell x c e;exact ⟨v,cellK x c e v z⟩
 ·obtain ⟨m,⟨o,_,_,ho,_⟩,_⟩:=I.loc;exact free _ o (fun z=>(j _ z).2.1 rfl) ho I.free
 ·obtain ⟨v,o,ho,hd⟩:=I.cell x c e;exact free c o (fun z=>(j c z).2.2.1 x c e rfl) ho (I.freeC x c e)
 ·obtain ⟨e,n,ne,nf,d⟩:=I.pin p G;have nch:p.1∉ch:=fun z=>(j p.1 z).2.2.2 p G rfl;exact ⟨keep p.1 p.2 ne nf nch e n,free p.1 p.2 nch e n,ne,nf,d⟩
theorem Inv.un {t':Nat} (I:Inv X pins σ H s) (u:Un X.fs [] H H' s.heap h') (hok:HOk X.prog X.w H' h'):Inv X pins σ H' { s with heap:=h',toks:=t' }:=by
 obtain ⟨m,⟨o,es,ep,ho,r⟩,_⟩:=id I.loc;obtain ⟨sl,B⟩:=u.any ho I.free (by simp)
 exact I.step (g':=s.gens) (d':=s.drawn) (ch := []) (fun _ z=>nomatch z) (fun b o _ q _ e n=>u.keep b o e n q (by simp)) (fun b o _ q _ e n=>u.slot b o e n q (by simp)) (fun b o _ e n=>u.free b o e n (by simp)) (fun b o _ e=>u.there b o e (by simp)) u.tups u.frzs u.tbls (fun m' hm=>by
  obtain ⟨o',es',ep',j,r'⟩:=hm;rw [ho] at j;cases j;exact ⟨_,es',ep',B,r'⟩) hok I.bare
theorem Inv.call {g':Array GenState} {t':Nat} {d':Drawn} {ch:List Addr} (I:Inv X pins σ H s) (u:Un (frs X.stack) ch H H' s.heap h') (hok:HOk X.prog X.w H' h') (G:KD g')
 (q:∀ b∈ch,(b∈X.ex∨X.s₀.heap.objs.size<=b)/\b≠X.env.locals/\(∀ x c,X.env.cells.lookup x=some c->c≠b) /\ ∀ p∈X.pn++pins,p.1≠b) :
 Inv X pins σ H' { s with heap:=h',gens:=g',drawn:=d',toks:=t' }:=by
 obtain ⟨m,⟨o,es,ep,ho,r⟩,_⟩:=id I.loc;obtain ⟨sl,F⟩:=u.any ho I.free fun z=>(q _ z).2.1 rfl;exact I.step (ch:=ch) q (fun b o F J j e n=>u.keep b o e n (fun z=>(Fo.mp (I.stkSub b z)).elim F J) j) (fun b o _ _ j e n=>u.any e n j) (fun b o j e n=>u.free b o e n j) (fun b o j e=>u.there b o e j) u.tups u.frzs u.tbls (fun m' hm=>by
  obtain ⟨o',es',ep',B,r'⟩:=hm;rw [ho] at B;cases B;exact ⟨_,es',ep',F,r'⟩) hok G
theorem Inv.turned {t':Nat} {it:Addr} (I:Inv X pins σ H s) (k:∀ b o,b≠it->s.heap.get? b=some o->h'.get? b=some o) (F:H it=none) (B:it≠X.env.locals)
 (h1:it∈X.ex∨X.s₀.heap.objs.size<=it) (h2:∀ x c,X.env.cells.lookup x=some c->c≠it) (G:∀ p∈X.pn++pins,p.1≠it):Inv X pins σ H { s with heap:=h',toks:=t' }:=by
 have nit:∀ b u,H b=some u->b≠it:=fun b u e z=>by rw [z,F] at e;cases e
 refine I.step (g':=s.gens) (d':=s.drawn) (ch := [it]) (fun b J => ?_) (fun b o _ _ j e _=>k b o (fun z=>j (by simp [z])) e) (fun b o _ _ j e _=>⟨o.slots,k b o (fun z=>j (by simp [z])) e⟩) (fun _ _ _ _ n=>n)
  (fun b o j e=>⟨o,k b o (fun z=>j (by simp [z])) e⟩) (fun _ _ e=>e) (fun _ _ _ e=>e) (fun b ps e=>⟨#[],by rw [e];simp⟩) (fun m hm => ?_) (fun b u e => ?_) I.bare
 ·have e:b=it:=by simpa using J
  subst e;exact ⟨h1,B,h2,G⟩
 ·obtain ⟨o,es,ep,ho,r⟩:=hm;exact ⟨o,es,ep,k _ o (Ne.symm B) ho,r⟩
 ·refine (I.hok b u e).stay (fun c v j q=>k c v ?_ q) (fun _ q=>q) fun _ _ q=>q
  rcases j with z | z
  ·rw [z];exact nit b u e
  ·exact nit c _ z
theorem Inv.tok (I:Inv X pins σ H s) (t:Nat):Inv X pins σ H { s with toks:=t }:=I.un (h':=s.heap) (t':=t) Un.refl I.hok
theorem Inv.kept {t':Nat} (I:Inv X pins σ H s) (k:∀ b u,s.heap.get? b=some u->h'.get? b=some u):Inv X pins σ H { s with heap:=h',toks:=t' }:=I.un (Un.kept k) (I.hok.kept k)
theorem Inv.laid {a:Addr} {o:HO} {t':Nat} (I:Inv X pins σ H s) (k:∀ b u,s.heap.get? b=some u->h'.get? b=some u) (j:s.heap.objs.size<=a) (new:ObjOk X.prog X.w (upd H a o) h' a o) :
 Inv X pins σ (upd H a o) { s with heap:=h',toks:=t' }:=I.un (Un.laid k j (I.hok.fresh j)) (I.hok.laid k j new)
theorem Inv.write {x e:Addr} {o:HO} {t':Nat} (I:Inv X pins σ H s) (mu:Mut (H x)) (he:e=x∨H e=some (.own x)) (k:∀ b u,b≠e->s.heap.get? b=some u->h'.get? b=some u) (j:∃ u,h'.get? e=some u)
 (new:ObjOk X.prog X.w (upd H x o) h' x o):Inv X pins σ (upd H x o) { s with heap:=h',toks:=t' }:=I.un (Un.write mu he k j) (I.hok.write mu he k j new)
theorem Inv.pins_of {pins':List (Addr×Obj)} (I:Inv X pins σ H s) (h:∀ p∈pins',s.heap.get? p.1=some p.2/\H p.1=none/\p.1≠X.env.locals/\p.1∉X.fs /\ ∀ v,p.2.data ≠ .cell v):Inv X pins' σ H s :=
 ⟨I.ok,I.os,I.bare,I.base,I.loc,I.cell,I.free,I.freeC,fun p j=>(FE.mp j).elim (fun z=>I.pin p (Gb _ z)) (h p),I.hok,I.len⟩
theorem lN {N:List Str} (q:N.Nodup) {i j:Nat} {x:Str} (a:N[i]? = some x) (b:N[j]? = some x):i=j:=by
 obtain ⟨h1,e1⟩:=FC.mp a;obtain ⟨h2,e2⟩:=FC.mp b;exact (List.getElem_inj q).mp (e1.trans e2.symm)
theorem s9 {M:JH} {A:G8} {E:gV->tv->Prop} {i:Nat} {x:Str} {v:V} {u:gV} {Q:Unit->tv->Prop} (I:Inv X pins σ H s) (hN:X.N.Nodup) (hi:X.N[i]? = some x) (hx:Loc X.env.scope x) (r:RelV v u)
 (h:∀ s',Inv X pins (σ.set i (some v)) H s'->(∃ a,GP a s.heap s'.heap/\(a=X.env.locals∨X.env.cells.lookup x=some a))->Q () s') (hf:X.fn x=true∨X.env.scope.names.lookup x=some .local:=by first | exact .inl rfl | exact .inr rfl | assumption):Fq M A (storeName X.env x u) Q E s:=by
 obtain ⟨m,hn,hl⟩:=id I.loc;have U:(X.env.scope.kind == .class || (X.env.scope.kind == .module&&X.env.locals != X.env.globals))=false:=by rw [I.ok.kind];rfl
 have Y:i < σ.length:=by rw [I.len];exact (FC.mp hi).1
 have cne:=I.cne;have tracked:∀ {a:Addr} {h':Heap},(∃ o,s.heap.get? a=some o/\H a=none)->GP a s.heap h'->HOk X.prog X.w H h':=fun {a h'} ha hs b ob e=>by
  obtain ⟨_,_,F⟩:=ha;refine (I.hok b ob e).stay (fun c w' B q=>(hs.2 c ?_).trans q) (fun _ q=>q) fun _ _ q=>q;rintro rfl
  rcases B with rfl | B
  ·rw [F] at e;cases e
  ·rw [F] at B;cases B
 rcases hx with G | G
 ·refine wpAny_storeName_local G hn (fun h' D7 hs => ?_) U;obtain ⟨oL,_,_,D8,_⟩:=id hn;refine h _ ⟨I.ok,I.os,I.bare,⟨fun b o e n J hx => ?_,fun b o e n J hx => ?_,I.base.free,fun b o e hx => ?_,I.base.tups,I.base.frzs,I.base.tbls⟩,⟨_,D7,fun j y v' e1 e2 e3 => ?_⟩,fun y c e => ?_,I.free,I.freeC,fun p hp => ?_,tracked ⟨oL,D8,I.free⟩ hs,by simpa using I.len⟩ ⟨_,hs, .inl rfl⟩
  ·exact (hs.2 b (FR (FW (Fg e) I.ok.above))).trans (I.base.keep b o e n J hx)
  ·obtain ⟨sl,e1⟩:=I.base.slot b o e n J hx;exact ⟨sl,(hs.2 b (FR (FW (Fg e) I.ok.above))).trans e1⟩
  ·obtain ⟨o',e1⟩:=I.base.there b o e hx;exact ⟨o',(hs.2 b (FR (FW (Fg e) I.ok.above))).trans e1⟩
  ·by_cases L:j=i
   ·subst L;rw [hi] at e1;cases e1;rw [HJ Y] at e2
    cases e2
    exact ⟨u,r, .inl ⟨G,by simp⟩⟩
   ·rw [IM (Ne.symm L)] at e2;obtain ⟨u',r',q⟩:=hl j y v' e1 e2 e3;refine ⟨u',r', ?_⟩
    rcases q with ⟨k,e⟩ | ⟨k,c,e,z⟩
    ·refine .inl ⟨k, ?_⟩;have:y≠x:=fun e=>L (lN hN e1 (e ▸ hi));simp [this,e]
    ·exact .inr ⟨k,c,e,z.sameBut hs (cne y c e)⟩
  ·obtain ⟨w',z⟩:=I.cell y c e;exact ⟨w',z.sameBut hs (cne y c e)⟩
  ·obtain ⟨e,n,ne,nf,d⟩:=I.pin p hp;exact ⟨(hs.2 p.1 ne).trans e,n,ne,nf,d⟩
 ·have O:X.fn x=true:=by
   rcases hf with z | z
   ·exact z
   ·rw [z] at G;cases G
  obtain ⟨c,B⟩:=I.ok.has x (.inl G);obtain ⟨w',z⟩:=I.cell x c B;refine wpAny_storeName_cell I.ok.kind G B z (fun h' Z hs => ?_);obtain ⟨oc,D4,D5⟩:=id z;refine h { s with heap:=h' } ⟨I.ok,I.os,I.bare,⟨fun b o e n J hx => ?_,fun b o e n J hx => ?_,I.base.free,fun b o e hx => ?_,I.base.tups,I.base.frzs,I.base.tbls⟩,⟨m,hn.sameBut hs (Ne.symm (cne x c B)),fun j y v' e1 e2 e3 => ?_⟩,fun y c' e => ?_,I.free,I.freeC,fun p hp => ?_,tracked ⟨oc,D4,I.freeC x c B⟩ hs,by simpa using I.len⟩ ⟨c,hs, .inr B⟩
  ·exact (hs.2 b (FR (FW (Fg e) (I.ok.cab x c O B)))).trans (I.base.keep b o e n J hx)
  ·obtain ⟨sl,e1⟩:=I.base.slot b o e n J hx;exact ⟨sl,(hs.2 b (FR (FW (Fg e) (I.ok.cab x c O B)))).trans e1⟩
  ·obtain ⟨o',e1⟩:=I.base.there b o e hx;exact ⟨o',(hs.2 b (FR (FW (Fg e) (I.ok.cab x c O B)))).trans e1⟩
  ·by_cases L:j=i
   ·subst L;rw [hi] at e1;cases e1;rw [HJ Y] at e2
    cases e2
    exact ⟨u,r, .inr ⟨.inl G,c,B,Z⟩⟩
   ·rw [IM (Ne.symm L)] at e2;obtain ⟨u',r',q⟩:=hl j y v' e1 e2 e3;refine ⟨u',r', ?_⟩
    rcases q with q | ⟨k,c',e,z'⟩
    ·exact .inl q
    ·refine .inr ⟨k,c',e,z'.sameBut hs ?_⟩;rintro rfl;exact L (lN hN e1 (I.ok.inj _ _ _ e B ▸ hi))
  ·by_cases D6:c'=c
   ·subst D6;exact ⟨_,Z⟩
   ·obtain ⟨w2,z2⟩:=I.cell y c' e;exact ⟨w2,z2.sameBut hs D6⟩
  ·obtain ⟨e,n,ne,nf,d⟩:=I.pin p hp;refine ⟨(hs.2 p.1 ?_).trans e,n,ne,nf,d⟩;intro q;rw [q,D4] at e;have q':oc=p.2:=Hu.inj e;exact d w' (by rw [<- q'];exact D5)
theorem i5 {M:JH} {A:G8} {E:gV->tv->Prop} {i:Nat} {x:Str} {v:V} {u:gV} {Q:Unit->tv->Prop} (I:Inv X pins σ H s) (j:X.N.Nodup) (hi:X.N[i]? = some x) (hx:Loc X.env.scope x) (r:RelV v u)
 (h:∀ s',Inv X pins (σ.set i (some v)) H s'->Q () s') (hf:X.fn x=true∨X.env.scope.names.lookup x=some .local:=by first | exact .inl rfl | exact .inr rfl | assumption):Fq M A (storeName X.env x u) Q E s :=
 s9 I j hi hx r (fun s' I' _=>h s' I') hf
theorem Inv.call' {s':tv} {ch:List Addr} (I:Inv X pins σ H s) (ho:s'.os=s.os) (u:Un (frs X.stack) ch H H' s.heap s'.heap) (hok:HOk X.prog X.w H' s'.heap) (q:KD s'.gens)
 (j:∀ b∈ch,(b∈X.ex∨X.s₀.heap.objs.size<=b)/\b≠X.env.locals/\(∀ x c,X.env.cells.lookup x=some c->c≠b) /\ ∀ p∈X.pn++pins,p.1≠b):Inv X pins σ H' s':=by
 obtain ⟨h',g',d',t',o'⟩:=s';have e:o'=s.os:=ho;subst e;exact I.call (g':=g') (t':=t') (d':=d') u hok q j
end
noncomputable abbrev XK:=gV->Option Addr->Hp->Prop
noncomputable abbrev St:=List (Option V)
noncomputable abbrev VK:=V->Hp->Prop
noncomputable abbrev TE:=St->Hp->VK->Prop
noncomputable abbrev TT:=St->Hp->(Bool->Hp->Prop)->Prop
noncomputable abbrev TA:=St->Hp->(List V->Hp->Prop)->Prop
structure bu where
 nx:St->Hp->Prop
 rt:VK
 bk:St->Hp->Prop:=fun _ _=>False
 ct:St->Hp->Prop:=fun _ _=>False
noncomputable abbrev TS:=bu->St->Hp->Prop
def EP (X:Cx) (pins:List (Addr×Obj)) (σ:St) (Q:VK) (u:gV) (s':tv):Prop := ∃ v H',Inv X pins σ H' s'/\RelV v u/\Q v H'
def TP (X:Cx) (pins:List (Addr×Obj)) (σ:St) (Q:Bool->Hp->Prop) (b:Bool) (s':tv):Prop := ∃ H',Inv X pins σ H' s'/\Q b H'
def AP (X:Cx) (pins:List (Addr×Obj)) (σ:St) (Q:List V->Hp->Prop) (us:List gV) (s':tv):Prop := ∃ vs H',Inv X pins σ H' s'/\Vals vs us/\Q vs H'
def SP (X:Cx) (pins:List (Addr×Obj)) (D:bu) (f:Flow) (s':tv):Prop :=
 match f with
 | .next => ∃ σ' H',Inv X pins σ' H' s'/\D.nx σ' H'
 | .brk => ∃ σ' H',Inv X pins σ' H' s'/\D.bk σ' H'
 | .cont => ∃ σ' H',Inv X pins σ' H' s'/\D.ct σ' H'
 | .ret u => ∃ v σ' H',Inv X pins σ' H' s'/\RelV v u/\D.rt v H'
def PE (X:Cx) (e:Expr) (t:TE):Prop :=
 ∀ (pins:List (Addr×Obj)) (s:tv) (σ:St) (H:Hp) (Q:VK),Inv X pins σ H s->t σ H Q->Fq (model X.prog X.w) X.A (eval e X.env) (EP X pins σ Q) X.xe s
def PT (X:Cx) (e:Expr) (t:TT):Prop :=
 ∀ (pins:List (Addr×Obj)) (s:tv) (σ:St) (H:Hp) (Q:Bool->Hp->Prop),Inv X pins σ H s->t σ H Q->Fq (model X.prog X.w) X.A (isTrue e X.env (eval e X.env)) (TP X pins σ Q) X.xe s
def PW (X:Cx) (e:Expr) (t:TT):Prop :=
 ∀ (whole:Sem gV) (pins:List (Addr×Obj)) (s:tv) (σ:St) (H:Hp) (Q:Bool->Hp->Prop),Inv X pins σ H s->t σ H Q->Fq (model X.prog X.w) X.A (isTrue e X.env whole) (TP X pins σ Q) X.xe s
theorem PW.pt {X:Cx} {e:Expr} {t:TT} (h:PW X e t):PT X e t:=h _
def PA (X:Cx) (es:List Expr) (t:TA):Prop :=
 ∀ (pos:Pos) (pins:List (Addr×Obj)) (s:tv) (σ:St) (H:Hp) (Q:List V->Hp->Prop),Inv X pins σ H s->t σ H Q->Fq (model X.prog X.w) X.A (spliced (J0 pos (FO es X.env))) (AP X pins σ Q) X.xe s
def PS (X:Cx) (st:Stmt) (t:TS):Prop :=
 ∀ (pins:List (Addr×Obj)) (s:tv) (σ:St) (H:Hp) (D:bu),Inv X pins σ H s->t D σ H->Fq (model X.prog X.w) X.A (exec st X.env) (SP X pins D) X.xe s
def PSs (X:Cx) (st:List Stmt) (t:TS):Prop :=
 ∀ (pins:List (Addr×Obj)) (s:tv) (σ:St) (H:Hp) (D:bu),Inv X pins σ H s->t D σ H->Fq (model X.prog X.w) X.A (execs st X.env) (SP X pins D) X.xe s
theorem thn {α:Type} {t:Sem α} {Q Q' : α -> tv->Prop} {M:JH} {A:G8} {E:gV->tv->Prop} {s:tv} (h:Fq M A t Q E s) (j:∀ a s,Q a s->Q' a s):Fq M A t Q' E s:=Gw h j fun _ _ x=>x
end
section
section
variable {X:Cx}
noncomputable def Cp (i:Nat):TE:=fun σ H Q => ∃ v, σ[i]? = some (some v)/\Q v H
noncomputable def tC (v:V):TE:=fun _ H Q=>Q v H
theorem sd {i:Nat} {x:Str} {pos:Pos} (F:X.N[i]? = some x) (G:Vis X.env.scope x) (hd:(x==("__debug__":Str))=false:=by decide) (z:(x==("__classdict__":Str))=false:=by decide):PE X (.Name x pos) (Cp i):=by
 intro pins s σ H Q I h;obtain ⟨v,e,h⟩:=h;obtain ⟨m,J,L⟩:=I.loc;obtain ⟨u,r,l⟩:=L i x v F e G;have fin:EP X pins σ Q u s:=⟨v,H,I,r,h⟩
 rcases l with ⟨q,hm⟩ | ⟨q,c,B,j⟩
 ·exact Og (wpAny_loadName_local I.ok.kind q J hm fin) hd
 ·rcases q with q | q
  ·exact Og (wpAny_loadName_cell I.ok.kind q B j fin) hd
  ·exact Og (wpAny_loadName_free I.ok.kind q B j fin z) hd
theorem zY {i j pos}:PE X (.Constant (.int i) j pos) (tC (.int i)):=fun _ _ _ H _ I h=>wpAny_Constant_int ⟨.int i,H,I.tok _,⟨_,rfl⟩,h⟩
theorem Bw {b j pos}:PE X (.Constant (.bool b) j pos) (tC (.bl b)):=fun _ _ _ H _ I h=>Constant_bool ⟨.bl b,H,I,rfl,h⟩
theorem zZ {j pos}:PE X (.Constant .none j pos) (tC .non):=fun _ _ _ H _ I h=>Constant_none ⟨.non,H,I,rfl,h⟩
def Gl (X:Cx) (x:Str):Prop:=X.env.kindOf x=some .globalImplicit
theorem jF {E:gV->tv->Prop} {pins:List (Addr×Obj)} {s:tv} {σ:St} {H:Hp} {x:Str} {u:gV} {pos:Pos} {Q:gV->tv->Prop} (I:Inv X pins σ H s) (j:Gl X x) (hm:X.mg x=some u) (h:Q u s)
 (hd:(x==("__debug__":Str))=false:=by decide):Fq (model X.prog X.w) X.A (eval (.Name x pos) X.env) Q E s :=
 Kk I.ok.kind j (Calls.loadGlobal_global (by rw [I.ok.glob];exact I.mod.glob.keeps I.bk) hm h) hd
theorem e8 {E:gV->tv->Prop} {pins:List (Addr×Obj)} {s:tv} {σ:St} {H:Hp} {x:Str} {u:gV} {pos:Pos} {Q:gV->tv->Prop} (I:Inv X pins σ H s) (j:Gl X x) (hm:X.mg x=none) (q:HI x=some u) (h:Q u s)
 (z:x ≠ "__name__" := by decide) (hd:(x==("__debug__":Str))=false:=by decide):Fq (model X.prog X.w) X.A (eval (.Name x pos) X.env) Q E s:=by
 obtain ⟨mb,h1,h2⟩:=I.mod.blt;exact Kk I.ok.kind j (Calls.loadGlobal_builtin (by rw [I.ok.glob];exact I.mod.glob.keeps I.bk) hm (by rw [I.ok.blt];exact h1.keeps I.bk) ((h2 x z).trans q) h) hd
theorem yf {x:Str} {v:V} {u:gV} {pos:Pos} (j:Gl X x) (hm:X.mg x=some u) (r:RelV v u) (hd:(x==("__debug__":Str))=false:=by decide):PE X (.Name x pos) (tC v) :=
 fun _ _ _ H _ I h=>jF I j hm ⟨v,H,I,r,h⟩ hd
theorem jG {x:Str} {v:V} {u:gV} {pos:Pos} (j:Gl X x) (hm:X.mg x=none) (q:HI x=some u) (r:RelV v u) (z:x ≠ "__name__" := by decide) (hd:(x==("__debug__":Str))=false:=by decide):PE X (.Name x pos) (tC v) :=
 fun _ _ _ H _ I h=>e8 I j hm q ⟨v,H,I,r,h⟩ z hd
variable {a b:Expr} {ta tb:TE} {pos:Pos}
variable {tA tB':TT} {rest:List Expr}
noncomputable def Cq (t u:TT):TT:=fun σ H Q=>t σ H fun c H1=>if c=true then u σ H1 Q else Q false H1
noncomputable def tOr (t u:TT):TT:=fun σ H Q=>t σ H fun c H1=>if c=true then Q true H1 else u σ H1 Q
noncomputable def Cr (t:TT):TT:=fun σ H Q=>t σ H fun c H1=>Q (!c) H1
theorem yg (j:PT X a tA):PW X (.BoolOp .And [a] pos) tA:=by
 intro wh pins s σ H Q I h;refine isTrue_and (thn (j pins s σ H Q I h) fun c s1 e => ?_)
 cases c with
 | true=>exact isTrue_and_nil e
 | false=>exact e
theorem A0 (j:PT X a tA):PW X (.BoolOp .Or [a] pos) tA:=by
 intro wh pins s σ H Q I h;refine isTrue_or (thn (j pins s σ H Q I h) fun c s1 e => ?_)
 cases c with
 | false=>exact isTrue_or_nil e
 | true=>exact e
theorem A1 (z:PT X a tA) (B:PW X (.BoolOp .And (b::rest) pos) tB'):PW X (.BoolOp .And (a::b::rest) pos) (Cq tA tB'):=by
 intro wh pins s σ H Q I h;refine isTrue_and (thn (z pins s σ H _ I h) fun c s1 ⟨H1,j,q⟩ => ?_)
 cases c with
 | true=>exact B wh pins s1 σ H1 Q j q
 | false=>exact ⟨H1,j,q⟩
theorem By (z:PT X a tA) (B:PW X (.BoolOp .Or (b::rest) pos) tB'):PW X (.BoolOp .Or (a::b::rest) pos) (tOr tA tB'):=by
 intro wh pins s σ H Q I h;refine isTrue_or (thn (z pins s σ H _ I h) fun c s1 ⟨H1,j,q⟩ => ?_)
 cases c with
 | true=>exact ⟨H1,j,q⟩
 | false=>exact B wh pins s1 σ H1 Q j q
theorem A2 (j:PT X a tA):PT X (.UnaryOp .Not a pos) (Cr tA):=by
 intro pins s σ H Q I h;exact isTrue_not (j pins s σ H (fun c H1=>Q (!c) H1) I h)
noncomputable def Bz (ta tb:TE):TE:=fun σ H Q=>ta σ H fun x H1 => ∃ c,x = .bl c/\if c=true then tb σ H1 Q else Q (.bl false) H1
noncomputable def Ct (ta tb:TE):TE:=fun σ H Q=>ta σ H fun x H1 => ∃ c,x = .bl c/\if c=true then Q (.bl true) H1 else tb σ H1 Q
noncomputable def BA (ta:TE):TE:=fun σ H Q=>ta σ H fun x H1 => ∃ c,x = .bl c/\Q (.bl (!c)) H1
theorem A3 {op} {t:TE} (h:PE X a t):PE X (.BoolOp op [a] pos) t:=fun pins s σ H Q I hw=>BoolOp_one (h pins s σ H Q I hw)
theorem A4 (z:PE X a ta) (B:PE X (.BoolOp .And (b::rest) pos) tb):PE X (.BoolOp .And (a::b::rest) pos) (Bz ta tb):=by
 intro pins s σ H Q I h;refine BoolOp_and (thn (z pins s σ H _ I h) fun v s1 ⟨x,H1,q,F,j⟩ => ?_);obtain ⟨c,rfl,j⟩:=j
 cases F
 refine Ib ?_
 cases c with
 | true=>exact B pins s1 σ H1 Q q j
 | false=>exact ⟨.bl false,H1,q,rfl,j⟩
theorem BB (z:PE X a ta) (B:PE X (.BoolOp .Or (b::rest) pos) tb):PE X (.BoolOp .Or (a::b::rest) pos) (Ct ta tb):=by
 intro pins s σ H Q I h;refine BoolOp_or (thn (z pins s σ H _ I h) fun v s1 ⟨x,H1,q,F,j⟩ => ?_);obtain ⟨c,rfl,j⟩:=j
 cases F
 refine Ib ?_
 cases c with
 | false=>exact B pins s1 σ H1 Q q j
 | true=>exact ⟨.bl true,H1,q,rfl,j⟩
theorem A5 (q:PE X a ta):PE X (.UnaryOp .Not a pos) (BA ta):=by
 intro pins s σ H Q I h;refine UnaryOp_ (thn (q pins s σ H _ I h) fun v s1 ⟨x,H1,z,B,j⟩ => ?_);obtain ⟨c,rfl,j⟩:=j
 cases B
 exact not_of (Ib ⟨.bl (!c),H1,z,rfl,j⟩)
noncomputable def tIf (t:TT) (ta tb:TE):TE:=fun σ H Q=>t σ H fun c H1=>if c=true then ta σ H1 Q else tb σ H1 Q
theorem uZ {c:Expr} (z:PT X c tA) (B:PE X a ta) (F:PE X b tb):PE X (.IfExp c a b pos) (tIf tA ta tb):=by
 intro pins s σ H Q I h;refine wpAny_IfExp (thn (z pins s σ H _ I h) fun d s1 ⟨H1,j,q⟩ => ?_)
 cases d with
 | true=>exact B pins s1 σ H1 Q j q
 | false=>exact F pins s1 σ H1 Q j q
end
end
section
def SqL (K:Frag) (H:Hp) (a:Addr) (xs:List V):Prop :=
 Rd H a (.lst xs) ∨
  ∃ (o:Obj) (its:Array gV) (n:Nat),K.lookup a=some o/\o.cls = .type "list" /\ o.dict=none/\o.data = .seq its n/\its.size<=Fj/\Vals xs its.toList
def SqT (K:Frag) (H:Hp) (a:Addr) (xs:List V):Prop :=
 Rd H a (.tup xs) ∨
  ∃ (o:Obj) (its:Array gV) (n:Nat),K.lookup a=some o/\o.cls = .type "tuple" /\ o.data = .seq its n/\its.size<=Fj/\Vals xs its.toList
noncomputable def Cu:gV->Option V
 | .none=>some .non
 | .bool b=>some (.bl b)
 | .int i _=>some (.int i)
 | .str x _=>some (.str x)
 | .bytes b _=>some (.byt b)
 | .float b _=>some (.flt b)
 | .ref a=>some (.ref a)
 | .type n=>some (.ty n)
 | _=>none
theorem RelV.abs {x:V} {u:gV} (r:RelV x u):Cu u=some x:=by
 cases x with
 | non=>cases r;rfl
 | bl _=>cases r;rfl
 | int _=>obtain ⟨t,rfl⟩:=r;rfl
 | str _=>obtain ⟨t,rfl⟩:=r;rfl
 | byt _=>obtain ⟨t,rfl⟩:=r;rfl
 | flt _=>obtain ⟨t,rfl⟩:=r;rfl
 | ref _=>cases r;rfl
 | ty _=>cases r;rfl
theorem RelV.inj {x y:V} {u:gV} (r:RelV x u) (q:RelV y u):x=y:=Hu.inj (r.abs.symm.trans q.abs)
theorem Vals.inj:∀ {xs ys:List V} {us:List gV},Vals xs us->Vals ys us->xs=ys
 | _,_,_, .nil, .nil=>rfl
 | _,_,_, .cons r t, .cons r' t'=>by rw [r.inj r',Vals.inj t t']
section
variable {X:Cx} {pins:List (Addr×Obj)} {σ:St} {H:Hp} {s:tv} {a:Addr} {xs ys:List V}
theorem SqL.of {K:Frag} (h:H a=some (.lst xs)):SqL K H a xs := .inl (.inl h)
theorem SqT.of {K:Frag} (h:H a=some (.tup xs)):SqT K H a xs := .inl (.inl h)
theorem Inv.list (I:Inv X pins σ H s) (h:SqL X.K H a xs):∃ its:List gV,Vals xs its/\PlainL s.heap a its.toArray/\xs.length<=Fj:=by
 rcases h with h | ⟨o,its,n,j,q,hd,hs,B,r⟩
 ·obtain ⟨z,its,n,r,e⟩:=h.ok I.hok;exact ⟨its,r,⟨_,n,e,rfl,rfl,rfl⟩,z⟩
 ·refine ⟨its.toList,r,⟨o,n,I.kIn a o j,q,hd,by simpa using hs⟩, ?_⟩
  have e:=r.length;simp only [FL] at e;omega
theorem Inv.tuple (I:Inv X pins σ H s) (h:SqT X.K H a xs):∃ its:List gV,Vals xs its/\IsTup s.heap a its.toArray/\xs.length<=Fj:=by
 rcases h with h | ⟨o,its,n,j,q,hs,B,r⟩
 ·obtain ⟨z,its,r,p⟩:=h.ok I.hok;exact ⟨its,r,p,z⟩
 ·refine ⟨its.toList,r,⟨o,I.kIn a o j,q,n,by simpa using hs⟩, ?_⟩
  have e:=r.length;simp only [FL] at e;omega
theorem Inv.list_inj (I:Inv X pins σ H s) (h:SqL X.K H a xs) (h':SqL X.K H a ys):xs=ys:=by
 obtain ⟨its,r,⟨o,n,e,_,_,d⟩,_⟩:=I.list h;obtain ⟨its',r',⟨o',n',e',_,_,d'⟩,_⟩:=I.list h';rw [e] at e';cases e';rw [d] at d'
 injection d' with d1 _
 have:its=its':=by simpa using congrArg Lg d1
 subst this;exact r.inj r'
theorem Inv.tuple_inj (I:Inv X pins σ H s) (h:SqT X.K H a xs) (h':SqT X.K H a ys):xs=ys:=by
 obtain ⟨its,r,⟨o,e,_,n,d⟩,_⟩:=I.tuple h;obtain ⟨its',r',⟨o',e',_,n',d'⟩,_⟩:=I.tuple h';rw [e] at e';cases e';rw [d] at d'
 injection d' with d1 _
 have:its=its':=by simpa using congrArg Lg d1
 subst this;exact r.inj r'
end
noncomputable abbrev Cx.wish (X:Cx) (E:gV->tv->Prop):Cx := { X with xe:=E }
noncomputable abbrev Cx.nox (X:Cx):Cx:=X.wish fun _ _=>False
theorem Cx.Ok.wish {X:Cx} (ok:X.Ok) (E:gV->tv->Prop):(X.wish E).Ok :=
 ⟨ok.mod,ok.kind,ok.glob,ok.blt,ok.above,ok.inj,ok.has,ok.cab,ok.hd,ok.frames,ok.stk,ok.exf,ok.bs,ok.bsz,ok.noex,ok.exfs,ok.funs,ok.frf⟩
theorem Cx.Ok.unwish {X:Cx} {E:gV->tv->Prop} (ok:(X.wish E).Ok):X.Ok :=
 ⟨ok.mod,ok.kind,ok.glob,ok.blt,ok.above,ok.inj,ok.has,ok.cab,ok.hd,ok.frames,ok.stk,ok.exf,ok.bs,ok.bsz,ok.noex,ok.exfs,ok.funs,ok.frf⟩
section
variable {X:Cx} {pins:List (Addr×Obj)} {σ:St} {H:Hp} {s:tv} {E:gV->tv->Prop}
theorem Inv.wish (I:Inv X pins σ H s) (E:gV->tv->Prop):Inv (X.wish E) pins σ H s:=⟨I.ok.wish E,I.os,I.bare,I.base,I.loc,I.cell,I.free,I.freeC,I.pin,I.hok,I.len⟩
theorem Inv.unwish (I:Inv (X.wish E) pins σ H s):Inv X pins σ H s:=⟨I.ok.unwish,I.os,I.bare,I.base,I.loc,I.cell,I.free,I.freeC,I.pin,I.hok,I.len⟩
theorem SP.unwish {D:bu} {f:Flow} {s':tv} (h:SP (X.wish E) pins D f s'):SP X pins D f s':=by
 cases f with
 | next=>obtain ⟨σ',H',I,q⟩:=h;exact ⟨σ',H',I.unwish,q⟩
 | brk=>obtain ⟨σ',H',I,q⟩:=h;exact ⟨σ',H',I.unwish,q⟩
 | cont=>obtain ⟨σ',H',I,q⟩:=h;exact ⟨σ',H',I.unwish,q⟩
 | ret u=>obtain ⟨v, σ',H',I,r,q⟩:=h;exact ⟨v, σ',H',I.unwish,r,q⟩
theorem PSs.nox {st:List Stmt} {t:TS} (h:PSs X.nox st t):PSs X st t:=fun pins s σ H D I hw =>
 Gw (h pins s σ H D (I.wish _) hw) (fun _ _ q=>q.unwish) fun _ _ z=>False.elim z
end
section
variable {X:Cx} {st:Stmt} {rest:List Stmt} {t u:TS} {e:Expr} {te:TE} {pos:Pos}
noncomputable def qm:TS:=fun D σ H=>D.nx σ H
noncomputable def A6 (t u:TS):TS:=fun D σ H=>t { D with nx:=u D } σ H
theorem yh:PSs X [] qm:=fun _ _ σ H _ I h=>Lx ⟨σ,H,I,h⟩
theorem v9 (h1:PS X st t) (h2:PSs X rest u):PSs X (st::rest) (A6 t u):=by
 intro pins s σ H D I h;refine wpAny_execs_cons (thn (h1 pins s σ H { D with nx:=u D } I h) fun f s1 q => ?_)
 cases f with
 | next =>
   obtain ⟨σ',H',I',q⟩:=q;exact h2 pins s1 σ' H' D I' q
 | ret v=>exact q
 | brk=>exact q
 | cont=>exact q
noncomputable def se:TS:=fun D σ H=>D.bk σ H
noncomputable def xq:TS:=fun D σ H=>D.ct σ H
theorem yi:PS X (.Pass pos) qm:=fun _ _ σ H _ I h=>wpAny_Pass ⟨σ,H,I,h⟩
theorem va:PS X (.Break pos) se:=fun _ _ σ H _ I h=>wpAny_Break ⟨σ,H,I,h⟩
theorem oI:PS X (.Continue pos) xq:=fun _ _ σ H _ I h=>wpAny_Continue ⟨σ,H,I,h⟩
theorem Inv.quiet {pins:List (Addr×Obj)} {σ:St} {H:Hp} {s:tv} (I:Inv X pins σ H s):interactive X.env=false:=by simp [interactive,I.ok.kind]
noncomputable def xr (te:TE):TS:=fun D σ H=>te σ H fun _ H1=>D.nx σ H1
theorem yj (he:PE X e te) (hs:Jm e none pos.line X.env=pure false:=by rfl):PS X (.Expr e pos) (xr te):=by
 intro pins s σ H D I h;exact wpAny_Expr_any (thn (he pins s σ H _ I h) fun v s1 ⟨x,H1,j,z,q⟩=>⟨σ,H1,j,q⟩) I.quiet hs
noncomputable def A7 (te:TE):TS:=fun D σ H=>te σ H D.rt
theorem A8 (he:PE X e te):PS X (.Return (some e) pos) (A7 te):=by
 intro pins s σ H D I h;exact wpAny_Return_some (thn (he pins s σ H _ I h) fun v s1 ⟨x,H1,j,q,z⟩=>⟨x, σ,H1,j,q,z⟩)
noncomputable def A9 (c:TT) (t u:TS):TS:=fun D σ H=>c σ H fun b H1=>if b=true then t D σ H1 else u D σ H1
theorem BC {c:Expr} {a b:List Stmt} {tc:TT} (z:PT X c tc) (B:PSs X a t) (F:PSs X b u):PS X (.If c a b pos) (A9 tc t u):=by
 intro pins s σ H D I h;refine wpAny_If (thn (z pins s σ H _ I h) fun d s1 ⟨H1,j,q⟩ => ?_)
 cases d with
 | true=>exact B pins s1 σ H1 D j q
 | false=>exact F pins s1 σ H1 D j q
end
noncomputable abbrev TG:=V->St->Hp->(St->Hp->Prop)->Prop
noncomputable abbrev TGs:=List V->St->Hp->(St->Hp->Prop)->Prop
def PG (X:Cx) (target:Expr) (t:TG):Prop :=
 ∀ (pins:List (Addr×Obj)) (s:tv) (σ:St) (H:Hp) (v:V) (u:gV) (Q:St->Hp->Prop),Inv X pins σ H s->RelV v u->t v σ H Q ->
  Fq (model X.prog X.w) X.A (assign target X.env u) (fun _ s' => ∃ σ' H',Inv X pins σ' H' s'/\Q σ' H') X.xe s
def PGs (X:Cx) (ts:List Expr) (t:TGs):Prop :=
 ∀ (pins:List (Addr×Obj)) (s:tv) (σ:St) (H:Hp) (vs:List V) (us:List gV) (Q:St->Hp->Prop),Inv X pins σ H s->Vals vs us->t vs σ H Q ->
  Fq (model X.prog X.w) X.A (Mx ((Hl ts X.env).map (·.2)) us) (fun _ s' => ∃ σ' H',Inv X pins σ' H' s'/\Q σ' H') X.xe s
noncomputable abbrev jH:=V->V->V->Hp->(Hp->Prop)->Prop
def PSet (X:Cx) (t:jH):Prop :=
 ∀ (pins:List (Addr×Obj)) (s:tv) (σ:St) (H:Hp) (o i v:V) (ov iv u:gV) (Q:Hp->Prop),Inv X pins σ H s->RelV o ov->RelV i iv->RelV v u->t o i v H Q ->
  Fq (model X.prog X.w) X.A (Mm ov iv u) (fun _ s' => ∃ H',Inv X pins σ H' s'/\Q H') X.xe s
noncomputable abbrev TIp:=V->V->Hp->VK->Prop
def PIp (X:Cx) (op:Jr) (t:TIp):Prop :=
 ∀ (pins:List (Addr×Obj)) (s:tv) (σ:St) (H:Hp) (x y:V) (v u:gV) (Q:VK),Inv X pins σ H s->RelV x v->RelV y u->t x y H Q ->
  Fq (model X.prog X.w) X.A (JJ op v u) (EP X pins σ Q) X.xe s
section
variable {X:Cx} {pos:Pos}
noncomputable def iI (i:Nat):TG:=fun v σ H Q=>Q (σ.set i (some v)) H
theorem p7 {i:Nat} {x:Str} (j:X.N.Nodup) (hi:X.N[i]? = some x) (hx:Loc X.env.scope x) (hf:X.fn x=true∨X.env.scope.names.lookup x=some .local:=by first | exact .inl rfl | exact .inr rfl | assumption):PG X (.Name x pos) (iI i):=by
 intro pins s σ H v u Q I r h;exact wpAny_assign_Name (i5 I j hi hx r (fun s' I'=>⟨_,H,I',h⟩) hf)
noncomputable def Cv:TGs:=fun vs σ H Q=>vs=[]/\Q σ H
noncomputable def BD (t:TG) (u:TGs):TGs:=fun vs σ H Q => ∃ v r,vs=v::r/\t v σ H fun σ' H'=>u r σ' H' Q
theorem yk:PGs X [] Cv:=by
 intro pins s σ H vs us Q I r h;obtain ⟨e,h⟩:=h;subst e
 cases r
 exact N9 ⟨σ,H,I,h⟩
theorem vc {e:Expr} {es:List Expr} {t:TG} {u:TGs} (h1:PG X e t) (h2:PGs X es u)
 (hs:(Hl (e::es) X.env).map (·.2)=assign e X.env::(Hl es X.env).map (·.2):=by rfl):PGs X (e::es) (BD t u):=by
 intro pins s σ H vs us Q I r h;obtain ⟨v,vr,e1,h⟩:=h;subst e1
 cases r with
 | cons r rr =>
   rw [hs];refine Kl (thn (h1 pins s σ H _ _ _ I r h) fun _ s1 ⟨σ1,H1,j,q⟩ => ?_);exact h2 pins s1 σ1 H1 _ _ Q j rr q
noncomputable def Cw (K:Frag) (n:Nat) (t:TGs):TG:=fun v σ H Q => ∃ a xs,v = .ref a/\SqT K H a xs/\xs.length=n/\t xs σ H Q
theorem Aa {es:List Expr} {k:Nat} {t:TGs} {n:Nat} (q:X.calm=true) (h:PGs X es t)
 (z:(Hl es X.env).length=n:=by rfl) (j:(Hl es X.env).findIdx? (·.1)=none:=by rfl):PG X (.Tuple es k pos) (Cw X.K n t):=by
 intro pins s σ H v u Q I r hw;obtain ⟨a,xs,e1,B,F,hw⟩:=hw;subst e1
 cases r
 obtain ⟨its,rv,G,L⟩:=I.tuple B;refine assign_Tuple_tuple (I.ok.hd q) G (by simp [z, <- F,rv.length]) j fun h' hx => ?_
 have J:Inv X pins σ H { s with heap:=h' }:=I.kept (t':=s.toks) fun b o e=>hx b o (FR (Fg e)) e
 exact h pins _ σ H xs _ Q J (by simpa using rv) hw
noncomputable def Cy (to ti:TE) (t:jH):TG:=fun v σ H Q=>to σ H fun o H1=>ti σ H1 fun i H2=>t o i v H2 fun H3=>Q σ H3
theorem Ab {o i:Expr} {to ti:TE} {t:jH} (ho:PE X o to) (hi:PE X i ti) (hs:PSet X t)
 (j:∀ v,assign (.Subscript o i pos) X.env v=(do
   let ov <- holding [v] (eval o X.env)
   let iv <- holding [v,ov] (eval i X.env)
   KG pos
   holding [v,ov,iv] (Mm ov iv v)
   release [v,ov,iv] []):=by intro _;rfl):PG X (.Subscript o i pos) (Cy to ti t):=by
 intro pins s σ H v u Q I r h;rw [j];refine e6 (Gc (thn (ho pins s σ H _ I h) fun ov s1 ⟨x,H1,q,z,B⟩ => ?_));refine e6 (Gc (thn (hi pins s1 σ H1 _ q B) fun iv s2 ⟨y,H2,F,G,J⟩ => ?_));refine e6 (IE (e6 (Gc (thn (hs pins s2 σ H2 x y v ov iv u _ F z G r J) fun _ s3 ⟨L,O,U⟩ => ?_))));exact wpAny_release ⟨σ,L,O,U⟩
noncomputable def qo (te:TE) (g:TG):TS:=fun D σ H=>te σ H fun x H1=>g x σ H1 D.nx
theorem sg {tg e:Expr} {te:TE} {g:TG} (he:PE X e te) (j:PG X tg g) (hs:J1 [tg] e pos.line X.env=pure false:=by rfl) (hw:Ii [tg] e X.env=pure none:=by rfl)
 (h1:(Hl [tg] X.env).map (·.2)=[assign tg X.env]:=by rfl):PS X (.Assign [tg] e pos) (qo te g):=by
 intro pins s σ H D I h;refine wpAny_Assign_stores (thn (he pins s σ H _ I h) fun v s1 ⟨x,H1,z,B,F⟩ => ?_) hs hw;rw [h1];exact thn (j pins s1 σ H1 x v _ z B F) fun _ s2 q=>q
noncomputable def Ac (i j:Nat) (ta:TA):TS:=fun D σ H=>ta σ H fun vs H1 => ∃ v w,vs=[v,w]/\D.nx ((σ.set i (some v)).set j (some w)) H1
theorem Ad {i j:Nat} {x y:Str} {a b:Expr} {ta:TA} {px py pt:Pos} {kt G z} (hc:X.calm=true) (U:X.N.Nodup) (hi:X.N[i]? = some x) (hj:X.N[j]? = some y) (J:i≠j)
 (hx:X.env.scope.names.lookup x=some .local) (Y:X.env.scope.names.lookup y=some .local) (ha:PA X [a,b] ta)
 (hw:Ii [.Tuple [.Name x px, .Name y py] kt pt] (.Tuple [a,b] G z) X.env=pure (some [x,y]))
 (hs:J1 [.Tuple [.Name x px, .Name y py] kt pt] (.Tuple [a,b] G z) pos.line X.env=pure false:=by rfl) :
 PS X (.Assign [.Tuple [.Name x px, .Name y py] kt pt] (.Tuple [a,b] G z) pos) (Ac i j ta):=by
 intro pins s σ H D I h;rw [exec_Assign_arm];refine e6 (IE ?_);rw [hs];refine e6 (D1 ?_);rw [if_neg (by decide)]
 refine e6 (Tuple_ (thn (ha _ pins s σ H _ I h) fun us s1 ⟨vs,H1,I1,r1,L⟩ => ?_));obtain ⟨v,w,e1,L⟩:=L;subst e1;obtain ⟨B,F,rfl,rv,rw'⟩:∃ B F,us=[B,F]/\RelV v B/\RelV w F:=by
  cases r1 with
  | cons p q =>
    cases q with
    | cons p' q' =>
      cases q'
      exact ⟨_,_,rfl,p,p'⟩
 refine Gz ?_ (by show 2<=Fj;decide)
 have I2:Inv X pins σ H1 { s1 with heap:=s1.heap.push { cls := .type "tuple",data := .seq [B,F].toArray } }:=I1.kept (t':=s1.toks) fun b o e=>q7 _ e
 rw [hw];refine e6 (D1 ?_);show Fq (model X.prog X.w) X.A (do rule "assign.swapped-stores";let items <- unpackItems (.ref s1.heap.objs.size) 2 none;Mx [fun v=>Oh X.env y v,fun v=>Oh X.env x v] items.reverse;pure Flow.next) _ _ _
 refine e6 (Hz (e6 (unpackItems_tuple (items := #[B,F]) (I.ok.hd hc) (Ki s1.heap _) fun h' O => ?_)));have I3:=I2.kept (h':=h') (t':=s1.toks) fun b o e=>O b o (FR (Fg e)) e;show Fq _ _ (Mx [fun v=>Oh X.env y v,fun v=>Oh X.env x v] [F,B] >>= fun _=>pure Flow.next) _ _ _;refine e6 (Kl (wpAny_bindName (i5 I3 U hj (.inl Y) rw' (fun s2 I4 => ?_) (.inr Y))));refine Kl (wpAny_bindName (i5 I4 U hi (.inl hx) rv (fun s3 Z=>N9 (D1 ?_)) (.inr hx)));rw [List.set_comm _ _ (Ne.symm J)] at Z;exact ⟨_,H1,Z,L⟩
noncomputable def BE (to ti te:TE) (tget:V->V->Hp->VK->Prop) (tip:TIp) (tset:jH):TS:=fun D σ H=>to σ H fun o H1=>ti σ H1 fun i H2=>tget o i H2 fun x H3=>te σ H3 fun y H4=>tip x y H4 fun z H5=>tset o i z H5 fun H6=>D.nx σ H6
def Ae (X:Cx) (t:V->V->Hp->VK->Prop):Prop :=
 ∀ (pins:List (Addr×Obj)) (s:tv) (σ:St) (H:Hp) (o i:V) (ov iv:gV) (Q:VK),Inv X pins σ H s->RelV o ov->RelV i iv->t o i H Q ->
  Fq (model X.prog X.w) X.A (KH ov iv) (EP X pins σ Q) X.xe s
theorem ym {o i e:Expr} {to ti te:TE} {tget:V->V->Hp->VK->Prop} {tip:TIp} {tset:jH} {op:Jr} {tpos:Pos} (ho:PE X o to) (hi:PE X i ti) (F:Ae X tget) (he:PE X e te) (G:PIp X op tip) (hs:PSet X tset)
 (J:∀ ov iv new,augStore i ov iv new=(do holding [new,ov,iv] (Mm ov iv new);release [new,ov,iv] [];pure .next):=by intros;rfl):PS X (.AugAssign (.Subscript o i tpos) op e pos) (BE to ti te tget tip tset):=by
 intro pins s σ H D I h;refine wpAny_AugAssign_SubscriptAny (thn (ho pins s σ H _ I h) fun ov s1 ⟨j,H1,L,q,O⟩ => ?_) J;refine thn (hi pins s1 σ H1 _ L O) fun iv s2 ⟨z,H2,U,B,Y⟩ => ?_;refine thn (F pins s2 σ H2 j z ov iv _ U q B Y) fun old s3 ⟨Z,H3,I3,r3,q3⟩ => ?_;refine thn (he pins s3 σ H3 _ I3 q3) fun v s4 ⟨x4,H4,I4,r4,q4⟩ => ?_;refine thn (G pins s4 σ H4 Z x4 old v _ I4 r3 r4 q4) fun new s5 ⟨x5,H5,I5,r5,q5⟩ => ?_;exact thn (hs pins s5 σ H5 j z x5 ov iv new _ I5 q B r5 q5) fun _ s6 ⟨H6,I6,q6⟩=>⟨σ,H6,I6,q6⟩
end
section
variable {X:Cx} {pos:Pos}
noncomputable def si (c:TT) (tb:TS):TS:=fun D σ H => ∃ W:Nat->St->Hp->Prop,(∃ m,W m σ H) /\ ∀ m σ H,W m σ H ->
 c σ H fun b H1=>if b=true then ∃ N:St->Hp->Prop,(∀ σ' H',N σ' H' -> ∃ m',m' < m/\W m' σ' H')/\tb { D with nx:=N,ct:=N,bk:=D.nx } σ H1 else D.nx σ H1
theorem vd {c:Expr} {body:List Stmt} {tc:TT} {tb:TS} (J:PassesOwn (model X.prog X.w) X.A X.env X.xe) (U:PT X c tc) (Y:PSs X body tb):PS X (.While c body [] pos) (si tc tb):=by
 intro pins s σ H D I h;obtain ⟨W,⟨m0,Z⟩,turn⟩:=h;refine wpAny_While (codeAny_whileLoop (fun n s' => ∃ σ' H',Inv X pins σ' H' s'/\W n σ' H') ?_ m0 ⟨σ,H,I,Z⟩);rintro n s1 ⟨σ1,H1,I1,w1⟩;refine I9 J (thn (U pins s1 σ1 H1 _ I1 (turn n σ1 H1 w1)) fun b s2 ⟨H2,L,q⟩ => ?_)
 cases b with
 | true =>
   obtain ⟨N,O,q⟩:=q;rw [if_pos rfl];refine I9 J (thn (Y pins s2 σ1 H2 _ L q) fun f s3 z => ?_)
   cases f with
   | next =>
     obtain ⟨σ3,j,B,F⟩:=z;obtain ⟨m',hm,G⟩:=O σ3 j F;exact ⟨m',hm, σ3,j,B,G⟩
   | cont =>
     obtain ⟨σ3,j,B,F⟩:=z;obtain ⟨m',hm,G⟩:=O σ3 j F;exact ⟨m',hm, σ3,j,B,G⟩
   | brk=>exact z
   | ret v=>exact z
 | false =>
   rw [if_neg Fp];exact Lx ⟨σ1,H2,L,q⟩
end
structure It where
 go:Nat->Hp->Prop
 yld:Nat->Hp->V->Hp->Prop
 stop:Nat->Hp->Prop
def bS (X:Cx) (pins:List (Addr×Obj)) (H:Hp) (b:Addr):Prop :=
 H b=none/\b≠X.env.locals/\b∉X.fs/\(b∈X.ex∨X.s₀.heap.objs.size<=b)/\(∀ x c,X.env.cells.lookup x=some c->c≠b) /\ ∀ p∈X.pn++pins,p.1≠b
theorem Inv.fpOk {X:Cx} {pins:List (Addr×Obj)} {σ:St} {H H':Hp} {s:tv} {b:Addr} (I:Inv X pins σ H s) (j:s.heap.objs.size<=b) (B:H' b=none):bS X pins H' b:=by
 refine ⟨B,Gp (FW I.lt j),I.nofs j, .inr (Ho I.sz j),fun x c e z => ?_,fun p F z => ?_⟩
 ·obtain ⟨v,q⟩:=I.cell x c e;exact absurd (FW q.lt (by rw [z];exact j)) (Gy _)
 ·exact absurd (FW (Fg (I.pin p F).1) (by rw [z];exact j)) (Gy _)
structure fx (P:FI) (w:G2) (K:Frag) (tg:Expr) (J:It) (fp:List Addr) (it:Addr) (tn:Nat->Heap->Prop):Prop where
 mem:it∈fp
 obj:∀ i h,tn i h -> ∀ b∈fp, ∃ o,h.get? b=some o /\ ∀ v,o.data ≠ .cell v
 keep:∀ i h h',tn i h->(∀ b∈fp, ∀ o,h.get? b=some o->h'.get? b=some o)->tn i h'
 item:∀ (X:Cx),X.prog=P->X.w=w->X.K=K->X.calm=true -> ∀ (i:Nat) (pins:List (Addr×Obj)) (s:tv) (σ:St) (H:Hp) (E:gV->tv->Prop),Inv X pins σ H s->(∀ b∈fp,bS X pins H b)->tn i s.heap->J.go i H ->
  Fq (model P w) X.A (Ij (.ref it)) (fun r s1 => ∃ u,r=some u /\
   Fq (model P w) X.A (JZ tg (.ref it) u) (fun _ s2 => ∃ x H',Inv X pins σ H' s2/\RelV x u/\J.yld i H x H'/\tn (i+1) s2.heap /\ ∀ b∈fp,H' b=none) E s1) E s
 done:∀ (X:Cx),X.prog=P->X.w=w->X.K=K->X.calm=true -> ∀ (i:Nat) (pins:List (Addr×Obj)) (s:tv) (σ:St) (H:Hp) (E:gV->tv->Prop),Inv X pins σ H s->(∀ b∈fp,bS X pins H b)->tn i s.heap->J.stop i H ->
  Fq (model P w) X.A (Ij (.ref it)) (fun r s1=>r=none/\Inv X pins σ H s1) E s
 self:∀ (A:G8) (i:Nat) (s:tv) (Q:gV->tv->Prop) (E:gV->tv->Prop),tn i s.heap->Q (.ref it) s->Fq (model P w) A (Lh (.ref it)) Q E s
noncomputable abbrev TI:=St->Hp->(It->Hp->Prop)->Prop
def PIE (X:Cx) (pins:List (Addr×Obj)) (σ:St) (tg:Expr) (R:It->Hp->Prop) (itv:gV) (s2:tv):Prop :=
 ∃ (it:Addr) (fp:List Addr) (tn:Nat->Heap->Prop) (J:It) (H':Hp),itv = .ref it/\Inv X pins σ H' s2/\fx X.prog X.w X.K tg J fp it tn/\tn 0 s2.heap/\(∀ b∈fp,bS X pins H' b)/\R J H'
def PI (X:Cx) (tg iter:Expr) (wi:TI):Prop :=
 ∀ (pins:List (Addr×Obj)) (s:tv) (σ:St) (H:Hp) (R:It->Hp->Prop),Inv X pins σ H s->wi σ H R ->
  Fq (model X.prog X.w) X.A (eval iter X.env) (fun v s1=>Fq (model X.prog X.w) X.A (Lh v) (PIE X pins σ tg R) X.xe s1) X.xe s
theorem lw {M:JH} {A:G8} {E:gV->tv->Prop} {s:tv} {tg:Expr} {it:Addr} {u:gV} {o:Obj} {n:String} {vs:Array gV} {Q:Unit->tv->Prop} (ho:s.heap.get? it=some o) (q:o.cls = .type n) (hd:o.data = .fields vs)
 (z : ["enumerate", "zip", "dict_itemiterator", "dict_reverseitemiterator", "odict_iterator", "itertools.zip_longest", "itertools.pairwise"].contains n=false) (j:Q () s):Fq M A (JZ tg (.ref it) u) Q E s:=by
 unfold JZ
 cases tg <;> first
  | exact D1 j
  | (cases u <;> first
      | exact D1 j
      | (refine e6 (Oi ho ?_)
         rw [q,hd];show Fq M A (if (["enumerate", "zip", "dict_itemiterator", "dict_reverseitemiterator", "odict_iterator", "itertools.zip_longest", "itertools.pairwise"].contains n&&vs[0]? == some (Ik _))=true then _ else _) Q E s
         rw [if_neg (by intro h;rw [z,Bool.false_and] at h;cases h)]
         exact D1 j))
noncomputable def Itl (K:Frag) (a:Addr):It :=
 ⟨fun i H => ∃ xs x,SqL K H a xs/\xs[i]? = some x,fun i H x H'=>H'=H /\ ∀ xs,SqL K H a xs->xs[i]? = some x,fun i H => ∃ xs,SqL K H a xs/\xs.length<=i⟩
noncomputable def Itt (K:Frag) (a:Addr):It :=
 ⟨fun i H => ∃ xs x,SqT K H a xs/\xs[i]? = some x,fun i H x H'=>H'=H /\ ∀ xs,SqT K H a xs->xs[i]? = some x,fun i H => ∃ xs,SqT K H a xs/\xs.length<=i⟩
noncomputable def Itr (lo:Int) (n:Nat):It:=⟨fun i _=>i < n,fun i H x H'=>H'=H/\x = .int (lo+i),fun i _=>n<=i⟩
theorem sj {P:FI} {w:G2} {K:Frag} {tg:Expr} (a it:Addr):fx P w K tg (Itl K a) [it] it (fun i h=>h.IsListIter it a i) where
 mem:=by simp
 obj:=fun i h st b j=>by
  have e:b=it:=by simpa using j
  subst e;obtain ⟨o,e,c,d⟩:=st;exact ⟨o,e,fun v z=>by rw [d] at z;cases z⟩
 keep:=fun i h h' st k=>st.at fun o e=>k it (by simp) o e
 item:=by
  intro X B hw F L i pins s σ H E I hf st hg;subst B hw F;obtain ⟨xs,x,q,hx⟩:=hg;obtain ⟨its,rv,p,O⟩:=I.list q;obtain ⟨u,U,ru⟩:=rv.get hx;obtain ⟨f0,f1,f2,G,f4,J⟩:=hf it (by simp)
  refine Li st p.isList (x:=u) (by simpa using U) fun h' st' sb => ?_
  have Y:Inv X pins σ H { s with heap:=h' }:=I.turned (t':=s.toks) (fun b o j e=>(sb.2 b j).trans e) f0 f1 G f4 J
  obtain ⟨o,e,c,d⟩:=id st';exact ⟨u,rfl,lw (s := { s with heap:=h' }) e c d (by decide) ⟨x,H,Y,ru,⟨rfl,fun ys Z=>by rw [I.list_inj Z q];exact hx⟩,st',fun b j=>(hf b j).1⟩⟩
 done:=by
  intro X B hw F L i pins s σ H E I hf st hg;subst B hw F;obtain ⟨xs,q,hx⟩:=hg;obtain ⟨its,rv,p,O⟩:=I.list q;obtain ⟨f0,f1,f2,G,f4,J⟩:=hf it (by simp)
  have hl:=rv.length;exact LD (I.ok.hd L) st p.isList (by simp;omega) fun h' eb=>⟨rfl,I.turned (t':=s.toks) (fun b o j e=>eb b o j e) f0 f1 G f4 J⟩
 self:=fun _ _ _ _ _ st h=>wpAny_pyIter_listiter st h
theorem qp {P:FI} {w:G2} {K:Frag} {tg:Expr} (a it:Addr):fx P w K tg (Itt K a) [it] it (fun i h=>h.IsTupleIter it a i) where
 mem:=by simp
 obj:=fun i h st b j=>by
  have e:b=it:=by simpa using j
  subst e;obtain ⟨o,e,c,d⟩:=st;exact ⟨o,e,fun v z=>by rw [d] at z;cases z⟩
 keep:=fun i h h' st k=>st.at fun o e=>k it (by simp) o e
 item:=by
  intro X B hw F L i pins s σ H E I hf st hg;subst B hw F;obtain ⟨xs,x,q,hx⟩:=hg;obtain ⟨its,rv,p,O⟩:=I.tuple q;obtain ⟨u,U,ru⟩:=rv.get hx;obtain ⟨f0,f1,f2,G,f4,J⟩:=hf it (by simp)
  refine wpAny_pyNext_tuple_item st (show s.heap.IsTuple a its.toArray from p) (x:=u) (by simpa using U) fun h' st' sb => ?_
  have Y:Inv X pins σ H { s with heap:=h' }:=I.turned (t':=s.toks) (fun b o j e=>(sb.2 b j).trans e) f0 f1 G f4 J
  obtain ⟨o,e,c,d⟩:=id st';exact ⟨u,rfl,lw (s := { s with heap:=h' }) e c d (by decide) ⟨x,H,Y,ru,⟨rfl,fun ys Z=>by rw [I.tuple_inj Z q];exact hx⟩,st',fun b j=>(hf b j).1⟩⟩
 done:=by
  intro X B hw F L i pins s σ H E I hf st hg;subst B hw F;obtain ⟨xs,q,hx⟩:=hg;obtain ⟨its,rv,p,O⟩:=I.tuple q;obtain ⟨f0,f1,f2,G,f4,J⟩:=hf it (by simp)
  have hl:=rv.length;exact wpAny_pyNext_tuple_end (I.ok.hd L) st (show s.heap.IsTuple a its.toArray from p) (by simp;omega) fun h' eb=>⟨rfl,I.turned (t':=s.toks) (fun b o j e=>eb b o j e) f0 f1 G f4 J⟩
 self:=fun _ _ _ _ _ st h=>wpAny_pyIter_tupleiter st h
theorem qq {P:FI} {w:G2} {K:Frag} {tg:Expr} (it:Addr) (lo:Int) (n:Nat):fx P w K tg (Itr lo n) [it] it (fun i h=>IsRangeIter h it (lo+(i:Nat)*1) ((n:Int) - (i:Nat)) 1) where
 mem:=by simp
 obj:=fun i h st b j=>by
  have e:b=it:=by simpa using j
  subst e;exact ⟨_,st,fun v z=>by
   have z':Jn _=Data.cell v:=z
   cases z'⟩
 keep:=fun i h h' st k=>k it (by simp) _ st
 item:=by
  intro X q hw B F i pins s σ H E I hf st hg;subst q hw B;obtain ⟨f0,f1,f2,G,f4,J⟩:=hf it (by simp)
  have W:=Walks.range (prog:=X.prog) (w:=X.w) (I.ok.hd F) it lo 1 n;refine W.item i s _ _ hg st fun v h' tk L st' kk => ?_;obtain ⟨t,rfl⟩:=L;have O:Inv X pins σ H { s with heap:=h',toks:=tk }:=I.turned (fun b o j e=>kk b o (by simpa using j) e) f0 f1 G f4 J
  refine ⟨_,rfl,lw (s := { s with heap:=h',toks:=tk }) (n := "range_iterator") st' rfl rfl (by decide) ⟨.int (lo+i),H,O,⟨t, ?_⟩,⟨rfl,rfl⟩,st',fun b j=>(hf b j).1⟩⟩
  rw [Int.mul_one]
 done:=by
  intro X q hw B F i pins s σ H E I hf st hg;subst q hw B;obtain ⟨f0,f1,f2,G,f4,J⟩:=hf it (by simp)
  exact wpAny_pyNext_range_end (I.ok.hd F) st (by have:n<=i:=hg;omega) fun h' eb=>⟨rfl,I.turned (t':=s.toks) (fun b o j e=>eb b o j e) f0 f1 G f4 J⟩
 self:=fun _ _ _ _ _ st h=>wpAny_pyIter_rangeiter st h
end
section
section
variable {X:Cx} {tg:Expr}
theorem ve {pins:List (Addr×Obj)} {σ:St} {H:Hp} {s:tv} {R:It->Hp->Prop} {E:gV->tv->Prop} {lo hi:Int} {t u v:Tok} {tk:Nat} (I:Inv X pins σ H s) (h1 : -(2 ^ 62)<=lo) (h2:lo < 2 ^ 62) (z : -(2 ^ 62)<=hi) (B:hi < 2 ^ 62)
 (q:R (Itr lo (hi - lo).toNat) H):Fq (model X.prog X.w) X.A (Lh (.ref s.heap.objs.size)) (PIE X pins σ tg R) E { s with heap:=s.heap.push { cls := .type "range",data := .fields #[.int lo t, .int hi u, .int 1 v] },toks:=tk }:=by
 refine wpAny_pyIter_range (IsRange.new ..) (small_one h1 h2 z B) ?_;have j:Inv X pins σ H { s with heap:=s.heap.push { cls := .type "range",data := .fields #[.int lo t, .int hi u, .int 1 v] },toks:=tk }:=I.kept fun b o e=>q7 _ e
 refine ⟨(s.heap.push { cls := .type "range",data := .fields #[.int lo t, .int hi u, .int 1 v] }).objs.size,[(s.heap.push { cls := .type "range",data := .fields #[.int lo t, .int hi u, .int 1 v] }).objs.size],_,_,H,rfl,
  j.kept (t':=tk) fun b o e=>q7 _ e,qq _ lo (hi - lo).toNat, ?_,fun b F => ?_,q⟩
 ·have e1:lo+((0:Nat):Int)*1=lo:=by simp
  have e2:(((hi - lo).toNat:Nat):Int) - ((0:Nat):Int)=Builtin.Range.rangeSize lo hi 1:=by rw [rangeSize_one];split <;> omega
  show IsRangeIter _ _ (lo+((0:Nat):Int)*1) ((((hi - lo).toNat:Nat):Int) - ((0:Nat):Int)) 1;rw [e1,e2];exact Fh _ rfl
 ·have e:b=(s.heap.push { cls := .type "range",data := .fields #[.int lo t, .int hi u, .int 1 v] }).objs.size:=by simpa using F
  subst e;exact j.fpOk (Fl _) (j.hok.fresh (Fl _))
noncomputable def BG (ta:TA):TI:=fun σ H R=>ta σ H fun vs H1 => ∃ j:Int,vs=[.int j] /\ -(2 ^ 62)<=j/\j < 2 ^ 62/\R (Itr 0 j.toNat) H1
theorem sn {a:Expr} {ta:TA} {p pos:Pos} (B:Gl X "range") (hm:X.mg "range" = none) (F:PA X [a] ta) (hs:FO [a] X.env=[(false,eval a X.env)]:=by rfl):PI X tg (.Call (.Name "range" p) [a] [] pos) (BG ta):=by
 intro pins s σ H R I h;refine Call_ (e8 I B hm boot_range (IJ (thn (F pos pins s σ H _ I h) fun us s1 ⟨vs,H1,G,J,z⟩ => ?_) hs rfl));obtain ⟨j,e,z,L,q⟩:=z;subst e
 cases J with
 | cons r rr =>
   cases rr
   obtain ⟨t,rfl⟩:=r;exact call_range_1 (ve G (by omega) (by omega) z L (by simpa using q))
noncomputable def Af (wi:TI) (g:TG) (tb:TS):TS:=fun D σ H=>wi σ H fun J H1 => ∃ W:Nat->Nat->St->Hp->Prop,(∃ m,W 0 m σ H1) /\ ∀ i m σ H,W i m σ H ->
 (J.stop i H/\D.nx σ H)∨(J.go i H /\ ∃ N:St->Hp->Prop,(∀ σ' H',N σ' H' -> ∃ m',m' < m/\W (i+1) m' σ' H') /\ ∀ x H',J.yld i H x H'->g x σ H' fun σ2 H2=>tb { D with nx:=N,ct:=N,bk:=D.nx } σ2 H2)
noncomputable def iJ (fp:List Addr) (h:Heap):List (Addr×Obj):=fp.filterMap fun b=>(h.get? b).map fun o=>(b,o)
theorem cV {fp:List Addr} {h:Heap} {b:Addr} {o:Obj} (j:b∈fp) (e:h.get? b=some o):(b,o)∈iJ fp h:=MQ.mpr ⟨b,j,by rw [e];rfl⟩
theorem so {fp:List Addr} {h:Heap} {p:Addr×Obj} (j:p∈iJ fp h):p.1∈fp/\h.get? p.1=some p.2:=by
 obtain ⟨b,z,e⟩:=MQ.mp j
 cases q:h.get? b with
 | none=>rw [q] at e;cases e
 | some o =>
   rw [q] at e;have e':(b,o)=p:=Hu.inj e;subst e';exact ⟨z,q⟩
theorem Inv.pinned {pins:List (Addr×Obj)} {σ:St} {H:Hp} {s:tv} {fp:List Addr} (I:Inv X pins σ H s) (hf:∀ b∈fp,bS X pins H b) (ho:∀ b∈fp, ∃ o,s.heap.get? b=some o /\ ∀ v,o.data ≠ .cell v):Inv X (pins++iJ fp s.heap) σ H s :=
 I.pins_of fun p q=>(FE.mp q).elim (fun z=>I.pin p (FF _ z)) fun z=>by
  obtain ⟨j,e⟩:=so z;obtain ⟨f0,f1,f2,_⟩:=hf p.1 j;obtain ⟨o,e',d⟩:=ho p.1 j;rw [e] at e';cases e';exact ⟨e,f0,f1,f2,d⟩
theorem Inv.unpinned {pins pl:List (Addr×Obj)} {σ:St} {H:Hp} {s:tv} (I:Inv X (pins++pl) σ H s):Inv X pins σ H s:=I.pins_of fun p j=>I.pin p (FF _ (Gb _ j))
theorem Ag {iter:Expr} {body:List Stmt} {wi:TI} {g:TG} {tb:TS} {pos:Pos} (G:PassesOwn (model X.prog X.w) X.A X.env X.xe) (hc:X.calm=true) (hi:PI X tg iter wi) (hg:PG X tg g) (j:PSs X body tb)
 (hs:∀ x,Hw iter X.env x=pure x:=by intro _;rfl):PS X (.For tg iter body [] pos) (Af wi g tb):=by
 intro pins s σ H D I h;refine wpAny_For (thn (hi pins s σ H _ I h) fun v s1 h1=>thn h1 fun itv s2 h2 => ?_) hs;obtain ⟨it,fp,tn,J,H2,e,I2,T,Z,f2,W,⟨m0,w0⟩,turn⟩:=h2;subst e;have stat:∀ {H':Hp},(∀ b∈fp,H' b=none) -> ∀ b∈fp,bS X pins H' b:=fun hn b j=>⟨hn b j,(f2 b j).2⟩;refine codeAny_forLoop_any (fun n s' => ∃ i σ' H',Inv X pins σ' H' s'/\tn i s'.heap/\(∀ b∈fp,H' b=none)/\W i n σ' H') ?_ m0 ⟨0, σ,H2,I2,Z,fun b j=>(f2 b j).1,w0⟩;rintro n s3 ⟨i, σ3,Y,I3,L,O,w3⟩
 rcases turn i n σ3 Y w3 with ⟨stop,qn⟩ | ⟨go,N,hN,step⟩
 ·refine I9 G (thn (T.done X rfl rfl rfl hc i pins s3 σ3 Y X.xe I3 (stat O) L stop) fun r s4 ⟨hr,I4⟩ => ?_);subst hr;exact Lx ⟨σ3,Y,I4,qn⟩
 ·refine I9 G (thn (T.item X rfl rfl rfl hc i pins s3 σ3 Y X.xe I3 (stat O) L go) fun r s4 ⟨u,hr,h4⟩ => ?_);subst hr;refine I9 G (thn h4 fun _ s5 ⟨x,H5,I5,r5,y5,F,D4⟩ => ?_);have D5:=I5.pinned (stat D4) (T.obj _ _ F);refine I9 G (thn (hg _ s5 σ3 H5 x u _ D5 r5 (step x H5 y5)) fun _ s6 ⟨σ6,H6,I6,q6⟩ => ?_);refine I9 G (thn (j _ s6 σ6 H6 _ I6 q6) fun f s7 B => ?_);have again:∀ {σ7:St} {q:Hp},Inv X (pins++iJ fp s5.heap) σ7 q s7->N σ7 q -> ∃ m,m < n /\ ∃ i σ' H',Inv X pins σ' H' s7/\tn i s7.heap/\(∀ b∈fp,H' b=none)/\W i m σ' H':=fun {σ7 q} z U=>by
   obtain ⟨m',hm,w7⟩:=hN σ7 q U;refine ⟨m',hm,i+1, σ7,q,z.unpinned,T.keep _ _ _ F fun b j o e=>(z.pin (b,o) (FF _ (FF _ (cV j e)))).1,fun b j => ?_,w7⟩;obtain ⟨o,e,d⟩:=T.obj _ _ F b j;exact (z.pin (b,o) (FF _ (FF _ (cV j e)))).2.1
  cases f with
  | next=>obtain ⟨σ7,q,z,U⟩:=B;exact again z U
  | cont=>obtain ⟨σ7,q,z,U⟩:=B;exact again z U
  | brk=>obtain ⟨σ7,q,z,B⟩:=B;exact ⟨σ7,q,z.unpinned,B⟩
  | ret v=>obtain ⟨x7, σ7,q,z,r7,B⟩:=B;exact ⟨x7, σ7,q,z.unpinned,r7,B⟩
end
end
section
noncomputable abbrev R2:=V->V->Hp->VK->Prop
def OpR (X:Cx) (f:gV->gV->Sem gV) (r:R2):Prop :=
 ∀ (pins:List (Addr×Obj)) (s:tv) (σ:St) (H:Hp) (x y:V) (v u:gV) (Q:VK),Inv X pins σ H s->RelV x v->RelV y u->r x y H Q ->
  Fq (model X.prog X.w) X.A (f v u) (EP X pins σ Q) X.xe s
def UnR (X:Cx) (f:gV->Sem gV) (r:V->Hp->VK->Prop):Prop :=
 ∀ (pins:List (Addr×Obj)) (s:tv) (σ:St) (H:Hp) (x:V) (v:gV) (Q:VK),Inv X pins σ H s->RelV x v->r x H Q ->
  Fq (model X.prog X.w) X.A (f v) (EP X pins σ Q) X.xe s
def CallR (X:Cx) (f:gV) (r:List V->Hp->VK->Prop):Prop :=
 ∀ (pins:List (Addr×Obj)) (s:tv) (σ:St) (H:Hp) (xs:List V) (us:List gV) (Q:VK),Inv X pins σ H s->Vals xs us->r xs H Q ->
  Fq (model X.prog X.w) X.A (call f us) (EP X pins σ Q) X.xe s
def Cz (X:Cx) (r:V->Hp->(Bool->Hp->Prop)->Prop):Prop :=
 ∀ (pins:List (Addr×Obj)) (s:tv) (σ:St) (H:Hp) (x:V) (v:gV) (Q:Bool->Hp->Prop),Inv X pins σ H s->RelV x v->r x H Q ->
  Fq (model X.prog X.w) X.A (truthy v) (TP X pins σ Q) X.xe s
noncomputable def tOp (r:R2) (ta tb:TE):TE:=fun σ H Q=>ta σ H fun x H1=>tb σ H1 fun y H2=>r x y H2 Q
noncomputable def tUn (r:V->Hp->VK->Prop) (ta:TE):TE:=fun σ H Q=>ta σ H fun x H1=>r x H1 Q
noncomputable def rI (C:Int->Int->Prop) (g:Int->Int->V):R2:=fun x y H Q => ∃ i j,x = .int i/\y = .int j/\C i j/\Q (g i j) H
noncomputable def rI0 (g:Int->Int->V):R2:=fun x y H Q => ∃ i j,x = .int i/\y = .int j/\Q (g i j) H
noncomputable def rU (g:Int->V):V->Hp->VK->Prop:=fun x H Q => ∃ i,x = .int i/\Q (g i) H
section
variable {X:Cx} {a b c:Expr} {ta tb tc:TE} {pos:Pos}
theorem vf (j:PE X a ta) (q:PE X b tb) {pins:List (Addr×Obj)} {s:tv} {σ:St} {H:Hp} {R:V->V->Hp->Prop} (I:Inv X pins σ H s)
 (h:ta σ H fun x H1=>tb σ H1 fun y H2=>R x y H2) {Q:gV->tv->Prop} {f:gV->gV->Sem gV}
 (hf:∀ v u s2 x y H2,Inv X pins σ H2 s2->RelV x v->RelV y u->R x y H2->Fq (model X.prog X.w) X.A (f v u) Q X.xe s2) :
 Fq (model X.prog X.w) X.A (eval a X.env) (fun v s₁ => Fq (model X.prog X.w) X.A (eval b X.env) (fun u s₂ => Fq (model X.prog X.w) X.A (f v u) Q X.xe s₂) X.xe s₁) X.xe s:=by
 refine thn (j pins s σ H _ I h) fun v s1 ⟨x,H1,z,B,F⟩ => ?_;refine thn (q pins s1 σ H1 _ z F) fun u s2 ⟨y,H2,G,J,L⟩ => ?_;exact hf v u s2 x y H2 G B J L
theorem BH {op:Jr} {r:R2} (ho:OpR X (GX op) r) (j:PE X a ta) (z:PE X b tb):PE X (.BinOp a op b pos) (tOp r ta tb):=by
 intro pins s σ H Q I h;exact wpAny_BinOp (vf j z I h fun v u s2 x y H2 B rx ry q=>ho pins s2 σ H2 x y v u Q B rx ry q)
theorem BI {op:UnaryOp} {r:V->Hp->VK->Prop} (ho:UnR X (unaryOp op) r) (j:PE X a ta):PE X (.UnaryOp op a pos) (tUn r ta):=by
 intro pins s σ H Q I h;exact UnaryOp_ (thn (j pins s σ H _ I h) fun v s1 ⟨x,H1,q,z,B⟩=>ho pins s1 σ H1 x v Q q z B)
theorem opI {f:gV->gV->Sem gV} {C:Int->Int->Prop} {g:Int->Int->Int}
 (rule:∀ (i j:Int) (t u:Tok) (s:tv) (Q:gV->tv->Prop) (E:gV->tv->Prop),C i j->Q (.int (g i j) s.toks) { s with toks:=s.toks+1 }->Fq (model X.prog X.w) X.A (f (.int i t) (.int j u)) Q E s) :
 OpR X f (rI C fun i j => .int (g i j)):=by
 intro pins s σ H x y v u Q I rx ry h;obtain ⟨i,j,rfl,rfl,z,q⟩:=h;obtain ⟨t,rfl⟩:=rx;obtain ⟨t',rfl⟩:=ry;exact rule i j t t' s _ _ z ⟨.int (g i j),H,I.tok _,⟨_,rfl⟩,q⟩
theorem qr {f:gV->gV->Sem gV} {g:Int->Int->Int}
 (rule:∀ (i j:Int) (t u:Tok) (s:tv) (Q:gV->tv->Prop) (E:gV->tv->Prop),Q (.int (g i j) s.toks) { s with toks:=s.toks+1 }->Fq (model X.prog X.w) X.A (f (.int i t) (.int j u)) Q E s) :
 OpR X f (rI0 fun i j => .int (g i j)):=by
 intro pins s σ H x y v u Q I rx ry h;obtain ⟨i,j,rfl,rfl,q⟩:=h;obtain ⟨t,rfl⟩:=rx;obtain ⟨t',rfl⟩:=ry;exact rule i j t t' s _ _ ⟨.int (g i j),H,I.tok _,⟨_,rfl⟩,q⟩
theorem vg {f:gV->gV->Sem gV} {g:Int->Int->Bool}
 (rule:∀ (i j:Int) (t u:Tok) (s:tv) (Q:gV->tv->Prop) (E:gV->tv->Prop),Q (.bool (g i j)) s->Fq (model X.prog X.w) X.A (f (.int i t) (.int j u)) Q E s) :
 OpR X f (rI0 fun i j => .bl (g i j)):=by
 intro pins s σ H x y v u Q I rx ry h;obtain ⟨i,j,rfl,rfl,q⟩:=h;obtain ⟨t,rfl⟩:=rx;obtain ⟨t',rfl⟩:=ry;exact rule i j t t' s _ _ ⟨.bl (g i j),H,I,rfl,q⟩
def CA (i j:Int):Prop := 0<=j/\j<=1000000/\i.natAbs < 2 ^ 64
theorem op_add:OpR X (GX .Add) (rI0 fun i j => .int (i+j)):=qr fun _ _ _ _ _ _ _ q=>add_int q
theorem Ah:OpR X (GX .Sub) (rI0 fun i j => .int (i - j)):=qr fun _ _ _ _ _ _ _ q=>sub_int q
theorem Ai:OpR X (GX .Mod) (rI (fun _ j => 0 < j) fun i j => .int (i % j)):=opI fun i j _ _ _ _ _ z q=>by
 have h1:(0:Int) < j:=z;exact mod_int' (by omega) (by rw [Int.fmod_eq_emod_of_nonneg i (by omega)];exact q)
theorem Aj:OpR X (GX .Pow) (rI CA fun i j => .int (i ^ j.toNat)):=opI fun _ _ _ _ _ _ _ z q=>pow_int_small z.1 z.2.1 z.2.2 q
theorem yn:OpR X (JJ .Add) (rI0 fun i j => .int (i+j)):=qr fun _ _ _ _ _ _ _ q=>iadd_int q
theorem yo:OpR X (JJ .Sub) (rI0 fun i j => .int (i - j)):=qr fun _ _ _ _ _ _ _ q=>isub_int q
theorem unI {f:gV->Sem gV} {g:Int->Int}
 (rule:∀ (i:Int) (t:Tok) (s:tv) (Q:gV->tv->Prop) (E:gV->tv->Prop),Q (.int (g i) s.toks) { s with toks:=s.toks+1 }->Fq (model X.prog X.w) X.A (f (.int i t)) Q E s) :
 UnR X f (rU fun i => .int (g i)):=by
 intro pins s σ H x v Q I rx h;obtain ⟨i,rfl,q⟩:=h;obtain ⟨t,rfl⟩:=rx;exact rule i t s _ _ ⟨.int (g i),H,I.tok _,⟨_,rfl⟩,q⟩
theorem Ak:UnR X (unaryOp .USub) (rU fun i => .int (-i)):=unI fun _ _ _ _ _ q=>neg_int q
end
section
variable {X:Cx} {a b c:Expr} {ta tb tc:TE} {pos:Pos}
theorem BJ:OpR X (Hx .Lt) (rI0 fun i j => .bl (decide (i < j))):=vg fun _ _ _ _ _ _ _ q=>lt_int q
theorem BK:OpR X (Hx .Gt) (rI0 fun i j => .bl (decide (j < i))):=vg fun _ _ _ _ _ _ _ q=>gt_int q
theorem BL:OpR X (Hx .GtE) (rI0 fun i j => .bl (decide (j<=i))):=vg fun _ _ _ _ _ _ _ q=>ge_int q
theorem OpR.or {f:gV->gV->Sem gV} {r r':R2} (h:OpR X f r) (h':OpR X f r'):OpR X f (fun x y H Q=>r x y H Q∨r' x y H Q):=by
 intro pins s σ H x y v u Q I rx ry q
 rcases q with q | q
 ·exact h pins s σ H x y v u Q I rx ry q
 ·exact h' pins s σ H x y v u Q I rx ry q
theorem yp {op:CmpOp} {r:R2} (ho:OpR X (Hx op) r) (j:PE X a ta) (z:PE X b tb) (hm:J2 op b=false):PE X (.Compare a [op] [b] pos) (tOp r ta tb):=by
 intro pins s σ H Q I h;exact wpAny_Compare1 (vf j z I h fun v u s2 x y H2 B rx ry q=>ho pins s2 σ H2 x y v u Q B rx ry q) hm
noncomputable def xt (t:TE):TT:=fun σ H Q=>t σ H fun x H' => ∃ k,x = .bl k/\Q k H'
theorem yq {op:CmpOp} {r:R2} (ho:OpR X (Hx op) r) (j:PE X a ta) (q:PE X b tb) (hm:J2 op b=false):PT X (.Compare a [op] [b] pos) (xt (tOp r ta tb)):=by
 intro pins s σ H Q I h;refine wpAny_isTrue_Compare1 (thn (j pins s σ H _ I h) fun v s1 ⟨x,H1,B,F,G⟩=>thn (q pins s1 σ H1 _ B G) fun u s2 ⟨y,H2,J,L,O⟩ =>
  thn (ho pins s2 σ H2 x y v u _ J F L O) fun c s3 ⟨z,U,Y,Z,k,e,q3⟩ => ?_) hm
 subst e
 cases Z
 exact Ib ⟨U,Y,q3⟩
def vh (K:Frag) (x:V) (H:Hp) (k:Bool):Prop :=
 match x with
 | .non=>k=false
 | .bl b=>k=b
 | .int i=>k=(i != 0)
 | .str y=>y.length<=Fj/\k=((y.length:Int) != 0)
 | .byt y=>y.size<=Fj/\k=((y.size:Int) != 0)
 | .ref p=>(∃ xs,SqL K H p xs/\k = !xs.isEmpty)∨(∃ xs,SqT K H p xs/\k = !xs.isEmpty) ∨ ∃ kvs,H p=some (.dK kvs)/\k = !kvs.isEmpty
 | _=>False
theorem qt {κ:Type} {kvs:List (κ × V)} {vs:List (κ × gV)} (r:KV kvs vs):(!vs.isEmpty) = !kvs.isEmpty:=by
 cases r <;> rfl
theorem iK {xs:List V} {its:List gV} (r:Vals xs its):(!its.toArray.isEmpty) = !xs.isEmpty:=by
 cases r <;> simp
theorem e9:(Fj:Nat) < 2 ^ 63:=by rw [Fb];decide
theorem Al:Cz X (fun x H Q => ∃ k,vh X.K x H k/\Q k H):=by
 intro pins s σ H x v Q I rx h;obtain ⟨k,e,q⟩:=h;have F:=e9;have hs:Fj=16777216:=Fb
 cases x with
 | non =>
   cases rx
   have e':k=false:=e;subst e';exact truthy_none ⟨H,I,q⟩
 | bl b =>
   cases rx
   have e':k=b:=e;subst e';exact Ib ⟨H,I,q⟩
 | int i =>
   obtain ⟨t,rfl⟩:=rx;have e':k=(i != 0):=e;subst e';exact PySem.P.truthy_int ⟨H,I,q⟩
 | str y =>
   obtain ⟨t,rfl⟩:=rx;obtain ⟨z,e'⟩:y.length<=Fj/\k=((y.length:Int) != 0):=e;subst e';exact PySem.P.truthy_str (by omega) ⟨H,I.tok _,q⟩
 | byt y =>
   obtain ⟨t,rfl⟩:=rx;obtain ⟨z,e'⟩:y.size<=Fj/\k=((y.size:Int) != 0):=e;subst e';exact PySem.W.truthy_bytes (by omega) ⟨H,I.tok _,q⟩
 | ref p =>
   cases rx
   have e':(∃ xs,SqL X.K H p xs/\k = !xs.isEmpty)∨(∃ xs,SqT X.K H p xs/\k = !xs.isEmpty) ∨ ∃ kvs,H p=some (.dK kvs)/\k = !kvs.isEmpty:=e
   rcases e' with ⟨xs,hx,e'⟩ | ⟨xs,hx,e'⟩ | ⟨kvs,hx,e'⟩
   ·subst e';obtain ⟨its,r,pl,j⟩:=I.list hx;have hlen:=r.length;exact wpAny_truthy_list pl.isList (by simp only [Fn];omega) ⟨H,I.tok _,by rw [iK r];exact q⟩
   ·subst e';obtain ⟨its,r,pl,j⟩:=I.tuple hx;have hlen:=r.length;exact truthy_tuple pl (by simp only [Fn];omega) ⟨H,I.tok _,by rw [iK r];exact q⟩
   ·subst e';obtain ⟨j,B,vs,r,m⟩:kvs.length<=Fj/\(p==H0)=false /\ ∃ vs,KV kvs vs/\s.heap.DictOf (aD X.prog X.w) p vs:=I.hok p _ hx;have hlen:kvs.length=vs.length:=Ih r;exact wpAny_truthy_dict B m (by omega) ⟨H,I.tok _,by rw [qt r];exact q⟩
 | _=>exact (show False from e).elim
theorem vj (j:PE X a ta) (he:∀ whole,isTrue a X.env whole=(do let v <- whole;KG a.pos;holding [v] (truthy v))) :
 PT X a (fun σ H Q=>ta σ H fun x H' => ∃ k,vh X.K x H' k/\Q k H'):=by
 intro pins s σ H Q I h;exact isTrue_plain (thn (j pins s σ H _ I h) fun v s1 ⟨x,H1,q,z,B⟩=>Al pins s1 σ H1 x v Q q z B) (he _)
theorem qu:OpR X (GX .Add) (fun x y H Q => ∃ i j,x = .str i/\y = .str j/\i.length+j.length<=Fj/\Q (.str (i++j)) H):=by
 intro pins s σ H x y v u Q I rx ry h;obtain ⟨i,j,rfl,rfl,z,q⟩:=h;obtain ⟨t,rfl⟩:=rx;obtain ⟨t',rfl⟩:=ry;exact add_str (fun t' tk=>⟨.str (i++j),H,I.tok _,⟨_,rfl⟩,q⟩) z
theorem dI {x:V} {us:List gV} (r:Vals [x] us):∃ u,us=[u]/\RelV x u:=by
 cases r with
 | cons j q=>cases q;exact ⟨_,rfl,j⟩
theorem qv {x y:V} {us:List gV} (r:Vals [x,y] us):∃ u w',us=[u,w']/\RelV x u/\RelV y w':=by
 cases r with
 | cons j q =>
   cases q with
   | cons z B=>cases B;exact ⟨_,_,rfl,j,z⟩
theorem vm:CallR X (.builtin "abs") (fun xs H Q => ∃ i,xs=[.int i]/\Q (.int (if i < 0 then -i else i)) H):=by
 intro pins s σ H xs us Q I r h;obtain ⟨i,rfl,q⟩:=h;obtain ⟨u,rfl,t,rfl⟩:=dI r;exact call_abs_int fun u tk=>⟨.int (if i < 0 then -i else i),H,I.tok _,⟨_,rfl⟩,q⟩
theorem su (B:X.calm=true):CallR X (.builtin "min") (fun xs H Q => ∃ i j,xs=[.int i, .int j]/\Q (.int (if j < i then j else i)) H):=by
 intro pins s σ H xs us Q I r h;obtain ⟨i,j,rfl,q⟩:=h;obtain ⟨u,w',rfl,⟨t,rfl⟩,⟨t',rfl⟩⟩:=qv r;refine min_two_ints (I.ok.hd B) fun h' tk k=>⟨_,H,I.kept k, ?_,q⟩
 by_cases z:j < i
 ·rw [if_pos z,if_pos z];exact ⟨_,rfl⟩
 ·rw [if_neg z,if_neg z];exact ⟨_,rfl⟩
theorem sv:CallR X (.type "int") (fun xs H Q=>(∃ i,xs=[.int i]/\Q (.int i) H) ∨ ∃ k,xs=[.bl k]/\Q (.int (if k then 1 else 0)) H):=by
 intro pins s σ H xs us Q I r h
 rcases h with ⟨i,rfl,q⟩ | ⟨k,rfl,q⟩
 ·obtain ⟨u,rfl,t,rfl⟩:=dI r;exact call_int_int ⟨.int i,H,I,⟨_,rfl⟩,q⟩
 ·obtain ⟨u,rfl,j⟩:=dI r
  cases j
  exact call_int_bool ⟨.int (if k then 1 else 0),H,I.tok _,⟨_,rfl⟩,q⟩
def CB (K:Frag) (x:V) (H:Hp) (n:Nat):Prop :=
 match x with
 | .str y=>y.length<=Fj/\n=y.length
 | .byt y=>y.size<=Fj/\n=y.size
 | .ref p=>(∃ xs,SqL K H p xs/\n=xs.length) ∨ ∃ xs,SqT K H p xs/\n=xs.length
 | _=>False
theorem vp:CallR X (.builtin "len") (fun xs H Q => ∃ x n,xs=[x]/\CB X.K x H n/\Q (.int n) H):=by
 intro pins s σ H xs us Q I r h;obtain ⟨x,n,rfl,e,q⟩:=h;obtain ⟨u,rfl,rx⟩:=dI r;have B:=e9;have hs:Fj=16777216:=Fb
 cases x with
 | str y =>
   obtain ⟨t,rfl⟩:=rx;obtain ⟨j,e'⟩:y.length<=Fj/\n=y.length:=e;subst e';exact len_str (by omega) ⟨.int _,H,I.tok _,⟨_,rfl⟩,q⟩
 | byt y =>
   obtain ⟨t,rfl⟩:=rx;obtain ⟨j,e'⟩:y.size<=Fj/\n=y.size:=e;subst e';exact PySem.W.len_bytes (by omega) ⟨.int _,H,I.tok _,⟨_,rfl⟩,q⟩
 | ref p =>
   cases rx
   have e':(∃ xs,SqL X.K H p xs/\n=xs.length) ∨ ∃ xs,SqT X.K H p xs/\n=xs.length:=e
   rcases e' with ⟨xs,hx,e'⟩ | ⟨xs,hx,e'⟩
   ·subst e';obtain ⟨its,r',pl,z⟩:=I.list hx;have hlen:=r'.length;exact Calls.call_len_list pl.isList (by simp only [Fn];omega) ⟨.int xs.length,H,I.tok _,⟨_,by simp only [Fn];rw [hlen]⟩,q⟩
   ·subst e';obtain ⟨its,r',pl,z⟩:=I.tuple hx;have hlen:=r'.length;exact len_tuple pl (by simp only [Fn];omega) ⟨.int xs.length,H,I.tok _,⟨_,by simp only [Fn];rw [hlen]⟩,q⟩
 | _=>exact (show False from e).elim
end
end
section
structure ObjM (h:Heap) (x dx C:Addr) (mA:Str->Option gV):Prop where
 obj:h.get? x=some (Lw C dx)
 ns:h.Ns1 dx mA
 ne:dx≠x
theorem sx {h:Heap} {dx:Addr} {mA:Str->Option gV} (n:h.Ns1 dx mA):∃ od,h.get? dx=some od /\ ∀ name,LI name od=some (mA name):=by
 obtain ⟨o,es,ep,ho,hd,B,_,hm⟩:=n;refine ⟨o,ho,fun name => ?_⟩;have e:=hm name;unfold nsFind findBy at e;rw [<- Array.find?_toList] at e;unfold LI;rw [hd];dsimp only
 split
 ·rename_i y q;rw [q] at e;exact congrArg some e
 ·rename_i q;rw [q] at e;have a:es.toList.any (·.refKey)=false:=by
   rw [List.any_eq_false];intro y F;obtain ⟨z,t,j⟩:=B y (Array.mem_toList_iff.mp F);simp [DictEntry.refKey,j]
  have a' : ¬ es.toList.any (·.refKey)=true:=by rw [a];exact Fp
  rw [if_neg a'];exact congrArg some e
theorem ObjM.look {h:Heap} {x dx C:Addr} {mA:Str->Option gV} (I:ObjM h x dx C mA):∃ od,PySem.W.InstAt h x (Lw C dx) C (some od) /\ ∀ name,LI name od=some (mA name) :=
 let ⟨od,ho,j⟩:=sx I.ns
 ⟨od,⟨I.obj,rfl,rfl,ho⟩,j⟩
theorem OX {v:V} {o:Option gV} (r:RelO (some v) o):∃ u,o=some u/\RelV v u:=by
 cases o with
 | none=>exact (show False from r).elim
 | some u=>exact ⟨u,rfl,r⟩
section
variable {P:FI} {w:G2} {H H':Hp} {h h':Heap} {a C dx:Addr} {fs fs':List (Str×V)}
theorem yr (hok:HOk P w H h) (e:H a=some (.ins C dx fs)):∃ mA,ObjM h a dx C mA/\(∀ f,RelO (fs.lookup f) (mA f))/\PySem.Within mA (fs.map (·.1))/\fs.length<=1000/\H dx=some (.own a):=by
 obtain ⟨d,z,ne,ob,mA,n,r,q⟩:=(show ObjOk P w H h a (.ins C dx fs) from hok a _ e);exact ⟨mA,⟨ob,n,ne⟩,r,q,z,d⟩
end
structure Cls (K:Frag) (C:Addr):Prop where
 pg:NA K C Str.empty=true
 hd:PySem.W.hasDictIn K C=true
 po:PySem.W.plainOver K C=true
 sa:PySem.W.findIn K (.ref C) "__setattr__" = some (some (.builtin "object.__setattr__"))
theorem Cls.get {K:Frag} {C:Addr} (c:Cls K C) (f:Str):NA K C f=true:=c.pg
section
variable {X:Cx} {pins:List (Addr×Obj)} {σ:St} {H:Hp} {s:tv} {A:G8} {E:gV->tv->Prop} {Q:gV->tv->Prop} {c:gV} {b:Bool}
inductive bT (K:Frag) (H:Hp):V->gV->Prop where
 | non:bT K H .non (.type "NoneType")
 | bl (x:Bool):bT K H (.bl x) (.type "bool")
 | int (i:Int):bT K H (.int i) (.type "int")
 | str (x:Str):bT K H (.str x) (.type "str")
 | flt (x:UInt64):bT K H (.flt x) (.type "float")
 | lst {a:Addr} {xs:List V} (e:H a=some (.lst xs)):bT K H (.ref a) (.type "list")
 | frz {a:Addr} {o:Obj} {xs:List V} (e:H a=some (.frz o (.lst xs))):bT K H (.ref a) (.type "list")
 | tup {a:Addr} {xs:List V} (e:SqT K H a xs):bT K H (.ref a) (.type "tuple")
 | dK {a:Addr} {kvs:List (Key×V)} (e:H a=some (.dK kvs)):bT K H (.ref a) (.type "dict")
 | dT {a:Addr} {kvs:List (List Key×V)} (e:H a=some (.dT kvs)):bT K H (.ref a) (.type "dict")
 | ins {a C dx:Addr} {fs:List (Str×V)} (e:H a=some (.ins C dx fs)) (cl:Cls K C) (ha:PySem.W.findIn K (.ref C) "__class__" = some (some (.builtin "object.__class__")))
    (hn:PySem.W.specialIn K (.builtin "object.__class__") "__get__" = some (some (.builtin "getset_descriptor.__get__"))) (htk:PySem.W.takesIn K (.builtin "object.__class__")=some true)
    (hm:PySem.W.mroIn K C (.type "object")=some true):bT K H (.ref a) (.ref C)
theorem sy {x:V} {u t:gV} (I:Inv X pins σ H s) (rx:RelV x u) (ty:bT X.K H x t) (e:PySem.W.kitOne X.K t c=some b) (h:∀ tk,Q (.bool b) { s with toks:=tk }) :
 Fq (model X.prog X.w) A (call (.builtin "isinstance") [u,c]) Q E s:=by
 cases ty with
 | non=>cases (show u=He from rx);exact GK Na I.kIn H8 e (fun z=>nomatch z) h
 | bl y=>cases (show u=Lf y from rx);exact GK Nb I.kIn H8 e (fun z=>nomatch z) h
 | int i=>obtain ⟨t,q⟩:=(show ∃ t,u=Mk i t from rx);cases q;exact GK NB I.kIn H8 e (fun z=>nomatch z) h
 | str y=>obtain ⟨t,q⟩:=(show ∃ t,u=Ml y t from rx);cases q;exact GK ND I.kIn H8 e (fun z=>nomatch z) h
 | flt y=>obtain ⟨t,q⟩:=(show ∃ t,u=NT y t from rx);cases q;exact GK MR I.kIn H8 e (fun z=>nomatch z) h
 | @lst a xs ea =>
  cases (show u=FA a from rx)
  obtain ⟨_,_,n,_,h1⟩:=(show ObjOk X.prog X.w H s.heap a (.lst xs) from I.hok a _ ea);exact GK Js I.kIn ⟨_,h1,rfl⟩ e (fun z=>nomatch z) h
 | @frz a ob xs ea =>
  cases (show u=FA a from rx)
  obtain ⟨_,_,_,n,_,h1⟩:=(show ObjOk X.prog X.w H s.heap a (.frz ob (.lst xs)) from I.hok a _ ea);exact GK Js I.kIn ⟨_,h1,rfl⟩ e (fun z=>nomatch z) h
 | @tup a xs ea =>
  cases (show u=FA a from rx)
  obtain ⟨_,_,p,_⟩:=I.tuple ea;obtain ⟨o,h1,h2,_⟩:=p;exact GK MU I.kIn ⟨o,h1,h2⟩ e (fun z=>nomatch z) h
 | @dK a kvs ea =>
  cases (show u=FA a from rx)
  obtain ⟨_,_,vs,_,p⟩:=(show ObjOk X.prog X.w H s.heap a (.dK kvs) from I.hok a _ ea);obtain ⟨o,es,ep,h1,h2,_⟩:=p;exact GK Jt I.kIn ⟨o,h1,h2.1⟩ e (fun z=>nomatch z) h
 | @dT a kvs ea =>
  cases (show u=FA a from rx)
  obtain ⟨_,_,xs,_,o,es,ep,h1,h2,_⟩:=(show ObjOk X.prog X.w H s.heap a (.dT kvs) from I.hok a _ ea);exact GK Jt I.kIn ⟨o,h1,h2.1⟩ e (fun z=>nomatch z) h
 | @ins a C dx fs ea cl ha hn htk hm =>
  cases (show u=FA a from rx)
  obtain ⟨mA,O,_⟩:=yr I.hok ea;obtain ⟨od,J,_⟩:=O.look;exact GK (PySem.W.kitx_own (cl.get _) cl.hd ha hn htk hm) I.kIn J e (fun z=>nomatch z) h
end
end
section
structure Room (k:Nat) (A:G8):Prop where
 hd:A.handled=none
 dp:A.depth+3*k+5 < recursionLimit
 un:A.units+16*k+200 < HQ
theorem Room.deeper {k:Nat} {A:G8} (r:Room (k+1) A) (env:Env):Room k (A.deeper env) :=
 ⟨r.hd,by have:=r.dp;show A.depth+1+3*k+5 < _;omega,by have:=r.un;show A.units+3+16*k+200 < _;omega⟩
theorem Room.depth {k:Nat} {A:G8} (r:Room k A):A.depth < recursionLimit:=by have:=r.dp;omega
theorem Room.units {k:Nat} {A:G8} (r:Room k A):A.units+64 < HQ:=by have:=r.un;omega
noncomputable def Am:TA:=fun _ H Q=>Q [] H
noncomputable def xu (ta:TE) (tr:TA):TA:=fun σ H Q=>ta σ H fun x H1=>tr σ H1 fun xs H2=>Q (x::xs) H2
section
variable {X:Cx} {e:Expr} {es:List Expr} {te:TE} {t:TA} {pos:Pos}
theorem iL:PA X [] Am:=fun _ _ _ _ H Q I h=>KI ⟨[],H,I, .nil,h⟩
theorem cB (j:PE X e te) (q:PA X es t) (hs:FO (e::es) X.env=(false,eval e X.env)::FO es X.env:=by rfl):PA X (e::es) (xu te t):=by
 intro pos pins s σ H Q I h;rw [hs];show Fq _ _ (spliced ((false,eval e X.env)::J0 pos (FO es X.env))) _ _ s;refine Jf (thn (j pins s σ H _ I h) fun u s1 ⟨x,H1,z,B,F⟩ => ?_);exact thn (q pos pins s1 σ H1 _ z F) fun us s2 ⟨xs,H2,G,J,L⟩=>⟨x::xs,H2,G, .cons B J,L⟩
noncomputable def CC (t:TA):TE:=fun σ H Q=>t σ H fun xs H1=>xs.length<=Fj /\ ∀ p,H1 p=none->Q (.ref p) (upd H1 p (.tup xs))
noncomputable def CD (t:TA):TE:=fun σ H Q=>t σ H fun xs H1=>xs.length<=Fj /\ ∀ p,H1 p=none->Q (.ref p) (upd H1 p (.lst xs))
theorem sB {B} (h:PA X es t):PE X (.Tuple es B pos) (CC t):=by
 intro pins s σ H Q I hq;refine wpAny_Tuple_spliced (thn (h pos pins s σ H _ I hq) fun us s1 ⟨xs,H1,j,r,z,q⟩=>⟨by rw [<- r.length];exact z, ?_⟩)
 have hf:H1 s1.heap.objs.size=none:=j.hok.fresh (Fl _);refine ⟨.ref s1.heap.objs.size,upd H1 s1.heap.objs.size (.tup xs),j.laid (t':=s1.toks) (fun b u e=>q7 _ e) (Fl _) ?_,rfl,q _ hf⟩;exact ⟨z,us,r,⟨_,Fh _ rfl,rfl,_,rfl⟩⟩
theorem An (h:PA X es t):PE X (.List es pos) (CD t):=by
 intro pins s σ H Q I hq;refine wpAny_List_spliced (thn (h pos pins s σ H _ I hq) fun us s1 ⟨xs,H1,j,r,z,q⟩=>⟨by rw [<- r.length];exact z, ?_⟩)
 have hf:H1 s1.heap.objs.size=none:=j.hok.fresh (Fl _);refine ⟨.ref s1.heap.objs.size,upd H1 s1.heap.objs.size (.lst xs),j.laid (t':=s1.toks) (fun b u e=>q7 _ e) (Fl _) ?_,rfl,q _ hf⟩;exact ⟨z,us,0,r,Fh _ rfl⟩
end
noncomputable abbrev Sp:=List V->Hp->VK->XK->Prop
noncomputable abbrev CXT:=List Env->Hp->tv->XK->gV->tv->Prop
structure qw (P:FI) (w:G2) (K:Frag) (mg:Str->Option gV) (base:Heap) (A:G8) (outer:List Env) (s:tv) (H:Hp):Prop where
 frames:A.frames=some outer
 mod:Mod K mg base
 bs:∀ b o,base.get? b=some o->s.heap.get? b=some o/\H b=none
 bsz:base.objs.size<=s.heap.objs.size
 funs:s.heap.FunFrames base outer
 frf:∀ b∈frs outer,H b=none
 hok:HOk P w H s.heap
 bare:KD s.gens
def CE (outer:List Env) (P:FI) (w:G2) (H:Hp) (s:tv) (Q:VK) (u:gV) (s':tv):Prop :=
 ∃ v H',s'.os=s.os/\KD s'.gens/\Un (frs outer) [] H H' s.heap s'.heap/\HOk P w H' s'.heap/\RelV v u/\Q v H'
def CR (CX:CXT) (outer:List Env) (P:FI) (w:G2) (H:Hp) (s:tv) (Q:VK) (E:XK) (r:NF) (s':tv):Prop :=
 match r with
 | .ok (.ret u)=>CE outer P w H s Q u s'
 | .ok _=>False
 | .error e=>CX outer H s E e s'
structure du (P:FI) (w:G2) (K:Frag) (mg:Str->Option gV) (base:Heap) (CX:CXT) (k:Nat) (f:Addr) (fd:IP) (ps:List Str) (sp:Sp):Prop where
 len:∀ vs H Q E,sp vs H Q E->vs.length=ps.length
 run:∀ (A:G8) (outer:List Env) (s:tv) (H:Hp) (args:Args) (us:List gV) (vs:List V) (Q:VK) (E:XK),Room k A->qw P w K mg base A outer s H->Nc s fd args (ps.zip us)->Vals vs us->sp vs H Q E ->
  Ja (model P w) A (.call (.ref f) args) (CR CX outer P w H s Q E) s
section
variable {X:Cx} {pins:List (Addr×Obj)} {σ:St} {H:Hp} {s s':tv}
theorem Inv.env0 (I:Inv X pins σ H s):qw X.prog X.w X.K X.mg X.base X.A X.stack s H :=
 ⟨I.ok.frames,I.ok.mod,I.bs,Ho I.ok.bsz I.sz,I.stack,I.stkFree,I.hok,I.bare⟩
theorem Inv.after {Q:VK} {u:gV} (I:Inv X pins σ H s) (h:CE X.stack X.prog X.w H s Q u s'):EP X pins σ Q u s':=by
 obtain ⟨v,H',os,bare,un,hok,r,q⟩:=h;obtain ⟨j,g,d,t,os'⟩:=s';obtain rfl:os'=s.os:=os;exact ⟨v,H',I.call (h':=j) (g':=g) (d':=d) (t':=t) (ch := []) un hok bare (fun b z=>absurd z (by simp)),r,q⟩
end
noncomputable def xv (sp:Sp) (dvs:List V) (E:XK) (t:TA):TE:=fun σ H Q=>t σ H fun vs H1=>sp (vs++dvs) H1 Q E
def Binds (K:Frag) (fd:IP) (ps:List Str) (ds:List gV):Prop :=
 ∀ (s:tv) (us:List gV),K.In s.heap->(us++ds).length=ps.length->Nc s fd ⟨us,[]⟩ (ps.zip (us++ds))
theorem Binds.all {K:Frag} {fd:IP} {ps:List Str} (h:∀ us:List gV,us.length=ps.length->bindArgs fd ⟨us,[]⟩=pure (ps.zip us)):Binds K fd ps []:=fun s us _ j=>by
 rw [GB] at j ⊢;exact .of_eq (h us j)
def iM (CX:CXT) (X:Cx) (E:XK):Prop := ∀ (pins:List (Addr×Obj)) (σ:St) (H:Hp) (s:tv) (e:gV) (s':tv),Inv X pins σ H s->CX X.stack H s E e s'->X.xe e s'
section
variable {X:Cx} {CX:CXT} {k:Nat} {f C:Addr} {fd:IP} {ps:List Str} {sp:Sp} {dvs:List V} {ds:List gV} {E:XK} {x m:Str} {p pos apos:Pos} {e o:Expr} {es:List Expr} {ta:TE} {t:TA}
theorem lP {pins:List (Addr×Obj)} {σ:St} {H:Hp} {s:tv} {Q:VK} {us:List gV} {vs:List V} (F:du X.prog X.w X.K X.mg X.base CX k f fd ps sp) (z:Room k X.A) (B:Binds X.K fd ps ds) (hd:Vals dvs ds) (hx:iM CX X E)
 (I:Inv X pins σ H s) (r:Vals vs us) (h:sp (vs++dvs) H Q E):Fq (model X.prog X.w) X.A (call (.ref f) us) (EP X pins σ Q) X.xe s:=by
 have q:Vals (vs++dvs) (us++ds):=r.append hd;have G:(us++ds).length=ps.length:=by rw [<- q.length];exact F.len _ _ _ _ h
 refine wpAny_call (IW (F.run X.A X.stack s H ⟨us,[]⟩ (us++ds) (vs++dvs) Q E z I.env0 (B s us I.kIn G) q h) fun r s' j => ?_)
 cases r with
 | error e=>exact hx pins σ H s e s' I j
 | ok fl =>
   cases fl with
   | ret u=>exact I.after j
   | next=>exact False.elim j
   | brk=>exact False.elim j
   | cont=>exact False.elim j
theorem yt (F:du X.prog X.w X.K X.mg X.base CX k f fd ps sp) (G:Room k X.A) (J:Gl X x) (hm:X.mg x=some (.ref f)) (L:IQ X.K (.ref f)=true) (O:Binds X.K fd ps ds) (hd:Vals dvs ds) (hx:iM CX X E)
 (U:PA X (e::es) t) (j:(x==("__debug__":Str))=false:=by decide) (he:FO (e::es) X.env=(false,eval e X.env)::FO es X.env:=by rfl) (z:(J0 pos (FO es X.env)).any (·.1)=false:=by rfl) :
 PE X (.Call (.Name x p) (e::es) [] pos) (xv sp dvs E t):=by
 intro pins s σ H Q I h;refine HX (jF I J hm ?_ j);refine MV (h₀ := X.base) I.ok.mod.kin L (thn (U pos pins s σ H _ I h) fun us s1 ⟨vs,H1,B,r,q⟩=>⟨B.kIn, ?_⟩) he z;exact lP F G O hd hx B r q
theorem vq (F:du X.prog X.w X.K X.mg X.base CX k f fd ps sp) (q:Room k X.A) (z:Gl X x) (hm:X.mg x=some (.ref f)) (B:IQ X.K (.ref f)=true) (G:Binds X.K fd ps ds) (hd:Vals dvs ds) (hx:iM CX X E)
 (j:(x==("__debug__":Str))=false:=by decide):PE X (.Call (.Name x p) [] [] pos) (xv sp dvs E Am):=by
 intro pins s σ H Q I h;refine HX (jF I z hm ?_ j);exact PySem.W.callWith_K0 I.kIn B (lP (us := []) F q G hd hx I .nil h)
end
structure gw (N P:List Str) (sc:Scope):Prop where
 kind:sc.kind = .function
 co:sc.isCoroutine=false
 gen:sc.isGenerator=false
 nd:N.Nodup
 pre:N.take P.length=P
 par:∀ x∈P,sc.names.lookup x=some .local∨sc.names.lookup x=some .cell
 nofree:∀ y∈sc.names,y.2 ≠ .free
theorem kx {GU:Str->Option Ip} {x:Str}:∀ {binds:List (Str×gV)} {m:Str->Option gV},(∀ v,(x,v)∉binds)->Oj GU binds m x=m x
 | [],_,_=>rfl
 | (n,v)::r,m,h=>by
  unfold Oj;rw [kx fun w hw=>h w (FN _ hw)]
  split
  ·have:x≠n:=by rintro rfl;exact h v Gd
   simp [this]
  ·rfl
theorem ky {GU:Str->Option Ip} {x:Str}:∀ {binds:List (Str×gV)} {m:Str->Option gV},(∀ v,(x,v)∉binds)->Ol GU binds m x=m x
 | [],_,_=>rfl
 | (n,v)::r,m,h=>by
  unfold Ol;rw [ky fun w hw=>h w (FN _ hw)]
  split
  ·rfl
  ·have:x≠n:=by rintro rfl;exact h v Gd
   simp [this]
theorem kz {GU:Str->Option Ip} {x:Str} {v:gV}:∀ {P:List Str} {vs:List gV} {i:Nat} {m:Str->Option gV},P.Nodup->P[i]? = some x->vs[i]? = some v->GU x=some .local ->
 Oj GU (P.zip vs) m x=some v
 | [],_,_,_,_,h,_,_=>by simp at h
 | _::_,[],_,_,_,_,h,_=>by simp at h
 | p::P,w::vs,0,m,nd,h1,h2,j=>by
   simp at h1 h2;subst h1;subst h2;show Oj GU ((p,w)::P.zip vs) m p=_;unfold Oj;rw [kx fun v q=>(GC.mp nd).1 (Ly q).1,if_pos j];simp
 | p::P,w::vs,i+1,m,nd,h1,h2,j=>by
   show Oj GU ((p,w)::P.zip vs) m x=_;unfold Oj;exact kz (i:=i) (GC.mp nd).2 (by simpa using h1) (by simpa using h2) j
theorem kA {GU:Str->Option Ip} {x:Str} {v:gV}:∀ {P:List Str} {vs:List gV} {i:Nat} {m:Str->Option gV},P.Nodup->P[i]? = some x->vs[i]? = some v->GU x≠some .local ->
 Ol GU (P.zip vs) m x=some v
 | [],_,_,_,_,h,_,_=>by simp at h
 | _::_,[],_,_,_,_,h,_=>by simp at h
 | p::P,w::vs,0,m,nd,h1,h2,j=>by
   simp at h1 h2;subst h1;subst h2;show Ol GU ((p,w)::P.zip vs) m p=_;unfold Ol;rw [ky fun v q=>(GC.mp nd).1 (Ly q).1,if_neg j];simp
 | p::P,w::vs,i+1,m,nd,h1,h2,j=>by
   show Ol GU ((p,w)::P.zip vs) m x=_;unfold Ol;exact kA (i:=i) (GC.mp nd).2 (by simpa using h1) (by simpa using h2) j
noncomputable def cJ (N:List Str) (vs:List V):St:=vs.map some++Fm (N.length - vs.length) none
noncomputable def i6 (CX:CXT) (P:FI) (w:G2) (K:Frag) (mg:Str->Option gV) (base:Heap) (N:List Str) (qual:Str) (scope:Scope) (f:Addr) (cd:gV) (A:G8) (outer:List Env) (s:tv) (H:Hp) (E:XK):Cx where
 prog:=P
 w:=w
 K:=K
 mg:=mg
 base:=base
 A:=A.deeper (LJ qual scope s.heap.objs.size f cd)
 N:=N
 s₀ := s
 H₀ := H
 env:=LJ qual scope s.heap.objs.size f cd
 outer:=outer
 stack:=LJ qual scope s.heap.objs.size f cd::outer
 ex := []
 calm:=true
 fn:=fun _=>true
 pn := []
 xe:=fun e s'=>Fq (model P w) (A.deeper (LJ qual scope s.heap.objs.size f cd)) (leaving (LJ qual scope s.heap.objs.size f cd) e) (fun _ s''=>CX outer H s E e s'') (fun e' s''=>CX outer H s E e' s'') s'
theorem lQ {sc:Scope} {n:Nat} {x:Str} (h:sc.names.lookup x=some .cell):∃ c,(Hy n sc.names []).lookup x=some c:=by
 have q:=Ju sc.names n [] (.inl h);exact Il.mp q
theorem sC {CX:CXT} {P:FI} {w:G2} {K:Frag} {mg:Str->Option gV} {base:Heap} {N ps:List Str} {qual:Str} {scope:Scope} {f:Addr} {cd:gV} {A:G8} {outer:List Env} {s s1:tv} {H:Hp} {E:XK} {us:List gV} {vs:List V}
 (S:gw N ps scope) (hd:A.handled=none) (e0:qw P w K mg base A outer s H) (O:vs.length=ps.length) (r:Vals vs us)
 (x:InCallC s s.heap.objs.size (Oj (LJ qual scope s.heap.objs.size f cd).kindOf (ps.zip us) fun _=>none) (Hy (s.heap.objs.size+1) scope.names []) (Ol (LJ qual scope s.heap.objs.size f cd).kindOf (ps.zip us) fun _=>none) s1) :
 Inv (i6 CX P w K mg base N qual scope f cd A outer s H E) [] (cJ N vs) H s1:=by
 have J:ps.length<=N.length:=by have:=congrArg JW S.pre;rw [FU] at this;omega
 obtain ⟨h1,tk,rfl,F⟩:=x.done;have noA:∀ b:Addr,b∉(i6 CX P w K mg base N qual scope f cd A outer s H E).ex:=fun b z=>absurd (show b∈([]:List Addr) from z) (by simp)
 refine ⟨⟨e0.mod,S.kind,rfl,rfl,Fl _,fun y z c h1 h2 => ?_,fun y j => ?_,fun y c _ h => ?_,fun _=>hd,Around.frames_deeper e0.frames, .inr ⟨rfl,rfl⟩,fun b z=>absurd z (noA b),e0.bs,e0.bsz,fun b _ _=>noA b,fun b z=>absurd z (noA b),e0.funs,e0.frf⟩,
  rfl,e0.bare,Un.kept F,⟨_,x.toInCall.ns,fun i y v h1 h2 U => ?_⟩,fun y c h=>⟨_,x.cell y c h⟩,e0.hok.fresh (Fl _),fun y c h => ?_,fun p B=>absurd (show p∈([]:List (Addr×Obj)) from B) (by simp),e0.hok.kept F, ?_⟩
 ·exact name_of_addr x.apart (GW h1) (GW h2)
 ·have j:scope.names.lookup y=some .cell∨scope.names.lookup y=some .free:=j
  rcases j with j | j
  ·exact lQ j
  ·exact absurd rfl (S.nofree _ (GW j))
 ·exact IV (x.above y c (GW h))
 ·have hi:i < vs.length:=by
   unfold cJ at h2
   by_cases hi:i < vs.length
   ·exact hi
   ·rw [D2 (by simpa using hi)] at h2
    rw [KY] at h2
    split at h2 <;> cases h2
  have L:vs[i]? = some v:=by
   unfold cJ at h2;rw [Fu (by simpa using hi),FX] at h2
   cases e:vs[i]? with
   | none=>rw [e] at h2;cases h2
   | some a=>rw [e] at h2;cases h2;rfl
  obtain ⟨u,G,rv⟩:=r.get L;have B:ps[i]? = some y:=by
   rw [<- S.pre,J3 (by omega)];exact h1
  have ndP:ps.Nodup:=by rw [<- S.pre];exact S.nd.sublist (List.take_sublist _ _)
  refine ⟨u,rv, ?_⟩
  rcases S.par y (FT B) with k | k
  ·exact .inl ⟨k,kz ndP B G k⟩
  ·obtain ⟨c,e⟩:=lQ (n:=s.heap.objs.size+1) k;refine .inr ⟨.inl k,c,e, ?_⟩;have q:=x.cell y c e;rw [kA ndP B G (by show scope.names.lookup y≠_;rw [k];decide)] at q
   exact q
 ·exact e0.hok.fresh (IV (x.above y c (GW h)))
 ·unfold cJ;show _=N.length;rw [Fk,Fd,List.length_replicate];omega
theorem BM {CX:CXT} {P:FI} {w:G2} {K:Frag} {mg:Str->Option gV} {base:Heap} {k:Nat} {f:Addr} {name qual:Str} {params:Arguments} {body:List Stmt} {scope:Scope} {dV kV doc pm cdv ct oc:gV} {an od:Option Addr}
 {osl:Array (Option gV)} {N ps:List Str} {sp:Sp} (lk:K.lookup f=some ⟨oc,od, .func (Iv name qual params body scope dV kV doc pm an cdv ct),osl⟩) (F:Km K cdv qual=true) (S:gw N ps scope)
 (len:∀ vs H Q E,sp vs H Q E->vs.length=ps.length)
 (j:∀ (A:G8) (outer:List Env) (s:tv) (H:Hp) (vs:List V) (Q:VK) (E:XK),Room k (A.deeper (LJ qual scope s.heap.objs.size f cdv))->sp vs H Q E ->
   ∃ t,PSs (i6 CX P w K mg base N qual scope f cdv A outer s H E) body t/\t { nx:=fun _ H'=>Q .non H',rt:=Q } (cJ N vs) H) :
 du P w K mg base CX (k+1) f (Iv name qual params body scope dV kV doc pm an cdv ct) ps sp:=by
 refine ⟨len,fun A outer s H args us vs Q E G e0 L r B => ?_⟩;have O:=len _ _ _ _ B;have KX:K.In s.heap:=e0.mod.kin.keeps fun b o e=>(e0.bs b o e).1;have lim:s.heap.NoLimit:=e0.mod.nolimit.keeps fun b o e=>(e0.bs b o e).1;have z:∀ y∈ps.zip us,scope.names.lookup y.1=some .local∨(scope.names.lookup y.1=some .cell/\((Hy (s.heap.objs.size+1) scope.names []).lookup y.1).isSome=true):=fun ⟨n,v⟩ hy=>by
  rcases S.par n (Ly hy).1 with q | q
  ·exact .inl q
  ·exact .inr ⟨q,Ju _ _ _ (.inl q)⟩
 refine codeAny_call_function G.depth (KX _ _ lk) rfl S.co S.gen rfl (PySem.W.codeRec_of KX F) (L _ _ _ _ ?_);refine wpAny_newFunctionEnv_cells S.kind z fun env he s1 x => ?_;subst he;refine ⟨lim.keeps x.toInCall.keep,codeAny_func ?_⟩;obtain ⟨t,U,Y⟩:=j A outer s H vs Q E (G.deeper _) B;have I:Inv (i6 CX P w K mg base N qual scope f cdv A outer s H E) [] (cJ N vs) H s1:=sC S G.hd e0 O r x;refine Gw (U [] s1 (cJ N vs) H _ I Y) (fun fl s' hs => ?_) fun e s' hs=>hs;have fin:∀ {σ':St} {H':Hp} {v:V} {u:gV},Inv (i6 CX P w K mg base N qual scope f cdv A outer s H E) [] σ' H' s'->RelV v u->Q v H'->CE outer P w H s Q u s' :=
  fun {σ' H' v u} J rv q=>⟨v,H',J.os,J.bare,J.base,J.hok,rv,q⟩
 cases fl with
 | ret u =>
   obtain ⟨v, σ',H',J,rv,q⟩:=hs;exact fin J rv q
 | next =>
   obtain ⟨σ',H',J,q⟩:=hs;exact fin (v:=V.non) (u:=He) J rfl q
 | brk =>
   obtain ⟨_,_,_,q⟩:=hs;exact False.elim q
 | cont =>
   obtain ⟨_,_,_,q⟩:=hs;exact False.elim q
end
section
section
variable {X:Cx} {x:Str} {p pos:Pos} {e:Expr} {es:List Expr} {t:TA} {id T:String} {r:List V->Hp->VK->Prop}
noncomputable def tCB (r:List V->Hp->VK->Prop) (t:TA):TE:=fun σ H Q=>t σ H fun vs H1=>r vs H1 Q
theorem ca (z:CallR X (.builtin id) r) (B:Gl X x) (hm:X.mg x=none) (F:HI x=some (.builtin id)) (G:PA X (e::es) t) (J:x ≠ "__name__" := by decide) (j:(x==("__debug__":Str))=false:=by decide)
 (he:FO (e::es) X.env=(false,eval e X.env)::FO es X.env:=by rfl) (q:(J0 pos (FO es X.env)).any (·.1)=false:=by rfl):PE X (.Call (.Name x p) (e::es) [] pos) (tCB r t):=by
 intro pins s σ H Q I h;refine HX (e8 I B hm F ?_ J j);exact JK (thn (G pos pins s σ H _ I h) fun us s1 ⟨vs,H1,L,O,U⟩=>z pins s1 σ H1 vs us Q L O U) he q
theorem dJ (z:CallR X (.type T) r) (B:Gl X x) (hm:X.mg x=none) (F:HI x=some (.type T)) (G:PA X (e::es) t) (J:x ≠ "__name__" := by decide) (j:(x==("__debug__":Str))=false:=by decide)
 (he:FO (e::es) X.env=(false,eval e X.env)::FO es X.env:=by rfl) (q:(J0 pos (FO es X.env)).any (·.1)=false:=by rfl):PE X (.Call (.Name x p) (e::es) [] pos) (tCB r t):=by
 intro pins s σ H Q I h;refine HX (e8 I B hm F ?_ J j);exact IJ (thn (G pos pins s σ H _ I h) fun us s1 ⟨vs,H1,L,O,U⟩=>z pins s1 σ H1 vs us Q L O U) he q
end
end
end L2
namespace HT
open PySem PyProof.Rows
section
variable {prog:FI} {w:G2} {A:G8} {E:gV->tv->Prop} {s:tv}
theorem cat_tup {t b:Addr} {vs ws:List gV} {Q:gV->tv->Prop} (U:IsTup s.heap t vs.toArray) (Y:IsTup s.heap b ws.toArray) (G:vs≠[])
 (h1:ws=[]->Q (.ref t) s) (h2:ws≠[]->Q (.ref s.heap.objs.size) { s with heap:=s.heap.push { cls := .type "tuple",data := .seq (vs++ws).toArray } })
 (hsz:vs.length+ws.length<=Fj):Fq (model prog w) A (GX .Add (.ref t) (.ref b)) Q E s:=by
 obtain ⟨⟨cls,dd,data,sl⟩,ho,J,n,hd⟩:=id U;obtain ⟨⟨L,q,data2,z⟩,j,B,O,hd2⟩:=id Y;simp only at J hd B hd2;subst J hd B hd2;have e:vs.toArray++ws.toArray=(vs++ws).toArray:=by simp
 by_cases hw:ws=[]
 ·exact Nf ⟨_,ho,rfl⟩ ⟨_,j,rfl⟩ KZ My Jv Jo (J4 _ _)
   (tuple_addW1 t b vs.toArray ws.toArray n O dd q sl z (by simpa using G) (by simp [hw])) ⟨ho,j,h1 hw⟩
 ·refine Nf ⟨_,ho,rfl⟩ ⟨_,j,rfl⟩ KZ My Jv Jo (J4 _ _)
   (tuple_addW2 t b vs.toArray ws.toArray n O dd q sl z (by simpa using G) (by simpa using hw) (by rw [Fn,Fn];exact hsz)) ⟨ho,j, ?_⟩
  rw [e];exact h2 hw
noncomputable def sIx (n d:Nat):Option Int->Nat
 | none=>d
 | some v=>if v < 0 then (v+(n:Int)).toNat else min v.toNat n
theorem Ao (n d:Nat) (hd:d<=n) (o:Option Int):sIx n d o<=n:=by
 cases o with
 | none=>exact hd
 | some v =>
   show (if v < 0 then (v+(n:Int)).toNat else min v.toNat n)<=n
   by_cases hv:v < 0
   ·rw [if_pos hv];omega
   ·rw [if_neg hv];exact Nat.min_le_right _ _
theorem p8 (v:Int) (n d:Nat):(if v < 0 then max (v+(n:Int)) 0 else min v (n:Int))=((sIx n d (some v):Nat):Int):=by
 show (if v < 0 then max (v+(n:Int)) 0 else min v (n:Int))=(((if v < 0 then (v+(n:Int)).toNat else min v.toNat n):Nat):Int)
 by_cases hv:v < 0
 ·simp only [if_pos hv];omega
 ·simp only [if_neg hv];omega
theorem qy (lo hi:Option Int) (n:Nat):IZ lo hi 1 (n:Int)=(((sIx n 0 lo:Nat):Int),((sIx n n hi:Nat):Int)):=by
 have h1 : ¬ ((1:Int) < 0):=by omega
 unfold IZ;simp only [h1,if_false];refine L3 ?_ ?_
 ·cases lo with
  | none=>rfl
  | some v=>exact p8 v n 0
 ·cases hi with
  | none=>rfl
  | some v=>exact p8 v n n
theorem qz (i j:Nat):I8 (i:Int) (j:Int) 1=j - i:=by
 unfold I8;have h1:(1:Int) > 0:=by omega
 simp only [h1,if_true,Int.ediv_one]
 split <;> omega
theorem iN {v:gV} {o:Option Int} {Q:Option Int->tv->Prop} (p:Lj v o) (h:Q o s):Fq (model prog w) A (Builtin.Slice.slicePartIndex v) Q E s:=by
 cases p with
 | none=>exact slicePart_none h
 | int i t=>exact slicePart_int h
theorem dv {sl:Addr} {vl vu:gV} {lo hi:Option Int} {n:Nat} {Q:Int×Int×Nat->tv->Prop} (hs:s.heap.IsSliceOf sl vl vu .none) (pl:Lj vl lo) (pu:Lj vu hi)
 (h:Q (((sIx n 0 lo:Nat):Int),1,sIx n n hi - sIx n 0 lo) s):Fq (model prog w) A (Kn (.ref sl) (pure (n:Int))) Q E s:=by
 obtain ⟨os,j,z,q⟩:=id hs;unfold Kn Builtin.Slice.sliceFields;refine e6 (e6 (Gi j q (x:=vl) rfl (e6 (Gi j q (x:=vu) rfl (e6 (Gi j q (x := .none) rfl (D1 ?_)))))));refine e6 (slicePart_none ?_);show Fq _ _ (if ((1:Int)==0)=true then _ else _) _ _ s
 rw [if_neg (by decide)]
 refine e6 (iN pl (e6 (iN pu (e6 (D1 ?_)))));show Fq _ _ (match IZ lo hi 1 (n:Int) with | (lo,hi)=>pure (lo,(1:Int),I8 lo hi 1)) _ _ s
 rw [qy lo hi n];show Fq _ _ (pure (((sIx n 0 lo:Nat):Int),(1:Int),I8 ((sIx n 0 lo:Nat):Int) ((sIx n n hi:Nat):Int) 1)) _ _ s;rw [qz];exact D1 h
theorem vt (xs:Array gV) (i k:Nat):((Hf k).filterMap fun (m:Nat)=>xs[((i:Int)+(m:Int)*1).toNat]?).toArray=((xs.toList.drop i).take k).toArray:=by
 have e:(fun (m:Nat)=>xs[((i:Int)+(m:Int)*1).toNat]?)=fun m=>xs[i+m]? := by
  funext m
  have:((i:Int)+(m:Int)*1).toNat=i+m:=by omega
  rw [this]
 rw [e];have:=pick_run xs i k;rw [List.filterMap_map] at this;have e2:((fun x=>xs[x]?) ∘ fun x=>i+x)=fun m=>xs[i+m]? := rfl;rw [e2] at this;rw [this]
theorem getItem_tuple_cut {t sl:Addr} {items:Array gV} {vl vu:gV} {lo hi:Option Int} {Q:gV->tv->Prop} (z:IsTup s.heap t items) (hs:s.heap.IsSliceOf sl vl vu .none) (pl:Lj vl lo) (pu:Lj vu hi)
 (hw : ¬ (sIx items.size 0 lo=0/\sIx items.size items.size hi=items.size))
 (h:Q (.ref s.heap.objs.size) { s with heap:=s.heap.push { cls := .type "tuple",data := .seq ((items.toList.drop (sIx items.size 0 lo)).take (sIx items.size items.size hi - sIx items.size 0 lo)).toArray } })
 (hsz:items.size<=Fj):Fq (model prog w) A (KH (.ref t) (.ref sl)) Q E s:=by
 have j:sizeOk (.seq ((items.toList.drop (sIx items.size 0 lo)).take (sIx items.size items.size hi - sIx items.size 0 lo)).toArray):=by
  show ((items.toList.drop (sIx items.size 0 lo)).take (sIx items.size items.size hi - sIx items.size 0 lo)).toArray.size<=Fj;rw [Fn,FU,JL,FL];omega
 have O:sIx items.size items.size hi<=items.size:=Ao _ _ (Fl _) hi;obtain ⟨os,B,F,L⟩:=id hs;have G:s.TypeIs (.ref sl) "slice" := ⟨os,B,F⟩;unfold KH
 try with_reducible refine Gc ?_
 first | refine e6 (D1 ?_) | skip
 refine e6 (Ng z.typeIs (by decide) ?_)
 refine e6 (FY (name:=Gf "__getitem__") z.typeIs Hj
  (FZ Hj z.typeIs Mp ?_ (MW _ _)))
 show Fq _ _ (Ko (.ref t) >>= _) _ _ s;refine e6 (tupleItemsOf_ z ?_);refine e6 (Hq G ?_);rw [if_pos (by decide)]
 refine e6 (dv hs pl pu ?_);have J : ¬ ((((sIx items.size 0 lo:Nat):Int)==0&&(1:Int)==1&&(sIx items.size items.size hi - sIx items.size 0 lo)==items.size)=true):=by
  intro q;rw [D0,D0] at q;have U:((sIx items.size 0 lo:Nat):Int)=0:=Iq q.1.1;have Y:sIx items.size items.size hi - sIx items.size 0 lo=items.size:=Iq q.2;exact hw ⟨by omega,by omega⟩
 show Fq _ _ (if (((sIx items.size 0 lo:Nat):Int)==0&&(1:Int)==1&&(sIx items.size items.size hi - sIx items.size 0 lo)==items.size)=true then _ else _) _ _ s
 rw [if_neg J,vt]
 first
  | exact e6 (m:=Im _) (Gz (D1 ⟨_,rfl,D1 h⟩) j)
  | exact e6 (m:=Im _) (Gz (e6 (D1 (D1 ⟨_,rfl,D1 h⟩))) j)
  | exact e6 (e6 (m:=Im _) (Gz (D1 (D1 ⟨_,rfl,D1 h⟩)) j))
  | exact e6 (e6 (m:=Im _) (Gz (D1 ⟨_,rfl,D1 h⟩) j))
end
end HT
namespace L2
open PySem PySem.Spec PyProof.Rows
section
noncomputable abbrev TO:=St->Hp->(Option Int->Hp->Prop)->Prop
def PO (X:Cx) (e:Option Expr) (t:TO):Prop :=
 ∀ (pins:List (Addr×Obj)) (s:tv) (σ:St) (H:Hp) (Q:Option Int->Hp->Prop),Inv X pins σ H s->t σ H Q ->
  Fq (model X.prog X.w) X.A (evalPart e X.env) (fun u s' => ∃ o H',Inv X pins σ H' s'/\Lj u o/\Q o H') X.xe s
noncomputable def yu:TO:=fun _ H Q=>Q none H
noncomputable def BN (t:TE):TO:=fun σ H Q=>t σ H fun x H1 => ∃ i,x = .int i/\Q (some i) H1
section
variable {X:Cx} {e:Expr} {te:TE} {lo hi:Option Expr} {tl th:TO} {pos p2:Pos}
theorem yv:PO X none yu:=by
 intro pins s σ H Q I h;rw [evalPart_none];exact D1 ⟨none,H,I, .none,h⟩
theorem yw (h:PE X e te):PO X (some e) (BN te):=by
 intro pins s σ H Q I hw;rw [evalPart_some];refine thn (h pins s σ H _ I hw) fun u s1 ⟨x,H1,j,z,B⟩ => ?_;obtain ⟨i,rfl,q⟩:=B;obtain ⟨t,rfl⟩:=z;exact ⟨some i,H1,j, .int i t,q⟩
def SlR (X:Cx) (r:V->Option Int->Option Int->Hp->VK->Prop):Prop :=
 ∀ (pins:List (Addr×Obj)) (s:tv) (σ:St) (H:Hp) (x:V) (v vl vu:gV) (lo hi:Option Int) (sl:Addr) (Q:VK),Inv X pins σ H s->RelV x v->s.heap.IsSliceOf sl vl vu .none->Lj vl lo->Lj vu hi->r x lo hi H Q ->
  ∃ T id,typeLookup (.type T) "__getitem__" = pure (some (.builtin id))/\s.TypeIs v T/\Fq (model X.prog X.w) X.A (KH v (.ref sl)) (EP X pins σ Q) X.xe s
theorem SlR.or {r r':V->Option Int->Option Int->Hp->VK->Prop} (h:SlR X r) (h':SlR X r'):SlR X (fun x lo hi H Q=>r x lo hi H Q∨r' x lo hi H Q):=by
 intro pins s σ H x v vl vu lo hi sl Q I rx hs pl pu q
 rcases q with q | q
 ·exact h pins s σ H x v vl vu lo hi sl Q I rx hs pl pu q
 ·exact h' pins s σ H x v vl vu lo hi sl Q I rx hs pl pu q
noncomputable def tSl (r:V->Option Int->Option Int->Hp->VK->Prop) (te:TE) (tl th:TO):TE:=fun σ H Q=>te σ H fun x H1=>tl σ H1 fun l H2=>th σ H2 fun u H3=>r x l u H3 Q
theorem vw {r:V->Option Int->Option Int->Hp->VK->Prop} (z:SlR X r) (he:PE X e te) (B:PO X lo tl) (F:PO X hi th):PE X (.Subscript e (.Slice lo hi none p2) pos) (tSl r te tl th):=by
 intro pins s σ H Q I h;refine Subscript_ (thn (he pins s σ H _ I h) fun v s1 ⟨x,H1,G,J,L⟩ => ?_);refine wpAny_Slice (thn (B pins s1 σ H1 _ G L) fun vl s2 ⟨l,H2,O,pl,U⟩=>thn (F pins s2 σ H2 _ O U) fun vu s3 ⟨u,j,Y,pu,Z⟩ => ?_);rw [evalPart_none];refine D1 ?_;have I4:Inv X pins σ j { s3 with heap:=s3.heap.push { cls := .type "slice",data := .fields #[vl,vu, .none] } }:=Y.kept (t':=s3.toks) fun b ob q=>q7 _ q
 obtain ⟨T,id,hT,ht,hg⟩:=z pins { s3 with heap:=s3.heap.push { cls := .type "slice",data := .fields #[vl,vu, .none] } } σ j x v vl vu l u s3.heap.objs.size Q I4 J (Heap.IsSliceOf.new ..) pl pu Z
 show Fq (model X.prog X.w) X.A (subscriptTail e (.Slice lo hi none p2) v (.ref s3.heap.objs.size)) (EP X pins σ Q) X.xe { s3 with heap:=s3.heap.push { cls := .type "slice",data := .fields #[vl,vu, .none] } }
 exact tail_any (ops := [.ref s3.heap.objs.size,v]) ht hT hg (by with_unfolding_all rfl)
noncomputable def fy (xs:List V) (lo hi:Option Int):List V:=(xs.drop (HT.sIx xs.length 0 lo)).take (HT.sIx xs.length xs.length hi - HT.sIx xs.length 0 lo)
theorem gX (xs:List V) (lo hi:Option Int):(fy xs lo hi).length<=xs.length:=by
 unfold fy;rw [FU,JL];omega
noncomputable def CF (K:Frag):V->Option Int->Option Int->Hp->VK->Prop:=fun x lo hi H Q => ∃ a xs,x = .ref a/\SqT K H a xs /\
 ¬ (HT.sIx xs.length 0 lo=0/\HT.sIx xs.length xs.length hi=xs.length) /\ ∀ p,H p=none->Q (.ref p) (upd H p (.tup (fy xs lo hi)))
theorem sl_tup:SlR X (CF X.K):=by
 intro pins s σ H x v vl vu lo hi sl Q I rx hs pl pu h;obtain ⟨a,xs,rfl,hx,hw,q⟩:=h
 cases rx
 obtain ⟨its,r,j,z⟩:=I.tuple hx;have hlen:its.toArray.size=xs.length:=by rw [Fn];exact r.length.symm
 refine ⟨"tuple",_,PyProof.Rows.slot_tuple_getitem.lookup,j.typeIs, ?_⟩;refine HT.getItem_tuple_cut j hs pl pu (by rw [hlen];exact hw) ?_ (by rw [hlen];exact z)
 rw [hlen];refine ⟨.ref s.heap.objs.size,_,I.laid (t':=s.toks) (o := .tup (fy xs lo hi)) (fun b ob q=>q7 _ q) (Fl _) ?_,rfl,q _ (I.hok.fresh (Fl _))⟩;exact ⟨Ho (gX xs lo hi) z,_,(r.drop (HT.sIx xs.length 0 lo)).take (HT.sIx xs.length xs.length hi - HT.sIx xs.length 0 lo),Ki _ _⟩
noncomputable def xw (K:Frag):R2:=fun x y H Q => ∃ a b xs ys,x = .ref a/\y = .ref b/\SqT K H a xs/\SqT K H b ys/\xs≠[]/\xs.length+ys.length<=Fj /\
 (ys=[]->Q (.ref a) H)/\(ys≠[] -> ∀ p,H p=none->Q (.ref p) (upd H p (.tup (xs++ys))))
theorem Vals.nil_iff {xs:List V} {us:List gV} (r:Vals xs us):us=[]↔xs=[]:=by
 cases r with
 | nil=>simp
 | cons _ _=>simp
theorem op_catT:OpR X (GX .Add) (xw X.K):=by
 intro pins s σ H x y v u Q I rx ry h;obtain ⟨a,b,xs,ys,rfl,rfl,J,L,hx,F,O,U⟩:=h
 cases rx
 cases ry
 obtain ⟨its,B,Y,_⟩:=I.tuple J;obtain ⟨G,j,p2,_⟩:=I.tuple L;refine HT.cat_tup Y p2 (fun z=>hx (B.nil_iff.mp z)) (fun z=>⟨.ref a,H,I,rfl,O (j.nil_iff.mp z)⟩) (fun z => ?_) (by rw [<- B.length, <- j.length];exact F)
 refine ⟨.ref s.heap.objs.size,_,I.laid (t':=s.toks) (o := .tup (xs++ys)) (fun b ob q=>q7 _ q) (Fl _) ?_,rfl,U (fun w=>z (j.nil_iff.mpr w)) _ (I.hok.fresh (Fl _))⟩;exact ⟨by rw [Fk];exact F,_,B.append j,Ki _ _⟩
end
end
section
noncomputable def ixN (n:Nat) (i:Int):Option Nat:=if 0<=i then (if i < n then some i.toNat else none) else if -(n:Int)<=i then some (i+n).toNat else none
noncomputable def atI {α:Type} (xs:List α) (i:Int):Option α := (ixN xs.length i).bind fun j=>xs[j]?
theorem p9 {n:Nat} {i:Int} {j:Nat} (h:ixN n i=some j):seqIndex? i n=some j/\j < n /\ -(n:Int)<=i/\i < n:=by
 unfold ixN at h
 by_cases h0 : 0<=i
 ·rw [if_pos h0] at h
  by_cases h1:i < n
  ·rw [if_pos h1] at h;have e:i.toNat=j:=Hu.inj h;exact ⟨by rw [LK h0 h1,e],by omega,by omega,h1⟩
  ·rw [if_neg h1] at h;cases h
 ·rw [if_neg h0] at h
  by_cases h1 : -(n:Int)<=i
  ·rw [if_pos h1] at h;have e:(i+n).toNat=j:=Hu.inj h;exact ⟨by rw [Lk (by omega) h1,e],by omega,h1,by omega⟩
  ·rw [if_neg h1] at h;cases h
theorem jI {α:Type} {xs:List α} {i:Int} {v : α} (h:atI xs i=some v):∃ j,seqIndex? i xs.length=some j/\xs[j]? = some v/\j < xs.length /\ -(xs.length:Int)<=i/\i < xs.length:=by
 unfold atI at h
 cases e:ixN xs.length i with
 | none=>rw [e] at h;cases h
 | some j =>
   rw [e] at h;obtain ⟨h1,h2,q,z⟩:=p9 e;exact ⟨j,h1,h,h2,q,z⟩
def jJ (b:Expr):Prop := ∀ o i,subscripted b false o i=operate [o,i] (KH o i)
def IxR (X:Cx) (r:R2):Prop :=
 ∀ (value slice:Expr) (pins:List (Addr×Obj)) (s:tv) (σ:St) (H:Hp) (x y:V) (v u:gV) (Q:VK),Inv X pins σ H s->RelV x v->RelV y u->r x y H Q ->
  subscripted slice false v u=operate [v,u] (KH v u)->Fq (model X.prog X.w) X.A (subscriptTail value slice v u) (EP X pins σ Q) X.xe s
def MtR (X:Cx) (id:String) (r:V->List V->Hp->VK->Prop):Prop :=
 ∀ (pins:List (Addr×Obj)) (s:tv) (σ:St) (H:Hp) (x:V) (xs:List V) (v:gV) (us:List gV) (Q:VK),Inv X pins σ H s->RelV x v->Vals xs us->r x xs H Q ->
  Fq (model X.prog X.w) X.A (call (.builtin id) (v::us)) (EP X pins σ Q) X.xe s
section
variable {X:Cx} {a b:Expr} {ta tb:TE} {pos:Pos}
theorem IxR.or {r r':R2} (h:IxR X r) (h':IxR X r'):IxR X (fun x y H Q=>r x y H Q∨r' x y H Q):=by
 intro value slice pins s σ H x y v u Q I rx ry q hs
 rcases q with q | q
 ·exact h value slice pins s σ H x y v u Q I rx ry q hs
 ·exact h' value slice pins s σ H x y v u Q I rx ry q hs
theorem BO {r:R2} (j:IxR X r) (z:PE X a ta) (B:PE X b tb) (hs:jJ b):PE X (.Subscript a b pos) (tOp r ta tb):=by
 intro pins s σ H Q I h;exact Subscript_ (vf z B I h fun v u s2 x y H2 F rx ry q=>j a b pins s2 σ H2 x y v u Q F rx ry q (hs _ _))
noncomputable def CG (K:Frag):R2:=fun x y H Q => ∃ p xs i v,x = .ref p/\y = .int i/\SqL K H p xs/\atI xs i=some v/\Q v H
noncomputable def CH (K:Frag):R2:=fun x y H Q => ∃ p xs i v,x = .ref p/\y = .int i/\SqT K H p xs/\atI xs i=some v/\Q v H
theorem ix_list:IxR X (CG X.K):=by
 intro value slice pins s σ H x y v u Q I rx ry h hs;obtain ⟨p,xs,i,z,rfl,rfl,F,he,q⟩:=h
 cases rx
 obtain ⟨t,rfl⟩:=ry;obtain ⟨its,r,pl,O⟩:=I.list F;obtain ⟨j,h1,h2,U,G,J⟩:=jI he;obtain ⟨w,ew,rw'⟩:=r.get h2;have L:=r.length;have Y:=e9;have fin:EP X pins σ Q w s:=⟨z,H,I,rw',q⟩
 by_cases h0 : 0<=i
 ·have B:i.toNat=j:=by
   rw [LK h0 J] at h1;exact Hu.inj h1
  exact item_listR pl.isList h0 (by omega) (by rw [B];simpa using ew) fin hs
 ·have B:(i+(its.toArray.size:Int)).toNat=j:=by
   rw [Lk (by omega) G] at h1
   rw [Fn, <- L];exact Hu.inj h1
  exact Ll (x:=w) pl.isList.typeIs slot_list_getitem.lookup
   (Lm (Q:=fun r s'=>r=w/\EP X pins σ Q r s') pl.isList (by omega) (by rw [Fn] <;> omega) (by omega) (by rw [B];simpa using ew) ⟨rfl,fin⟩) hs
theorem ix_tup:IxR X (CH X.K):=by
 intro value slice pins s σ H x y v u Q I rx ry h hs;obtain ⟨p,xs,i,z,rfl,rfl,B,he,q⟩:=h
 cases rx
 obtain ⟨t,rfl⟩:=ry;obtain ⟨its,r,pl,G⟩:=I.tuple B;obtain ⟨j,h1,h2,J,L,O⟩:=jI he;obtain ⟨w,ew,rw'⟩:=r.get h2;have F:=r.length;have U:=e9;have fin:EP X pins σ Q w s:=⟨z,H,I,rw',q⟩;exact Ll (x:=w) pl.typeIs slot_tuple_getitem.lookup
  (getItem_tuple (j:=j) (Q:=fun r s'=>r=w/\EP X pins σ Q r s') pl (by omega) (by omega) (by rw [Fn, <- F];exact h1) (by simpa using ew) ⟨rfl,fin⟩) hs
theorem qA (its:List gV) (n j:Nat) (u:gV):Hg (·.setIfInBounds j u) { cls := .type "list",data := .seq its.toArray n } = { cls := .type "list",data := .seq (its.set j u).toArray n }:=by
 simp [Hg]
theorem Inv.lst {pins:List (Addr×Obj)} {σ:St} {H:Hp} {s:tv} {p:Addr} {xs:List V} (I:Inv X pins σ H s) (h:H p=some (.lst xs)) :
 ∃ (its:List gV) (n:Nat),Vals xs its/\s.heap.get? p=some { cls := .type "list",data := .seq its.toArray n }/\xs.length<=Fj:=by
 obtain ⟨z,its,n,r,e⟩:=I.hok p _ h;exact ⟨its,n,r,e,z⟩
theorem Inv.lstUpd {pins:List (Addr×Obj)} {σ:St} {H:Hp} {s:tv} {p:Addr} {xs ys:List V} {its its':List gV} {n n':Nat} {f:Obj->Obj} (I:Inv X pins σ H s) (h:H p=some (.lst xs))
 (ho:s.heap.get? p=some { cls := .type "list",data := .seq its.toArray n }) (hf:f { cls := .type "list",data := .seq its.toArray n } = { cls := .type "list",data := .seq its'.toArray n' }) (r:Vals ys its') (j:ys.length<=Fj) (t:Nat) :
 Inv X pins σ (upd H p (.lst ys)) { s with heap:=s.heap.update p f,toks:=t }:=by
 have e:(s.heap.update p f).get? p=some { cls := .type "list",data := .seq its'.toArray n' }:=by
  rw [LF f ho (by rw [hf] <;> rfl),hf]
 refine I.write (x:=p) (e:=p) (by rw [h];trivial) (.inl rfl) (fun b u z q=>(Ln _ _ (Ne.symm z)).trans q) ⟨_,e⟩ ?_
 exact ⟨j,its',n',r,e⟩
noncomputable def xx:V->V->V->Hp->(Hp->Prop)->Prop:=fun o i v H Q => ∃ p xs k j,o = .ref p/\i = .int k/\H p=some (.lst xs)/\ixN xs.length k=some j/\Q (upd H p (.lst (xs.set j v)))
theorem lU:PSet X xx:=by
 intro pins s σ H o i v ov iv u Q I ro ri rv h;obtain ⟨p,xs,k,j,rfl,rfl,F,L,q⟩:=h
 cases ro
 obtain ⟨t,rfl⟩:=ri;obtain ⟨its,n,r,ho,O⟩:=I.lst F;obtain ⟨h1,h2,G,J⟩:=p9 L;have z:=r.length;have U:=e9;have I':Inv X pins σ (upd H p (.lst (xs.set j v))) { s with heap:=s.heap.update p (Hg (·.setIfInBounds j u)) } :=
  I.lstUpd F ho (qA its n j u) (r.set rv j) (by rw [O5];exact O) s.toks
 by_cases h0 : 0<=k
 ·have B:k.toNat=j:=by
   rw [LK h0 J] at h1;exact Hu.inj h1
  exact PySem.W.ki_setAt ho h0 (by omega) (by rw [Fn, <- z];exact J) (by rw [B];exact ⟨_,I',q⟩)
 ·have B:(k+(its.toArray.size:Int)).toNat=j:=by
   rw [Lk (by omega) G] at h1
   rw [Fn, <- z];exact Hu.inj h1
  exact PySem.W.ki_setBack ho (by omega) (by rw [Fn, <- z];exact G) (by omega) (by rw [B];exact ⟨_,I',q⟩)
theorem lV (lo hi:Option Int) (n:Nat):(Jp lo hi none n).1=((HT.sIx n 0 lo:Nat):Int)/\(Jp lo hi none n).2.1=((HT.sIx n n hi:Nat):Int)/\(Jp lo hi none n).2.2=1:=by
 refine ⟨?_, ?_,rfl⟩
 ·cases lo with
  | none=>simp [Jp,HT.sIx]
  | some i =>
    simp only [Jp,HT.sIx,NG,show (1:Int) > 0 by decide,if_true]
    by_cases h:i < 0
    ·simp only [h,if_true] <;> omega
    ·simp only [h,if_false] <;> omega
 ·cases hi with
  | none=>simp [Jp,HT.sIx]
  | some i =>
    simp only [Jp,HT.sIx,NG,show (1:Int) > 0 by decide,if_true]
    by_cases h:i < 0
    ·simp only [h,if_true] <;> omega
    ·simp only [h,if_false] <;> omega
theorem lr (its:List gV) (lo hi:Option Int):slicePick its.toArray lo hi none=((its.drop (HT.sIx its.length 0 lo)).take (HT.sIx its.length its.length hi - HT.sIx its.length 0 lo)).toArray:=by
 obtain ⟨h1,h2,j⟩:=lV lo hi its.toArray.size;unfold slicePick;rw [h1,h2,j];simp only [sliceRange_one,pick_run,Fn] <;> rfl
noncomputable def CI (K:Frag):V->Option Int->Option Int->Hp->VK->Prop:=fun x lo hi H Q => ∃ a xs,x = .ref a/\SqL K H a xs /\ ∀ p,H p=none->Q (.ref p) (upd H p (.lst (fy xs lo hi)))
theorem sl_list:SlR X (CI X.K):=by
 intro pins s σ H x v vl vu lo hi sl Q I rx hs pl pu h;obtain ⟨a,xs,rfl,hx,q⟩:=h
 cases rx
 obtain ⟨its,r,j,z⟩:=I.list hx;have hlen:=r.length;refine ⟨"list",_,slot_list_getitem.lookup,j.isList.typeIs, ?_⟩;refine wpAny_getItem_list_slice j.isList hs pl pu .none (by simp) ?_ (by rw [Fn] <;> omega)
 rw [lr, <- hlen];refine ⟨.ref s.heap.objs.size,_,I.laid (t':=s.toks) (o := .lst (fy xs lo hi)) (fun b ob q=>q7 _ q) (Fl _) ?_,rfl,q _ (I.hok.fresh (Fl _))⟩;exact ⟨Ho (gX xs lo hi) z,_,0,(r.drop (HT.sIx xs.length 0 lo)).take (HT.sIx xs.length xs.length hi - HT.sIx xs.length 0 lo),Fh _ rfl⟩
theorem lW:CallR X (.type "list") (fun xs H Q => ∃ p ys,xs=[.ref p]/\(SqL X.K H p ys∨SqT X.K H p ys) /\ ∀ l,H l=none->Q (.ref l) (upd H l (.lst ys))):=by
 intro pins s σ H xs us Q I r h;obtain ⟨p,ys,rfl,j,q⟩:=h;obtain ⟨u,rfl,rx⟩:=dI r
 cases rx
 have fin:∀ (its:List gV),Vals ys its->ys.length<=Fj -> ∀ (h':Heap) (c':Nat),(∀ b o',s.heap.get? b=some o'->h'.get? b=some o') ->
  h'.get? s.heap.objs.size=some { cls := .type "list",dict:=none,data := .seq its.toArray c',slots := #[] }->EP X pins σ Q (.ref s.heap.objs.size) { s with heap:=h' }:=fun its r' z h' c' kp e =>
  ⟨.ref s.heap.objs.size,_,I.laid (t':=s.toks) kp (Fl _) (show ObjOk X.prog X.w _ h' _ (.lst ys) from ⟨z,its,c',r',e⟩),rfl,q _ (I.hok.fresh (Fl _))⟩
 rcases j with j | j
 ·obtain ⟨its,r',pl,z⟩:=I.list j;have hlen:=r'.length;obtain ⟨o,ho,B,n,hd⟩:=pl.isList;exact call_list_seq p (.inl rfl) ho B hd (fun h' c' kp e=>fin its r' z h' c' kp e) (by simp only [Fn] <;> omega)
 ·obtain ⟨its,r',pl,z⟩:=I.tuple j;have hlen:=r'.length;obtain ⟨o,ho,B,n,hd⟩:=pl;exact call_list_seq p (.inr rfl) ho B hd (fun h' c' kp e=>fin its r' z h' c' kp e) (by simp only [Fn] <;> omega)
theorem ls:CallR X (.type "tuple") (fun xs H Q => ∃ p ys,xs=[.ref p]/\((SqL X.K H p ys /\ ∀ l,H l=none->Q (.ref l) (upd H l (.tup ys)))∨(SqT X.K H p ys/\Q (.ref p) H))):=by
 intro pins s σ H xs us Q I r h;obtain ⟨p,ys,rfl,h⟩:=h;obtain ⟨u,rfl,rx⟩:=dI r
 cases rx
 rcases h with ⟨j,q⟩ | ⟨j,q⟩
 ·obtain ⟨its,r',pl,z⟩:=I.list j;have hlen:=r'.length;refine call_tuple_list pl.isList (fun h' kp => ?_) (by simp only [Fn] <;> omega)
  have B:Inv X pins σ H { s with heap:=h' }:=I.kept (t':=s.toks) kp
  have F:Inv X pins σ (upd H h'.objs.size (.tup ys)) { s with heap:=h'.push { cls := .type "tuple",data := .seq its.toArray } } :=
   B.laid (t':=s.toks) (fun b o e=>q7 _ e) (Fl _) (show ObjOk X.prog X.w _ _ _ (.tup ys) from ⟨z,its,r',Ki _ _⟩)
  exact ⟨.ref h'.objs.size,_,F,rfl,q _ (B.hok.fresh (Fl _))⟩
 ·obtain ⟨its,r',pl,z⟩:=I.tuple j;exact call_tuple_same pl ⟨.ref p,H,I,rfl,q⟩
def tyV (K:Frag) (T:String) (x:V) (H:Hp):Prop:=match x with
 | .str _=>T = "str"
 | .int _=>T = "int"
 | .ref p=>(T = "list" /\ ∃ xs,SqL K H p xs)∨(T = "tuple" /\ ∃ o,K.lookup p=some o/\o.cls = .type "tuple" /\ o.dict=none) ∨
  (T = "dict" /\ ((∃ kvs,H p=some (.dK kvs)) ∨ ∃ kvs,H p=some (.dT kvs)))∨(T = "set" /\ ∃ S n,H p=some (.set S n))
 | _=>False
theorem sF {pins:List (Addr×Obj)} {σ:St} {H:Hp} {s:tv} {T:String} {x:V} {v:gV} (I:Inv X pins σ H s) (r:RelV x v) (ty:tyV X.K T x H) :
 s.TypeIs v T /\ ∀ a,v = .ref a -> ∃ ob,s.heap.get? a=some ob/\ob.dict=none:=by
 cases x with
 | str z =>
   obtain ⟨t,rfl⟩:=r
   cases (show T = "str" from ty)
   exact ⟨typeIs_str s z t,fun _ e=>nomatch e⟩
 | int i =>
   obtain ⟨t,rfl⟩:=r
   cases (show T = "int" from ty)
   exact ⟨Lo s i t,fun _ e=>nomatch e⟩
 | ref p =>
   cases r
   rcases ty with ⟨rfl,xs,q⟩ | ⟨rfl,o,j,B,hd⟩ | ⟨rfl,j⟩ | ⟨rfl,S,n,j⟩
   ·obtain ⟨its,_,pl,_⟩:=I.list q;refine ⟨pl.isList.typeIs,fun a e => ?_⟩
    cases e
    obtain ⟨o,n,e,c,hd,_⟩:=pl;exact ⟨o,e,hd⟩
   ·refine ⟨⟨o,I.kIn p o j,B⟩,fun a e => ?_⟩
    cases e
    exact ⟨o,I.kIn _ o j,hd⟩
   ·have z:∃ o,s.heap.get? p=some o/\o.ExactDict:=by
     rcases j with ⟨kvs,j⟩ | ⟨kvs,j⟩
     ·obtain ⟨_,_,_,_,o,_,_,e,ex,_⟩:=I.hok p _ j;exact ⟨o,e,ex⟩
     ·obtain ⟨_,_,_,_,o,_,_,e,ex,_⟩:=I.hok p _ j;exact ⟨o,e,ex⟩
    obtain ⟨o,e,ex⟩:=z;refine ⟨⟨o,e,ex.1⟩,fun a e2 => ?_⟩
    cases e2
    exact ⟨o,e,ex.2.1⟩
   ·obtain ⟨o,_,_,_,e,ex,_⟩:=I.hok p _ j;refine ⟨⟨o,e,ex.1⟩,fun a e2 => ?_⟩
    cases e2
    exact ⟨o,e,ex.2.1⟩
 | _=>exact False.elim ty
noncomputable def Ap (K:Frag) (T:String) (r:V->List V->Hp->VK->Prop) (to:TE):TE:=fun σ H Q=>to σ H fun x H1=>tyV K T x H1/\r x [] H1 Q
noncomputable def tBM (K:Frag) (T:String) (r:V->List V->Hp->VK->Prop) (to:TE) (t:TA):TE:=fun σ H Q=>to σ H fun x H1=>tyV K T x H1/\t σ H1 fun xs H2=>r x xs H2 Q
variable {o e:Expr} {es:List Expr} {to:TE} {t:TA} {name:Str} {apos cpos:Pos} {T id:String} {r:V->List V->Hp->VK->Prop}
theorem Aq (pa:PlainAttrs T) (slot:Slot T name id) (z:typeOf (.builtin id)=pure (.type "method_descriptor")) (hm:MtR X id r) (ho:PE X o to)
 (j:J5 o name X.env (eval o X.env)=eval o X.env:=by rfl) (q:(apos.endLine==cpos.line)=true:=by rfl):PE X (.Call (.Attribute o name apos) [] [] cpos) (Ap X.K T r to):=by
 intro pins s σ H Q I h;refine Jq j q (thn (ho pins s σ H _ I h) fun v s1 ⟨x,H1,B,F,ty,G⟩ => ?_);obtain ⟨h1,h2⟩:=sF B F ty;exact ⟨T,id,pa,slot,z,h1,h2,HK rfl (Kb (hm pins s1 σ H1 x [] v [] Q B F .nil G))⟩
theorem BP (pa:PlainAttrs T) (slot:Slot T name id) (F:typeOf (.builtin id)=pure (.type "method_descriptor")) (hm:MtR X id r) (ho:PE X o to) (O:PA X (e::es) t)
 (q:J5 o name X.env (eval o X.env)=eval o X.env:=by rfl)
 (B:((J0 cpos (FO (e::es) X.env)).all (fun x => !x.1)&&(backToKw cpos (NU [] X.env)).all (fun x=>x.1.isSome)
   && decide ((e::es).length+([]:List Lp).length+(if ([]:List Lp).isEmpty then 0 else 1) < 30))=true:=by rfl)
 (z:(apos.endLine==cpos.line)=true:=by rfl) (hs:FO (e::es) X.env=(false,eval e X.env)::FO es X.env:=by rfl) (j:(J0 cpos (FO es X.env)).any (·.1)=false:=by rfl) :
 PE X (.Call (.Attribute o name apos) (e::es) [] cpos) (tBM X.K T r to t):=by
 intro pins s σ H Q I h;refine wpAny_Call_method_late q B z rfl (thn (ho pins s σ H _ I h) fun v s1 ⟨x,H1,G,J,ty,U⟩ => ?_);obtain ⟨h1,h2⟩:=sF G J ty;refine ⟨T,id,pa,slot,F,h1,h2, ?_⟩;have L:=O cpos pins s1 σ H1 _ G U;rw [hs] at L ⊢;refine HK (by show (false || (J0 cpos (FO es X.env)).any (·.1))=false;rw [j] <;> rfl) (LL ?_)
 exact thn L fun us s2 ⟨vs,H2,Y,Z,q2⟩=>hm pins s2 σ H2 x vs v us Q Y J Z q2
end
end
section
def MtM (X:Cx) (id:String) (r:V->List V->Hp->VK->Prop):Prop :=
 ∀ (pins:List (Addr×Obj)) (s:tv) (σ:St) (H:Hp) (x:V) (xs:List V) (v:gV) (us:List gV) (Q:VK),Inv X pins σ H s->RelV x v->Vals xs us->r x xs H Q ->
  Fq (model X.prog X.w) X.A (call (.builtin id) (v::us)) (EP X pins σ Q) X.xe s
theorem Vals.one:∀ {x:V} {us:List gV},Vals [x] us -> ∃ u,us=[u]/\RelV x u
 | _,_, .cons r .nil=>⟨_,rfl,r⟩
theorem Vals.zero:∀ {us:List gV},Vals [] us->us=[]
 | _, .nil=>rfl
theorem Vals.rep {xs:List V} {us:List gV} (h:Vals xs us):∀ k:Nat,Vals (Fm k xs).flatten (Fm k us).flatten
 | 0 => .nil
 | k+1=>by
   rw [GF,GF,Gq,Gq];exact Vals.append h (Vals.rep h k)
theorem fA (its:List gV):∀ (k:Nat) (acc:List gV),
 JM (fun j q=>j++q) acc.toArray (Fm k its.toArray)=(acc++(Fm k its).flatten).toArray
 | 0,acc=>by simp
 | k+1,acc=>by
   have e:acc.toArray++its.toArray=(acc++its).toArray:=by simp
   have e2:(acc++its)++(Fm k its).flatten=acc++(Fm (k+1) its).flatten:=by
    rw [GF,Gq,Ft]
   rw [<- e2, <- fA its k (acc++its), <- e,GF,Jb]
section
variable {X:Cx} {pins:List (Addr×Obj)} {σ:St} {H:Hp} {s:tv} {l b:Addr} {xs ys zs:List V}
theorem Inv.lset {its its':List gV} {n:Nat} {f:Array gV->Array gV} {t':Nat} (I:Inv X pins σ H s) (j:H l=some (.lst xs))
 (e:s.heap.get? l=some { cls := .type "list",data := .seq its.toArray n }) (hf:f its.toArray=its'.toArray) (z:Vals ys its') (B:ys.length<=Fj) :
 Inv X pins σ (upd H l (.lst ys)) { s with heap:=s.heap.update l (Hg f),toks:=t' }:=by
 have q:=PySem.IsL.update e f;rw [hf] at q;refine I.write (x:=l) (e:=l) (by rw [j];exact trivial) (.inl rfl) (fun b' u F G=>(Ln s.heap (Hg f) (Ne.symm F)).trans G) ⟨_,q⟩ ?_
 exact ⟨B,its',_,z,q⟩
theorem Inv.lnew {its:List gV} {t':Nat} (I:Inv X pins σ H s) (j:Vals ys its) (z:ys.length<=Fj) :
 Inv X pins σ (upd H s.heap.objs.size (.lst ys)) { s with heap:=s.heap.push { cls := .type "list",data := .seq its.toArray },toks:=t' } :=
 I.laid (fun _ _ q=>q7 _ q) (Fl _) ⟨z,its,0,j,Fh _ rfl⟩
theorem Inv.fresh (I:Inv X pins σ H s):H s.heap.objs.size=none:=I.hok.fresh (Fl _)
theorem Inv.lstM (I:Inv X pins σ H s) (j:H l=some (.lst xs)):xs.length<=Fj /\ ∃ (its:List gV) (n:Nat),Vals xs its/\xs.length=its.length/\s.heap.get? l=some { cls := .type "list",data := .seq its.toArray n }:=by
 obtain ⟨z,its,n,r,e⟩:=I.hok l _ j;exact ⟨z,its,n,r,r.length,e⟩
theorem vx {n:Nat} (h:n<=Fj):J6 n=false:=by
 unfold J6;exact decide_eq_false (by omega)
end
section
variable {X:Cx}
noncomputable def pc:V->List V->Hp->VK->Prop:=fun x vs H Q => ∃ l xs y,x = .ref l/\vs=[y]/\H l=some (.lst xs)/\xs.length < Fj/\Q .non (upd H l (.lst (xs++[y])))
theorem kB:MtM X "list.append" pc:=by
 intro pins s σ H x vs v us Q I rx rv h;obtain ⟨l,xs,y,rfl,rfl,j,B,q⟩:=h
 cases rx
 obtain ⟨u,rfl,ru⟩:=rv.one;obtain ⟨z,its,n,r,G,e⟩:=I.lstM j;refine Kq F.slot_list_append ⟨_,e,rfl⟩ F.entry_list_append (F.args_list_append_2 _ _) (PySem.list_append l its.toArray n u (by rw [Fn];omega)) ⟨e, ?_⟩
 refine ⟨.non,_,I.lset (its':=its++[u]) j e (by simp) (r.append (.cons ru .nil)) ?_,rfl,q⟩
 rw [Fk,I7];omega
noncomputable def sH:V->List V->Hp->VK->Prop:=fun x vs H Q => ∃ l xs,x = .ref l/\vs=[]/\H l=some (.lst xs)/\Q .non (upd H l (.lst []))
theorem vy:MtM X "list.clear" sH:=by
 intro pins s σ H x vs v us Q I rx rv h;obtain ⟨l,xs,rfl,rfl,B,q⟩:=h
 cases rx
 have j:=rv.zero;subst j;obtain ⟨z,its,n,r,G,e⟩:=I.lstM B;refine Kq F.slot_list_clear ⟨_,e,rfl⟩ F.entry_list_clear (F.args_list_clear_1 _) (AutoSeq1.list_clear_list_0 l its.toArray n (by rw [Fn];omega)) ⟨e, ?_⟩
 exact ⟨.non,_,I.lset (its' := []) (ys := []) B e rfl .nil (Ha _),rfl,q⟩
noncomputable def CJ:R2:=fun x y H Q => ∃ l b xs zs,x = .ref l/\y = .ref b/\H l=some (.lst xs)/\H b=some (.lst zs)/\xs.length+zs.length<=Fj /\ ∀ p,H p=none->Q (.ref p) (upd H p (.lst (xs++zs)))
theorem op_cat:OpR X (GX .Add) CJ:=by
 intro pins s σ H x y v u Q I rx ry h;obtain ⟨l,b,xs,zs,rfl,rfl,B,F,L,q⟩:=h
 cases rx
 cases ry
 obtain ⟨z,its,n,r,O,e⟩:=I.lstM B;obtain ⟨U,j,Y,G,J,e2⟩:=I.lstM F;refine PySem.P.add_list e e2 ?_ (by rw [Fn,Fn];omega)
 have ea:its.toArray++j.toArray=(its++j).toArray:=by simp
 rw [ea];exact ⟨.ref _,_,I.lnew (t':=s.toks) (r.append G) (by rw [Fk];omega),rfl,q _ I.fresh⟩
noncomputable def CK:R2:=fun x y H Q => ∃ l k xs,x = .ref l/\y = .int k/\H l=some (.lst xs) /\ -(2 ^ 63)<=k/\k < 2 ^ 63/\xs.length*k.toNat<=Fj /\
 ∀ p,H p=none->Q (.ref p) (upd H p (.lst (Fm k.toNat xs).flatten))
theorem ph {α:Type} (xs:List α) (k:Nat):(Fm k xs).flatten.length=k*xs.length:=by
 induction k with
 | zero=>simp
 | succ k ih=>rw [GF,Gq,Fk,ih,Hr,Nat.add_comm]
theorem op_rep:OpR X (GX .Mult) CK:=by
 intro pins s σ H x y v u Q I rx ry h;obtain ⟨l,k,xs,rfl,rfl,Z,h1,h2,Y,q⟩:=h
 cases rx
 obtain ⟨t,rfl⟩:=ry;obtain ⟨z,its,n,r,hl,e⟩:=I.lstM Z;have hlen:its.toArray.size*k.toNat<=Fj:=by rw [Fn, <- hl];exact Y
 have B : ¬ its.toArray.size*k.toNat > (2 ^ 63 - 1) / 8:=by
  have:(Fj:Nat)<=(2 ^ 63 - 1) / 8:=by decide
  omega
 have G : ¬ (!Builtin.List.listFitsIndex k)=true:=by
  rw [fitsIndex_both h1 h2];exact Fp
 have j : ¬ J6 (its.toArray.size*k.toNat)=true:=by
  rw [vx hlen];exact Fp
 have J:JM (fun L O=>L++O) #[] (Fm (if its.toArray.isEmpty=true then 0 else k.toNat) its.toArray)=(Fm k.toNat its).flatten.toArray:=by
  have f0:∀ m:Nat,JM (fun L O=>L++O) #[] (Fm m its.toArray)=(Fm m its).flatten.toArray:=fun m=>by
   have:=fA its m [];rw [K0] at this;exact this
  rw [f0]
  cases its with
  | nil=>simp
  | cons a r'=>rw [if_neg (by simp)]
 refine Kx (T := "list") (U := "int") (by decide) ⟨_,e,rfl⟩ (fun s'=>Lo s' k t) noFill_list_mul O6 K1 repeat_list F.slot_int_index.lookup
  (Kq K1 (Lo s k t) NH (Nh _ _) (int___rmul___int_list k t l its.toArray n)
    ⟨e,rfl,⟨_,e,rfl⟩,Kq F.slot_list_mul ⟨_,e,rfl⟩ F.entry_list_mul (F.args_list_mul_2 _ _) (AutoListH.list___mul___list_int_3 l its.toArray n k t G B j) ⟨e, ?_⟩⟩)
 rw [J];exact ⟨.ref _,_,I.lnew (t':=s.toks) (r.rep k.toNat) (by rw [ph,Nat.mul_comm];exact Y),rfl,q _ I.fresh⟩
end
end
end L2
namespace Att
open PySem PySem.W PySem.Calls PyProof.Rows
theorem iP {P:Params} {h:Heap}:∀ (ns:List Int) (vs:List gV),WellAll P h vs (ns.map WData.int)->Oc vs ns:=by
 intro ns
 induction ns with
 | nil =>
   intro vs w;rw [Kd] at w
   cases w
   exact .nil
 | cons n ns ih =>
   intro vs w;rw [FJ] at w
   cases w with
   | cons a b =>
     cases a
     exact .cons _ _ (ih _ b)
theorem sJ {l:OpenLaw} {n:Nat} (O:l.most=some n) {P:Params} {h:Heap} {args:List WData} {vals:List gV}
 (j:l.row.toRowW.claim.pre args=true) (G:WellAll P h vals args) :
 ∃ a vs ns,vals=[FA a]/\args=[WData.list (ns.map WData.int)]/\h.get? a=some { cls := .type "list",data := .seq vs.toArray }/\Oc vs ns/\ns.length<=n:=by
 have J:WShape.hasAll [] args [.list .int]=true:=(pre_splitW j).1;have L:l.pre.holds [] { args:=args }=true:=(pre_splitW j).2;obtain ⟨d,r,rfl,h1,h2⟩:=hasAllW_cons J;obtain rfl:=hasAllW_nil h2;obtain ⟨xs,rfl,U⟩:=hasW_list h1;obtain ⟨ns,rfl⟩:=items_int U;have hlen:ns.length<=n:=by
  unfold OpenLaw.pre at L;have B:(WTm.not (.lt (.lit (.int (n:Int))) (.len (.arg 0)))).holds [] { args := [.list (ns.map .int)] }=true:=by
   have B:=(holds_andW L).1;rw [O] at B;exact B
  have F:=condW_of B (w_not (w_lt w_lit (w_len_list (w_arg rfl))));rw [Fd] at F;refine Nat.le_of_not_lt fun q => ?_;have q':(n:Int) < ((ns.length:Nat):Int):=by omega
  first
   | (rw [decide_eq_true q'] at F;exact absurd F (by decide))
   | (simp at F;omega)
 cases G with
 | cons Y Z =>
   cases Z
   cases Y with
   | list ho z=>exact ⟨_,_,ns,rfl,rfl,ho,iP ns _ z,hlen⟩
theorem sK (l:OpenLaw) (args:List WData):l.row.toRowW.claim.post args (.bool true) args=true :=
 postW_of (r:=l.row.toRowW) (X:=(true==true))
  (show WShape.has [] (.bool true) .bool=true by first | rfl | decide | simp [WShape.has,WShape.arms,WShape.armsAll])
  (show (WTm.eq .res (.lit (.bool true))).value [] { args:=args,res:=some (.bool true),after:=args }=some (.bool (true==true)) from w_eq_bool (w_res rfl) w_lit) rfl
theorem attach_call {l:OpenLaw} {n:Nat} {q:FI} {loose:List Str} {XP:(Str->Option gV)->Heap->Prop} {YP:G2->Heap->Prop} {d:DefRec}
 (Z:l.most=some n) (B:d.params.defaults=[])
 (call:∀ (w:G2) (s₀ s₁:tv) (mg mb:Str->Option gV) (fa:Addr) (o:Obj) (pm cd doc:gV) (a:Addr) (vs:List gV) (ns:List Int),
   Ground q loose [] XP w s₀ mg mb s₁.heap->YP w s₁.heap ->
   s₁.heap.get? fa=some o->o.data = .func (docDef d.name d.params d.body d.scope pm cd doc)->s₁.heap.CodeRec cd d.name->mg d.name=some (.ref fa) ->
   s₁.heap.get? a=some { cls := .type "list",data := .seq vs.toArray }->Oc vs ns->ns.length<=n->s₁.gens = #[] ->
   Ja (model l.prog w) Mn (.call (.ref fa) ⟨[.ref a],[]⟩) (fun r s'=>r = .ok (.ret (.bool true))/\OldK s₁.heap s'.heap/\s'.os=s₁.os/\KD s'.gens) s₁) :
 WalkO q loose XP YP l.row.toRowW d [] (fun f vs=>Om f vs):=by
 intro w s₀ s₁ mg mb G Y fa o pm cd doc dV kV ho hd F O J hg args vals as j U D4 L D5;obtain rfl:dV = .none:=Dflts.none O B;obtain rfl:kV = .none:=Dflts.noKw O;obtain ⟨a,vs,ns,rfl,rfl,z,hints,hlen⟩:=sJ Z j L;refine enter_call (IW (call w s₀ s₁ mg mb fa o pm cd doc a vs ns G Y ho (fd_plain hd) F J z hints hlen hg) fun r s' hq => ?_);obtain ⟨rfl,h2,h3,h4⟩:=hq;exact ⟨.inl ⟨.bool true, .bool true,[],rfl,fun _=>rfl, .bool true,sK l _,fun _=>⟨KJ,fun _ hm=>(nomatch hm)⟩⟩,h2,h3,h4⟩
section
variable {prog:FI} {w:G2} {A:G8} {E:gV->tv->Prop} {s:tv} {K:Frag}
noncomputable def D3 (h:Heap) (L d:Addr):List (Addr×Obj):=(Hf h.objs.size).filterMap fun a=>if a=L∨a=d then none else (h.get? a).map fun o=>(a,o)
end
end Att
namespace L2
open PySem PySem.Spec PyProof.Rows
section
theorem kC:∀ {vs:List gV} {ns:List Int},Oc vs ns->Vals (ns.map V.int) vs
 | _,_, .nil => .nil
 | _,_, .cons n t h => .cons ⟨t,rfl⟩ (kC h)
def qB (H:Hp):Prop := ∀ b,H b=none ∨ ∃ o xs,H b=some (.frz o (.lst xs))
theorem vz {P:FI} {w:G2} {K:Frag} {mg mb:Str->Option gV} {CX:CXT} {k:Nat} {fa a:Addr} {fd:IP} {x:Str} {sp:Sp} {s₁:tv} {vs:List gV} {ns:List Int}
 (KX:K.In s₁.heap) (G:s₁.heap.Ns GD mg) (j:s₁.heap.Ns Of mb) (Y:∀ x:Str,x ≠ "__name__" -> mb x=HI x) (J:s₁.heap.NoLimit) (hg:s₁.gens = #[])
 (U:s₁.heap.get? a=some { cls := .type "list",data := .seq vs.toArray }) (hi:Oc vs ns) (hl:ns.length<=Fj) (hr:Room k Mn)
 (F:∀ base:Heap,K.In base->base.Ns GD mg->du P w K mg base CX k fa fd [x] sp) (B:∀ (s:tv) (u:gV),Nc s fd ⟨[u],[]⟩ [(x,u)])
 (Z:∀ H:Hp,qB H->SqL K H a (ns.map V.int)->sp [.ref a] H (fun v _=>v = .bl true) fun _ _ _=>False)
 (D4:∀ H e s',CX [] H s₁ (fun _ _ _=>False) e s'->False) :
 Ja (model P w) Mn (.call (.ref fa) ⟨[.ref a],[]⟩) (fun r s'=>r = .ok (.ret (.bool true))/\OldK s₁.heap s'.heap/\s'.os=s₁.os/\KD s'.gens) s₁ := by
 have rv:=kC hi;have lenV:=hi.length;have core:∀ H:Hp,qB H->SqL K H a (ns.map V.int)->HOk P w H s₁.heap->(∀ b,H b≠none->b=a)->(H a≠none->K.lookup a=none) ->
  Ja (model P w) Mn (.call (.ref fa) ⟨[.ref a],[]⟩) (fun r s'=>r = .ok (.ret (.bool true))/\OldK s₁.heap s'.heap/\s'.os=s₁.os/\KD s'.gens) s₁ := by
  intro H hO hS hok hA hK;have base_of:∀ {b:Addr} {o:Obj},s₁.heap.get? b=some o->H b=none->(eN s₁.heap H).get? b=some o:=fun e n=>uY e n;have noA:∀ {b:Addr} {o:Obj} {es:Array G3} {ep:Nat},s₁.heap.get? b=some o->o.data = .dict es ep->H b=none:=fun {b o es ep} e d=>by
   cases q:H b with
   | none=>rfl
   | some u =>
     have e':b=a:=hA b (by rw [q];simp)
     subst e';rw [U] at e;cases e;have d':Ir vs.toArray _=Data.dict es ep:=d
     cases d'
  have nsK:∀ {b:Addr} {m:Str->Option gV},s₁.heap.Ns b m->(eN s₁.heap H).Ns b m:=fun {b m} ⟨o,es,ep,e,d,r⟩=>⟨o,es,ep,base_of e (noA e d),d,r⟩;have L:K.In (eN s₁.heap H):=fun b o e=>base_of (KX b o e) (by
   cases q:H b with
   | none=>rfl
   | some u =>
     have e':b=a:=hA b (by rw [q];simp)
     subst e';rw [hK (by rw [q];simp)] at e;cases e)
  have hM:Mod K mg (eN s₁.heap H):=⟨L,nsK G,⟨mb,nsK j,Y⟩,let ⟨mc,h1,h2⟩:=J; ⟨mc,nsK h1,h2⟩⟩;have e0:qw P w K mg (eN s₁.heap H) Mn [] s₁ H:=⟨rfl,hM,fun b o e=>yd e,Nat.le_of_eq (s8 _ _),trivial,fun b j=>absurd (show b∈([]:List Addr) from j) (by simp),hok, .of_eq hg⟩
  refine IW ((F _ L (nsK G)).run Mn [] s₁ H ⟨[.ref a],[]⟩ [.ref a] [.ref a] _ _ hr e0 (B s₁ (.ref a)) (.cons rfl .nil) (Z H hO hS)) fun r s' h => ?_
  cases r with
  | error e=>exact (D4 H e s' h).elim
  | ok fl =>
    cases fl with
    | next=>exact False.elim h
    | brk=>exact False.elim h
    | cont=>exact False.elim h
    | ret u =>
      obtain ⟨v,H',os,bare,un,O,r',q⟩:=h;have q':v = .bl true:=q;subst q';obtain rfl:u=Lf true:=r';refine ⟨rfl,OldK.of_keep fun b o e => ?_,os,bare⟩
      cases q:H b with
      | none=>exact un.keep b o e q (by intro z;exact absurd (show b∈([]:List Addr) from z) (by simp)) (by simp)
      | some u =>
        rcases hO b with z | ⟨ob,xs,z⟩
        ·rw [q] at z;cases z
        ·have z2:=un.frzs b ob _ z;obtain ⟨e1,_⟩:=hok b _ z;obtain ⟨e2,_⟩:=O b _ z2;rw [e] at e1;cases e1;exact e2
 cases hk:K.lookup a with
 | some o =>
   have e:=KX a o hk;rw [U] at e
   cases e
   refine core (fun _=>none) (fun _ => .inl rfl) (.inr ⟨_,vs.toArray,_,hk,rfl,rfl,rfl,by rw [Fn,lenV];exact hl,by simpa using rv⟩) (fun b u z=>by have z':(none:Option HO)=some u:=z;cases z') (fun b z=>absurd rfl z) fun z=>absurd rfl z
 | none =>
   refine core (fun b=>if b=a then some (.frz { cls := .type "list",data := .seq vs.toArray } (.lst (ns.map V.int))) else none) (fun b => ?_) (.inl (.inr ⟨{ cls := .type "list",data := .seq vs.toArray },if_pos rfl⟩)) (fun b u z => ?_) (fun b z => ?_) fun _=>hk
   ·by_cases j:b=a
    ·exact .inr ⟨_,_,if_pos j⟩
    ·exact .inl (if_neg j)
   ·by_cases j:b=a
    ·have z':=(if_pos j).symm.trans z
     cases z'
     subst j;exact ⟨U,by rw [Fd];exact hl,vs,_,rv,U⟩
    ·have z':=(if_neg j).symm.trans z
     cases z'
   ·by_cases j:b=a
    ·exact j
    ·exact absurd (if_neg j) z
end
section
theorem walk_of {l:Lz} {n k:Nat} {q:FI} {loose:List Str} {XP:(Str->Option gV)->Heap->Prop} {YP:G2->Heap->Prop} {d:DefRec} {K:Params->Frag} {CX:G2->CXT} {sp:G2->Sp} {x:Str}
 (U:l.most=some n) (z:n<=Fj) (B:d.params.defaults=[]) (Z:Room k Mn)
 (hY:∀ (w:G2) (h:Heap),YP w h->(K w.params).In h)
 (F:∀ (w:G2) (mg:Str->Option gV) (fa:Addr) (h:Heap),(K w.params).In h->h.Ns GD mg->mg d.name=some (.ref fa) ->
   ∃ fd:IP,(∀ (s:tv) (u:gV),Nc s fd ⟨[u],[]⟩ [(x,u)]) /\
    ∀ base:Heap,(K w.params).In base->base.Ns GD mg->du l.prog w (K w.params) mg base (CX w) k fa fd [x] (sp w))
 (J:∀ (w:G2) (H:Hp) (a:Addr) (ns:List Int),ns.length<=n->qB H->SqL (K w.params) H a (ns.map V.int)->sp w [.ref a] H (fun v _=>v = .bl true) fun _ _ _=>False)
 (L:∀ (w:G2) (H:Hp) (s:tv) (e:gV) (s':tv),CX w [] H s (fun _ _ _=>False) e s'->False) :
 PySem.W.WalkO q loose XP YP l.row.toRowW d [] (fun f vs=>Om f vs):=by
 refine Att.attach_call U B fun w s₀ s₁ mg mb fa o pm cd doc a vs ns G Y ho hd D4 O j hints hlen hg => ?_;have KX:=hY w _ Y;obtain ⟨fd,hb,hF⟩:=F w mg fa _ KX G.T.g O;exact vz KX G.T.g G.T.b G.T.builtins G.T.nolimit hg j hints (Ho hlen z) Z hF hb (fun H hO hS=>J w H a ns hlen hO hS) fun H e s'=>L w H s₁ e s'
end
section
noncomputable def dh (s:Stmt):Arguments:=match s with
 | .FunctionDef _ a _ _ _ _ _ _ _ _=>a
 | _ => { posonlyargs := [],args := [],vararg:=none,kwonlyargs := [],kw_defaults := [],kwarg:=none,defaults := [] }
noncomputable def bP (s:Stmt):List Stmt:=match s with
 | .FunctionDef _ _ b _ _ _ _ _ _ _=>b
 | _ => []
noncomputable def aw (s:Stmt):Scope:=match s with
 | .FunctionDef _ _ _ _ _ _ sc _ _ _=>sc
 | _ => { kind := .function,names := [],isGenerator:=false,isCoroutine:=false }
noncomputable abbrev CX0:CXT:=fun _ _ _ _ _ _=>False
noncomputable abbrev E0:XK:=fun _ _ _=>False
theorem qC {X:Cx}:iM CX0 X E0:=fun _ _ _ _ _ _ _ h=>h.elim
structure Fun (K:Frag) (x qual:Str) (st:Stmt) (f:Addr) (fd:IP):Prop where
 ex:∃ (oc:gV) (od:Option Addr) (kV doc pm:gV) (an:Option Addr) (cdv ct:gV) (osl:Array (Option gV)),
  fd=Iv x qual (dh st) (bP st) (aw st) .none kV doc pm an cdv ct/\K.lookup f=some ⟨oc,od, .func fd,osl⟩/\Km K cdv qual=true
 kp:IQ K (.ref f)=true
section
variable {P:FI} {w:G2} {K:Frag} {mg:Str->Option gV} {base:Heap}
theorem Fun.ok {x qual:Str} {st:Stmt} {f:Addr} {fd:IP} {N ps:List Str} {k:Nat} {sp:Sp} (F:Fun K x qual st f fd) (S:gw N ps (aw st)) (len:∀ vs H Q E,sp vs H Q E->vs.length=ps.length)
 (j:∀ (cdv:gV) (A:G8) (outer:List Env) (s:tv) (H:Hp) (vs:List V) (Q:VK) (E:XK),Room k (A.deeper (LJ qual (aw st) s.heap.objs.size f cdv))->sp vs H Q E ->
   ∃ t,PSs (i6 CX0 P w K mg base N qual (aw st) f cdv A outer s H E).nox (bP st) t/\t { nx:=fun _ H'=>Q .non H',rt:=Q } (cJ N vs) H):du P w K mg base CX0 (k+1) f fd ps sp:=by
 obtain ⟨oc,od,kV,doc,pm,an,cdv,ct,osl,rfl,lk,z⟩:=F.ex;refine BM lk z S len fun A outer s H vs Q E G B => ?_;obtain ⟨t,h,q⟩:=j cdv A outer s H vs Q E G B;exact ⟨t,h.nox,q⟩
theorem Fun.binds {x qual:Str} {st:Stmt} {f:Addr} {fd:IP} {ps:List Str} (F:Fun K x qual st f fd)
 (h:∀ (kV doc pm:gV) (an:Option Addr) (cdv ct:gV) (us:List gV),us.length=ps.length->bindArgs (Iv x qual (dh st) (bP st) (aw st) .none kV doc pm an cdv ct) ⟨us,[]⟩=pure (ps.zip us)):Binds K fd ps []:=by
 obtain ⟨oc,od,kV,doc,pm,an,cdv,ct,osl,rfl,lk,j⟩:=F.ex;exact .all (h kV doc pm an cdv ct)
theorem ah {x qual:Str} {st:Stmt} {f:Addr} {oc:gV} {od an:Option Addr} {osl:Array (Option gV)} {kV doc pm cdv ct:gV} (l:K.lookup f=some ⟨oc,od, .func (Iv x qual (dh st) (bP st) (aw st) .none kV doc pm an cdv ct),osl⟩)
 (c:Km K cdv qual=true) (k:IQ K (.ref f)=true):Fun K x qual st f (Iv x qual (dh st) (bP st) (aw st) .none kV doc pm an cdv ct):=⟨⟨oc,od,kV,doc,pm,an,cdv,ct,osl,rfl,l,c⟩,k⟩
end
end
end L2
namespace HT
open PySem PySem.Spec PyProof.Rows
section
variable {prog:FI} {w:G2} {A:G8} {E:gV->tv->Prop} {s:tv}
theorem getItem_tuple_whole {t sl:Addr} {items:Array gV} {vl vu:gV} {lo hi:Option Int} {Q:gV->tv->Prop} (j:IsTup s.heap t items) (hs:s.heap.IsSliceOf sl vl vu .none) (pl:Lj vl lo) (pu:Lj vu hi)
 (hw:sIx items.size 0 lo=0/\sIx items.size items.size hi=items.size) (h:Q (.ref t) s):Fq (model prog w) A (KH (.ref t) (.ref sl)) Q E s:=by
 obtain ⟨os,q,z,G⟩:=id hs;have B:s.TypeIs (.ref sl) "slice" := ⟨os,q,z⟩;unfold KH
 try with_reducible refine Gc ?_
 first | refine e6 (D1 ?_) | skip
 refine e6 (Ng j.typeIs (by decide) ?_)
 refine e6 (FY (name:=Gf "__getitem__") j.typeIs Hj
  (FZ Hj j.typeIs Mp ?_ (MW _ _)))
 show Fq _ _ (Ko (.ref t) >>= _) _ _ s;refine e6 (tupleItemsOf_ j ?_);refine e6 (Hq B ?_);rw [if_pos (by decide)]
 refine e6 (dv hs pl pu ?_);have F:(((sIx items.size 0 lo:Nat):Int)==0&&(1:Int)==1&&(sIx items.size items.size hi - sIx items.size 0 lo)==items.size)=true:=by
  rw [hw.1,hw.2];simp
 show Fq _ _ (if (((sIx items.size 0 lo:Nat):Int)==0&&(1:Int)==1&&(sIx items.size items.size hi - sIx items.size 0 lo)==items.size)=true then _ else _) _ _ s
 rw [if_pos F];refine e6 (m:=Kr (.ref t)) ?_;unfold Kr;refine e6 (Hq j.typeIs (D1 ?_));show Fq _ _ (if true=true then _ else _) _ _ s
 rw [if_pos rfl];exact e6 (Hz (D1 ⟨_,rfl,D1 h⟩))
end
end HT
namespace L2
open PySem PySem.Spec PyProof.Rows
section
section
variable {X:Cx}
noncomputable def CL (K:Frag):V->Option Int->Option Int->Hp->VK->Prop:=fun x lo hi H Q => ∃ a xs,x = .ref a/\SqT K H a xs/\(HT.sIx xs.length 0 lo=0/\HT.sIx xs.length xs.length hi=xs.length)/\Q x H
theorem vA:SlR X (CL X.K):=by
 intro pins s σ H x v vl vu lo hi sl Q I rx hs pl pu h;obtain ⟨a,xs,rfl,hx,hw,q⟩:=h
 cases rx
 obtain ⟨its,r,j,z⟩:=I.tuple hx;have hlen:=r.length;refine ⟨"tuple",_,slot_tuple_getitem.lookup,j.typeIs, ?_⟩;refine HT.getItem_tuple_whole j hs pl pu (by rw [Fn, <- hlen];exact hw) ⟨.ref a,H,I,rfl,q⟩
end
end
section
section
variable {κ:Type} [DecidableEq κ]
noncomputable def bI (kvs:List (κ × V)) (k : κ):Option V:=(kvs.find? fun kv=>decide (kv.1=k)).map (·.2)
noncomputable def be (kvs:List (κ × V)) (k : κ) (v:V):List (κ × V) :=
 if (kvs.any fun kv=>decide (kv.1=k))=true then kvs.map (fun kv=>if kv.1=k then (kv.1,v) else kv) else kvs++[(k,v)]
theorem eO {p : κ × V} {r:List (κ × V)} {k : κ} (e:p.1=k):bI (p::r) k=some p.2:=by simp [bI,GL,e]
theorem eP {p : κ × V} {r:List (κ × V)} {k : κ} (e : ¬ p.1=k):bI (p::r) k=bI r k:=by simp [bI,GL,e]
theorem lZ (k : κ):∀ kvs:List (κ × V),(kvs.any fun kv=>decide (kv.1=k))=(bI kvs k).isSome
 | [] => rfl
 | p::r=>by
   rw [IF]
   by_cases e:p.1=k
   ·simp only [eO e,decide_eq_true e,Bool.true_or,MX]
   ·rw [eP e,decide_eq_false e,KR];exact lZ k r
theorem cK (kvs:List (κ × V)) (k : κ) (v:V):(be kvs k v).length<=kvs.length+1:=by
 unfold be
 split
 ·rw [Fd];omega
 ·rw [Fk,GQ,Ia];omega
theorem RelO.isSome_eq {o:Option V} {u:Option gV} (r:RelO o u):o.isSome=u.isSome:=by
 cases o with
 | none=>cases u with
   | none=>rfl
   | some _=>exact (show False from r).elim
 | some _=>cases u with
   | none=>exact (show False from r).elim
   | some _=>rfl
theorem RelO.getD {o:Option V} {u:Option gV} {d:V} {d':gV} (r:RelO o u) (rd:RelV d d'):RelV (o.getD d) (u.getD d'):=by
 cases o with
 | none=>cases u with
   | none=>exact rd
   | some _=>exact (show False from r).elim
 | some _=>cases u with
   | none=>exact (show False from r).elim
   | some _=>exact r
theorem KV.val {kvs:List (κ × V)} {vs:List (κ × gV)} (r:KV kvs vs) (k : κ):RelO (bI kvs k) (Mo vs k):=by
 unfold KV at r
 induction r with
 | nil=>exact H8
 | @cons p q ps qs h t ih =>
  obtain ⟨h1,h2⟩:=h
  by_cases e:p.1=k
  ·have e':q.1=k:=h1.symm.trans e;have b:Mo (q::qs) k=some q.2:=by simp [Mo,GL,e']
   rw [eO e,b];exact h2
  ·have e' : ¬ q.1=k:=fun z=>e (h1.trans z);have b:Mo (q::qs) k=Mo qs k:=by simp [Mo,GL,e']
   rw [eP e,b];exact ih
theorem KV.any {kvs:List (κ × V)} {vs:List (κ × gV)} (r:KV kvs vs) (k : κ):(kvs.any fun kv=>decide (kv.1=k))=vs.any fun kv=>decide (kv.1=k):=by
 unfold KV at r
 induction r with
 | nil=>rfl
 | cons h t ih=>rw [IF,IF,ih,h.1]
theorem KV.repl {kvs:List (κ × V)} {vs:List (κ × gV)} (r:KV kvs vs) (k : κ) {y:V} {u:gV} (ry:RelV y u) :
 KV (kvs.map fun kv=>if kv.1=k then (kv.1,y) else kv) (vs.map fun kv=>if kv.1=k then (kv.1,u) else kv):=by
 unfold KV at r ⊢
 induction r with
 | nil=>exact .nil
 | @cons p q ps qs h t ih =>
  rw [FJ,FJ];refine .cons ?_ ih;obtain ⟨h1,h2⟩:=h
  by_cases e:p.1=k
  ·rw [if_pos e,if_pos (h1.symm.trans e)];exact ⟨h1,ry⟩
  ·rw [if_neg e,if_neg (fun z=>e (h1.trans z))];exact ⟨h1,h2⟩
theorem KV.put {kvs:List (κ × V)} {vs:List (κ × gV)} (r:KV kvs vs) (k : κ) {y:V} {u:gV} (ry:RelV y u):KV (be kvs k y) (stored vs k u):=by
 unfold be stored;rw [r.any k]
 by_cases e:(vs.any fun kv=>decide (kv.1=k))=true
 ·rw [if_pos e,if_pos e];exact r.repl k ry
 ·rw [if_neg e,if_neg e];exact Paired.snoc r ⟨rfl,ry⟩
theorem KV.length {kvs:List (κ × V)} {vs:List (κ × gV)} (r:KV kvs vs):kvs.length=vs.length:=Ih r
end
theorem iQ {P:FI} {w:G2} {k:Key} {u:gV} (r:RelV (kV k) u):(aD P w).is k u=true:=by
 cases k with
 | inl i=>obtain ⟨t,e⟩:=(show ∃ t,u=Mk i t from r);subst e;exact oG P w i t
 | inr x=>obtain ⟨t,e⟩:=(show ∃ t,u=Ml x t from r);subst e;exact oH P w x t
theorem kD {P:FI} {w:G2}:∀ {ks:List Key} {us:List gV},Vals (ks.map kV) us->ItemsAre (aD P w) ks us
 | [],_,r=>by rw [Kd] at r;cases r;exact .nil
 | k::ks,_,r=>by
   rw [FJ] at r
   cases r with
   | cons h t=>exact .cons (iQ h) (kD t)
noncomputable abbrev KT (H:Hp):List (List Key×V)->List (List Key×Addr×gV)->Prop:=G5 fun p q=>p.1=q.1/\H q.2.1=some (.tup (p.1.map kV))/\RelV p.2 q.2.2
theorem KT.val {H:Hp} {kvs:List (List Key×V)} {xs:List (List Key×Addr×gV)} (r:KT H kvs xs) (k:List Key):RelO (bI kvs k) ((NV xs k).map (·.2)):=by
 induction r with
 | nil=>exact H8
 | @cons p q ps qs h t ih =>
  obtain ⟨h1,_,h2⟩:=h
  by_cases e:p.1=k
  ·have e':q.1=k:=h1.symm.trans e;have b:NV (q::qs) k=some q.2:=by simp [NV,GL,e']
   rw [eO e,b];exact h2
  ·have e' : ¬ q.1=k:=fun z=>e (h1.trans z);have b:NV (q::qs) k=NV qs k:=by simp [NV,GL,e']
   rw [eP e,b];exact ih
theorem KT.repl {H:Hp} {kvs:List (List Key×V)} {xs:List (List Key×Addr×gV)} (r:KT H kvs xs) (k:List Key) {y:V} {u:gV} (ry:RelV y u) :
 KT H (kvs.map fun kv=>if kv.1=k then (kv.1,y) else kv) (xs.map (putAt k u)):=by
 induction r with
 | nil=>exact .nil
 | @cons p q ps qs h t ih =>
  rw [FJ,FJ];refine .cons ?_ ih;obtain ⟨h1,h2,j⟩:=h;unfold putAt
  by_cases e:p.1=k
  ·rw [if_pos e,if_pos (h1.symm.trans e)];exact ⟨h1,h2,ry⟩
  ·rw [if_neg e,if_neg (fun z=>e (h1.trans z))];exact ⟨h1,h2,j⟩
theorem KT.put {H:Hp} {kvs:List (List Key×V)} {xs:List (List Key×Addr×gV)} (r:KT H kvs xs) (k:List Key) {b:Addr} {y:V} {u:gV} (j:H b=some (.tup (k.map kV))) (ry:RelV y u) :
 KT H (be kvs k y) (storedH xs k b u):=by
 have e:(kvs.any fun kv=>decide (kv.1=k))=(NV xs k).isSome:=by
  rw [lZ,(r.val k).isSome_eq,Ni]
 unfold be storedH;rw [e]
 by_cases q:(NV xs k).isSome=true
 ·rw [if_pos q,if_pos q];exact r.repl k ry
 ·rw [if_neg q,if_neg q];exact Paired.snoc r ⟨rfl,j,ry⟩
theorem KT.keeps {H H':Hp} {kvs:List (List Key×V)} {xs:List (List Key×Addr×gV)} (r:KT H kvs xs) (j:∀ b ys,H b=some (.tup ys)->H' b=some (.tup ys)):KT H' kvs xs :=
 OO r fun _ _ z=>⟨z.1,j _ _ z.2.1,z.2.2⟩
section
variable {P:FI} {w:G2} {H:Hp} {h:Heap} {a:Addr}
theorem xz {u:HO} (ok:HOk P w H h) (e:Rd H a u):ObjOk P w H h a u:=e.ok ok
theorem iR {kvs:List (Key×V)} (ok:HOk P w H h) (e:Rd H a (.dK kvs)):kvs.length<=Fj/\(a==H0)=false /\ ∃ vs,KV kvs vs/\h.DictOf (aD P w) a vs :=
 show ObjOk P w H h a (.dK kvs) from xz ok e
theorem BQ {kvs:List (Key×V)} (ok:HOk P w H h) (e:H a=some (.dK kvs)):kvs.length<=Fj/\(a==H0)=false /\ ∃ vs,KV kvs vs/\h.DictOf (aD P w) a vs:=iR ok (.inl e)
theorem ee {ks:List Key} (ok:HOk P w H h) (e:H a=some (.tup (ks.map kV))):(Jl (aD P w)).is h ks a:=by
 obtain ⟨_,its,r,o,h1,h2,n,j⟩:=(show ObjOk P w H h a (.tup (ks.map kV)) from ok a _ e);exact ⟨o,its.toArray,n,h1,h2,j,by simpa using kD r⟩
theorem iS {kvs:List (List Key×V)} (ok:HOk P w H h) (e:Rd H a (.dT kvs)):kvs.length<=Fj/\(a==H0)=false /\
 ∃ xs,KT H kvs xs/\h.DictOfH (Jl (aD P w)) a xs:=by
 obtain ⟨z,y,xs,r,o,es,ep,h1,h2,j,B,F⟩:=(show ObjOk P w H h a (.dT kvs) from xz ok e);refine ⟨z,y,xs,r,o,es,ep,h1,h2,j,B,fun x hx => ?_,F⟩;have all:∀ {l:List (List Key×V)} {m:List (List Key×Addr×gV)},KT H l m -> ∀ x∈m,(Jl (aD P w)).is h x.1 x.2.1:=by
  intro l m q
  induction q with
  | nil=>intro x hx;exact nomatch hx
  | @cons p q ps qs hq t ih =>
   intro x hx
   rcases Fo.mp hx with e | hx
   ·subst e;exact ee ok (by rw [<- hq.1];exact hq.2.1)
   ·exact ih x hx
 exact all r x hx
theorem xA {kvs:List (List Key×V)} (ok:HOk P w H h) (e:H a=some (.dT kvs)):kvs.length<=Fj/\(a==H0)=false /\
 ∃ xs,KT H kvs xs/\h.DictOfH (Jl (aD P w)) a xs:=iS ok (.inl e)
end
def DGet (H:Hp) (a:Addr) (y:V) (r:Option V):Prop :=
 (∃ kvs k,Rd H a (.dK kvs)/\y=kV k/\r=bI kvs k) ∨ ∃ kvs k b,Rd H a (.dT kvs)/\y = .ref b/\H b=some (.tup (k.map kV))/\r=bI kvs k
def DPut (H:Hp) (a:Addr) (y v:V) (H':Hp):Prop :=
 (∃ kvs k,H a=some (.dK kvs)/\y=kV k/\kvs.length < Fj/\H'=upd H a (.dK (be kvs k v))) ∨
 ∃ kvs k b,H a=some (.dT kvs)/\y = .ref b/\H b=some (.tup (k.map kV))/\kvs.length < Fj/\H'=upd H a (.dT (be kvs k v))
theorem DGet.k {H:Hp} {a:Addr} {kvs:List (Key×V)} {k:Key} (e:H a=some (.dK kvs)):DGet H a (kV k) (bI kvs k) := .inl ⟨kvs,k, .inl e,rfl,rfl⟩
theorem DPut.k {H:Hp} {a:Addr} {kvs:List (Key×V)} {k:Key} {v:V} (e:H a=some (.dK kvs)) (j:kvs.length < Fj):DPut H a (kV k) v (upd H a (.dK (be kvs k v))) := .inl ⟨kvs,k,e,rfl,j,rfl⟩
theorem DPut.t {H:Hp} {a b:Addr} {kvs:List (List Key×V)} {k:List Key} {v:V} (e:H a=some (.dT kvs)) (eb:H b=some (.tup (k.map kV))) (j:kvs.length < Fj) :
 DPut H a (.ref b) v (upd H a (.dT (be kvs k v))) := .inr ⟨kvs,k,b,e,rfl,eb,j,rfl⟩
section
variable {X:Cx} {pins:List (Addr×Obj)} {σ:St} {H:Hp} {s:tv} {a:Addr} {y v:V} {u r:gV} {o:Option V} {A:G8} {E:gV->tv->Prop}
theorem Inv.big (I:Inv X pins σ H s):H0 < s.heap.objs.size:=by
 have h:GD < s.heap.objs.size:=(I.mod.glob.keeps I.bk).lt;exact Nat.lt_trans (by decide) h
theorem sL {Q:gV->tv->Prop} (q:A.units+1 < HQ) (I:Inv X pins σ H s) (g:DGet H a y (some v)) (ry:RelV y u) (h:∀ w' s',Inv X pins σ H s'->RelV v w'->Q w' s') :
 Fq (model X.prog X.w) A (KH (.ref a) u) Q E s:=by
 rcases g with ⟨kvs,k,e,ey,l⟩ | ⟨kvs,k,b,e,ey,eb,l⟩
 ·subst ey;obtain ⟨z,hd,vs,rel,dd⟩:=iR I.hok e;obtain ⟨w',hw,rw'⟩:=OX (v:=v) (o:=Mo vs k) (by rw [l];exact rel.val k)
  exact wpAny_getItem_of (iQ ry) dd.mapOf hw (h w' _ (I.tok _) rw')
 ·subst ey
  cases (show u=FA b from ry)
  obtain ⟨z,hd,xs,rel,dd⟩:=iS I.hok e;obtain ⟨w',hw,rw'⟩:=OX (v:=v) (o:=(NV xs k).map (·.2)) (by rw [l];exact rel.val k)
  obtain ⟨p,B,j⟩:=Iw.mp hw;refine wpAny_getItem_heap (Iy q) (ee I.hok eb) dd B ?_;rw [j];exact h w' _ (I.tok _) rw'
theorem yz {Q:gV->tv->Prop} (j:A.units+1 < HQ) (I:Inv X pins σ H s) (g:DGet H a y o) (ry:RelV y u) (h:∀ s',Inv X pins σ H s'->Q (.bool (!o.isSome)) s') :
 Fq (model X.prog X.w) A (Hx .NotIn u (.ref a)) Q E s:=by
 rcases g with ⟨kvs,k,e,ey,l⟩ | ⟨kvs,k,b,e,ey,eb,l⟩
 ·subst ey;obtain ⟨z,hd,vs,rel,dd⟩:=iR I.hok e;refine wpAny_notIn_of (iQ ry) hd dd.mapOf ?_;rw [<- (rel.val k).isSome_eq, <- l];exact h _ (I.tok _)
 ·subst ey
  cases (show u=FA b from ry)
  obtain ⟨z,hd,xs,rel,dd⟩:=iS I.hok e;refine wpAny_notIn_heap (Iy j) (ee I.hok eb) hd dd ?_;have q:=(rel.val k).isSome_eq;rw [Ni] at q;rw [<- q, <- l];exact h _ (I.tok _)
theorem jK {h':Heap} {t':Nat} {ob:HO} (I:Inv X pins σ H s) (mu:Mut (H a)) (hs:GP a s.heap h') (he:∃ q,h'.get? a=some q) (new:ObjOk X.prog X.w (upd H a ob) h' a ob) :
 Inv X pins σ (upd H a ob) { s with heap:=h',toks:=t' } :=
 I.write (x:=a) (e:=a) mu (.inl rfl) (fun b q j z=>(hs.2 b j).trans z) he new
theorem Ar {P:FI} {w:G2} {H':Hp} {h':Heap} {kvs:List (Key×V)} {vs:List (Key×gV)} (z:kvs.length<=Fj) (hd:(a==H0)=false) (rel:KV kvs vs) (dd:h'.DictOf (aD P w) a vs) :
 ObjOk P w H' h' a (.dK kvs):=⟨z,hd,vs,rel,dd⟩
theorem sM {H':Hp} {Q:Unit->tv->Prop} (G:A.units+1 < HQ) (I:Inv X pins σ H s) (g:DPut H a y v H') (ry:RelV y u) (rv:RelV v r) (h:∀ s',Inv X pins σ H' s'->Q () s') :
 Fq (model X.prog X.w) A (Mm (.ref a) u r) Q E s:=by
 rcases g with ⟨kvs,k,e,ey,l,eH⟩ | ⟨kvs,k,b,e,ey,eb,l,eH⟩
 ·subst ey eH;obtain ⟨z,hd,vs,rel,dd⟩:=BQ I.hok e;have B:vs.length<=Fj:=by rw [<- rel.length];exact z
  have F:(be kvs k v).length<=Fj:=by have:=cK kvs k v;omega
  refine wpAny_setItem_pairs (hsz:=B) (iQ ry) dd fun h' dd' hs=>h _ ?_;have he:∃ q,h'.get? a=some q:=let ⟨q,_,_,j,_⟩:=dd'; ⟨q,j⟩;exact jK I (by rw [e];exact H8) hs he (Ar F hd (rel.put k rv) dd')
 ·subst ey eH
  cases (show u=FA b from ry)
  obtain ⟨z,hd,xs,rel,dd⟩:=xA I.hok e;have B:xs.length<=Fj:=by rw [<- Ih rel];exact z
  have F:(be kvs k v).length<=Fj:=by have:=cK kvs k v;omega
  refine wpAny_setItem_heap (hsz:=B) (Iy G) (ee I.hok eb) dd fun h' dd' hs=>h _ ?_;obtain ⟨q,es,ep,j,h2,J,L,_,O⟩:=dd';refine jK I (by rw [e];exact H8) hs ⟨q,j⟩ ⟨F,hd,_,(rel.put k eb rv).keeps fun c ys ec => ?_,q,es,ep,j,h2,J,L,O⟩
  rw [ai (xo ec e (fun z=>nomatch z))];exact ec
end
theorem vB {P:FI} {w:G2} {H:Hp} (h:Heap) (j:H0 < h.objs.size):ObjOk P w H (h.push { cls := .type "dict",data := .dict #[] }) h.objs.size (.dK []) :=
 ⟨Ha _,beq_eq_false_iff_ne.mpr (Ne.symm (FR j)),[], .nil,Heap.DictOf.new h⟩
theorem m8 {P:FI} {w:G2} {H:Hp} (h:Heap) (j:H0 < h.objs.size):ObjOk P w H (h.push { cls := .type "dict",data := .dict #[] }) h.objs.size (.dT []) :=
 ⟨Ha _,beq_eq_false_iff_ne.mpr (Ne.symm (FR j)),[], .nil,_, #[],0,Fh _ rfl,⟨rfl,rfl,rfl⟩,rfl,rfl,List.nodup_nil⟩
noncomputable def As:TE:=fun _ H Q => ∀ p,H p=none->Q (.ref p) (upd H p (.dK []))
noncomputable def Au:TE:=fun _ H Q => ∀ p,H p=none->Q (.ref p) (upd H p (.dT []))
section
variable {X:Cx} {pos:Pos}
theorem vC:PE X (.Dict [] [] pos) As:=fun pins s σ H Q I h =>
 NI ⟨.ref s.heap.objs.size,_,I.laid (a:=s.heap.objs.size) (o := .dK []) (t':=s.toks) (fun _ _ q=>q7 _ q) (Fl _) (vB s.heap I.big),rfl,h _ (I.hok.fresh (Fl _))⟩
theorem vD:PE X (.Dict [] [] pos) Au:=fun pins s σ H Q I h =>
 NI ⟨.ref s.heap.objs.size,_,I.laid (a:=s.heap.objs.size) (o := .dT []) (t':=s.toks) (fun _ _ q=>q7 _ q) (Fl _) (m8 s.heap I.big),rfl,h _ (I.hok.fresh (Fl _))⟩
end
structure M2 (X:Cx) (o:Expr) (m:Str) (apos:Pos) (e f:Expr) (cpos:Pos):Prop where
 base:J5 o m X.env (eval o X.env)=eval o X.env
 few:((J0 cpos (FO [e,f] X.env)).all (fun x => !x.1)&&(backToKw cpos (NU [] X.env)).all (fun x=>x.1.isSome)
  && decide (([e,f]:List Expr).length+([]:List Lp).length+(if ([]:List Lp).isEmpty then 0 else 1) < 30))=true
 line:(apos.endLine==cpos.line)=true
 trees:J0 cpos (FO [e,f] X.env)=[(false,eval e X.env),(false,eval f X.env)]
def IsD (H:Hp) (a:Addr):Prop:=(∃ kvs,Rd H a (.dK kvs)) ∨ ∃ kvs,Rd H a (.dT kvs)
theorem eh {X:Cx} {pins:List (Addr×Obj)} {σ:St} {H:Hp} {s:tv} {a:Addr} (I:Inv X pins σ H s) (d:IsD H a) :
 s.TypeIs (.ref a) "dict" /\ (∀ b,FA a = .ref b -> ∃ ob,s.heap.get? b=some ob/\ob.dict=none)/\(a==H0)=false:=by
 rcases d with ⟨kvs,e⟩ | ⟨kvs,e⟩
 ·obtain ⟨_,hd,vs,_,dd⟩:=iR I.hok e;refine ⟨dd.typeIs,fun b q => ?_,hd⟩
  cases q
  obtain ⟨ob,_,_,h1,h2,_⟩:=dd;exact ⟨ob,h1,h2.2.1⟩
 ·obtain ⟨_,hd,xs,_,dd⟩:=iS I.hok e;refine ⟨dd.typeIs,fun b q => ?_,hd⟩
  cases q
  obtain ⟨ob,_,_,h1,h2,_⟩:=dd;exact ⟨ob,h1,h2.2.1⟩
section
variable {X:Cx} {pins:List (Addr×Obj)} {σ:St} {H:Hp} {s:tv} {a:Addr} {y d:V} {u r:gV} {o:Option V} {A:G8} {E:gV->tv->Prop}
theorem Av {Q:gV->tv->Prop} (j:A.units+1 < HQ) (I:Inv X pins σ H s) (g:DGet H a y o) (ry:RelV y u) (rd:RelV d r) (h:∀ w' s',Inv X pins σ H s'->RelV (o.getD d) w'->Q w' s') :
 Fq (model X.prog X.w) A (call (.builtin "dict.get") [.ref a,u,r]) Q E s:=by
 rcases g with ⟨kvs,k,e,ey,l⟩ | ⟨kvs,k,b,e,ey,eb,l⟩
 ·subst ey;obtain ⟨z,hd,vs,rel,dd⟩:=iR I.hok e;refine Nj JI dd.typeIs Lq (L4 _ _ _) (meets_dict_get_default (aD X.prog X.w) a (iQ ry) hd r) ⟨_,dd.mapOf,h _ _ (I.tok _) ?_⟩;rw [l];exact (rel.val k).getD rd
 ·subst ey
  cases (show u=FA b from ry)
  obtain ⟨z,hd,xs,rel,dd⟩:=iS I.hok e;refine Nj JI dd.typeIs Lq (L4 _ _ _) (meetsH_dict_get_default (Jl (aD X.prog X.w)) a b hd r) ⟨Iy j,k,xs,ee I.hok eb,dd,h _ _ (I.tok _) ?_⟩;rw [l];exact (rel.val k).getD rd
end
noncomputable def Aw (td ty tx:TE):TE:=fun σ H Q=>td σ H fun x H1 => ∃ a,x = .ref a/\IsD H1 a/\ty σ H1 fun y H2=>tx σ H2 fun z H3 => ∃ o,DGet H3 a y o/\Q (o.getD z) H3
section
variable {X:Cx} {o e f:Expr} {apos cpos:Pos} {td ty tx:TE}
theorem vE (q:X.A.units+1 < HQ) (ho:PE X o td) (he:PE X e ty) (hf:PE X f tx) (m:M2 X o "get" apos e f cpos):PE X (.Call (.Attribute o "get" apos) [e,f] [] cpos) (Aw td ty tx):=by
 intro pins s σ H Q I h;refine wpAny_Call_method m.base m.few m.line PySem.F.plainAttrs_dict JI PySem.F.type_dict_get (thn (ho pins s σ H _ I h) fun u s1 ⟨x,H1,j,rx,a,ex,d,B⟩ => ?_);subst ex;obtain rfl:u=FA a:=rx;obtain ⟨t1,G,_⟩:=eh j d;refine ⟨t1,G, ?_⟩;rw [m.trees];refine HK rfl (LL (Jf (thn (he pins s1 σ H1 _ j B) fun iv s2 ⟨y,H2,J,ry,L⟩ =>
  Jf (thn (hf pins s2 σ H2 _ J L) fun fv s3 ⟨z,O,U,rz,ov,g,Y⟩=>KI ?_))))
 exact Av q U g ry rz fun w' s4 Z rw'=>⟨_,O,Z,rw',Y⟩
end
end
section
noncomputable def aY (elt:Expr) (gens:List Gk) (scope:Scope) (pos:Pos) (d:Nat) (acc:gV) (env:Env) (k:Sem Fin):Sem Fin :=
 match gens[d+1]? with
 | some g'=>eval g'.iter env >>= fun x=>KG g'.iter.pos >>= fun _=>Hw g'.iter env x >>= fun x=>holding [x] (Lh x) >>= fun it' =>
    runOwn (.compStart (.ListComp elt gens scope pos) (d+1) it' acc env) env >>= fun _=>k
 | none=>(eval elt env >>= fun x=>call (.builtin "list.append") [acc,x] >>= fun _=>pure ()) >>= fun _=>k
noncomputable def bf (ifs:List Expr) (env:Env):Sem Bool :=
 forIn ifs true fun c r=>if r=true then do let ok <- isTrue c env (eval c env);pure (IB ok) else pure (IB r)
theorem m9 (elt target iter:Expr) (ifs:List Expr) (gens:List Gk) (scope:Scope) (pos:Pos) (d:Nat) (it acc:gV) (env:Env)
 (hd:gens[d]? = some ⟨target,iter,ifs,0⟩) (j:∀ g',gens[d+1]? = some g'->g'.is_async=0) :
 compTurn (.ListComp elt gens scope pos) d it acc env=(KG iter.pos >>= fun _=>Ij it >>= fun r=>match r with
  | none=>pure (.done .next)
  | some v=>JZ target it v >>= fun _=>assign target env v >>= fun _=>bf ifs env >>= fun ok =>
    (if ok=true then aY elt gens scope pos d acc env (again (.compLoop (.ListComp elt gens scope pos) d it acc env)) else again (.compLoop (.ListComp elt gens scope pos) d it acc env))):=by
 unfold compTurn;simp only [hd];unfold aY bf
 cases hn:gens[d+1]? with
 | none=>rfl
 | some g' =>
   obtain ⟨t',i',f',a'⟩:=g';have e:a'=0:=j _ hn;subst e;rfl
noncomputable abbrev TC:=St->Hp->(St->Hp->Prop)->Prop
def cm (J:It) (g:TG) (tb:TC) (N:St->Hp->Prop) (σ:St) (H:Hp):Prop :=
 ∃ W:Nat->Nat->St->Hp->Prop,(∃ m,W 0 m σ H) /\ ∀ i m σ H,W i m σ H ->
  (J.stop i H/\N σ H)∨(J.go i H /\ ∃ N':St->Hp->Prop,(∀ σ' H',N' σ' H' -> ∃ m',m' < m/\W (i+1) m' σ' H') /\ ∀ x H',J.yld i H x H'->g x σ H' fun σ2 H2=>tb σ2 H2 N')
def PB (X:Cx) (F:Sem Fin->Sem Fin) (t:TC):Prop :=
 ∀ (pins:List (Addr×Obj)) (s:tv) (σ:St) (H:Hp) (N:St->Hp->Prop) (k:Sem Fin) (Q:Fin->tv->Prop) (E:gV->tv->Prop),Inv X pins σ H s->t σ H N ->
  (∀ s' σ' H',Inv X pins σ' H' s'->N σ' H'->Fq (model X.prog X.w) X.A k Q E s')->Fq (model X.prog X.w) X.A (F k) Q E s
section
variable {X:Cx}
theorem nox {α:Type} {m:Sem α} {Q : α -> tv->Prop} {E:gV->tv->Prop} {s:tv} (hx:∀ e s,X.xe e s->False) (h:Fq (model X.prog X.w) X.A m Q X.xe s):Fq (model X.prog X.w) X.A m Q E s :=
 Gw h (fun _ _ q=>q) fun e s' q=>(hx e s' q).elim
noncomputable def iT (ts:List TT) (tb:TC):TC:=match ts with
 | [] => tb
 | t::r=>fun σ H N=>t σ H fun b H1=>if b=true then iT r tb σ H1 N else N σ H1
theorem iU {env:Env} {M:JH} {A:G8} {Q:Bool->tv->Prop} {E:gV->tv->Prop} {s:tv} (h:Q false s):∀ ifs:List Expr,
 Fq M A (forIn ifs false fun c r=>if r=true then do let ok <- isTrue c env (eval c env);pure (IB ok) else pure (IB r)) Q E s
 | [] => D1 h
 | c::r=>by
   rw [K5];simp only [Hm,if_false];exact e6 (D1 (iU h r))
theorem md (hx:∀ e s,X.xe e s->False) {tb:TC} {N:St->Hp->Prop}:∀ {ifs:List Expr} {ts:List TT},G5 (fun c t=>PT X c t) ifs ts ->
 ∀ (pins:List (Addr×Obj)) (s:tv) (σ:St) (H:Hp) (E:gV->tv->Prop),Inv X pins σ H s->iT ts tb σ H N ->
 Fq (model X.prog X.w) X.A (bf ifs X.env) (fun ok s' => ∃ H',Inv X pins σ H' s'/\if ok=true then tb σ H' N else N σ H') E s
 | _,_, .nil=>fun pins s σ H E I h=>D1 ⟨H,I,by rw [if_pos rfl];exact h⟩
 | c::ifs,_, .cons (b:=t) z hr=>by
   intro pins s σ H E I h;have ih:=md hx hr (tb:=tb) (N:=N) pins;unfold bf at ih ⊢;rw [K5];simp only [if_true];refine e6 (e6 (nox hx (thn (z pins s σ H _ I h) fun b s1 ⟨H1,q,j⟩=>D1 ?_)))
   cases b with
   | false =>
     rw [if_neg Fp] at j;exact iU ⟨H1,q,by rw [if_neg Fp];exact j⟩ ifs
   | true =>
     rw [if_pos rfl] at j;exact ih s1 σ H1 E q j
theorem vF (hx:∀ e s,X.xe e s->False) {F:Sem Fin->Sem Fin} {tb:TC} (z:PB X F tb) {ifs:List Expr} {ts:List TT} (B:G5 (fun c t=>PT X c t) ifs ts) :
 PB X (fun k=>bf ifs X.env >>= fun ok=>if ok=true then F k else k) (iT ts tb):=by
 intro pins s σ H N k Q E I h hk;refine e6 (thn (md hx B pins s σ H E I h) fun ok s1 ⟨H1,q,j⟩ => ?_)
 cases ok with
 | false =>
   rw [if_neg Fp] at j ⊢;exact hk s1 σ H1 q j
 | true =>
   rw [if_pos rfl] at j ⊢;exact z pins s1 σ H1 N k Q E q j hk
noncomputable def xB (p:Addr) (te:TE):TC:=fun σ H N=>te σ H fun x H1 => ∃ xs,H1 p=some (.lst xs)/\xs.length < Fj/\N σ (upd H1 p (.lst (xs++[x])))
theorem jL (hx:∀ e s,X.xe e s->False) {elt:Expr} {gens:List Gk} {scope:Scope} {pos:Pos} {d:Nat} {p:Addr} {te:TE} (he:PE X elt te) (hd:gens[d+1]? = none) :
 PB X (aY elt gens scope pos d (.ref p) X.env) (xB p te):=by
 intro pins s σ H N k Q E I h j;unfold aY;rw [hd];refine e6 (e6 (nox hx (thn (he pins s σ H _ I h) fun u s1 ⟨x,H1,q,z,xs,e1,l1,B⟩ => ?_)));refine e6 (nox hx (thn (kB (X:=X) pins s1 σ H1 (.ref p) [x] (.ref p) [u] (fun _ H2=>N σ H2) q rfl (.cons z .nil) ⟨p,xs,x,rfl,rfl,e1,l1,B⟩) fun v s2 ⟨_,H2,F,_,G⟩ => ?_));exact D1 (j s2 σ H2 F G)
theorem kE (hx:∀ e s,X.xe e s->False) (Y:X.calm=true) {elt target iter:Expr} {ifs:List Expr} {gens:List Gk} {scope:Scope} {pos:Pos} {d:Nat} {acc:gV}
 (hd:gens[d]? = some ⟨target,iter,ifs,0⟩) (ha:∀ g',gens[d+1]? = some g'->g'.is_async=0) {g:TG} (hg:PG X target g) {tb:TC}
 (j:PB X (fun k=>bf ifs X.env >>= fun ok=>if ok=true then aY elt gens scope pos d acc X.env k else k) tb)
 {pins:List (Addr×Obj)} {s:tv} {σ:St} {H:Hp} {N:St->Hp->Prop} {it:Addr} {fp:List Addr} {tn:Nat->Heap->Prop} {J:It} (I:Inv X pins σ H s) (T:fx X.prog X.w X.K target J fp it tn)
 (t0:tn 0 s.heap) (f2:∀ b∈fp,bS X pins H b) (h:cm J g tb N σ H) :
 Ja (model X.prog X.w) X.A (.compLoop (.ListComp elt gens scope pos) d (.ref it) acc X.env) (fun r s'=>match r with | .ok _ => ∃ σ' H',Inv X pins σ' H' s'/\N σ' H' | .error _=>False) s:=by
 obtain ⟨W,⟨m0,w0⟩,turn⟩:=h;have stat:∀ {H':Hp},(∀ b∈fp,H' b=none) -> ∀ b∈fp,bS X pins H' b:=fun hn b j=>⟨hn b j,(f2 b j).2⟩;refine codeAny_loop rfl (fun n s' => ∃ i σ' H',Inv X pins σ' H' s'/\tn i s'.heap/\(∀ b∈fp,H' b=none)/\W i n σ' H') ?_ m0 ⟨0, σ,H,I,t0,fun b j=>(f2 b j).1,w0⟩;rintro n s3 ⟨i, σ3,F,Z,z,B,w3⟩;show Fq _ _ ((compTurn (.ListComp elt gens scope pos) d (.ref it) acc X.env).onRaise (fun x=>do noteFrame x X.env;theTreesLotGoes x)) _ _ s3
 refine wpAny_noted ?_;rw [m9 elt target iter ifs gens scope pos d (.ref it) acc X.env hd ha];refine e6 (IE (e6 ?_));show Fq (model X.prog X.w) X.A _ _ _ s3
 rcases turn i n σ3 F w3 with ⟨stop,qn⟩ | ⟨go,N',hN,step⟩
 ·refine thn (T.done X rfl rfl rfl Y i pins s3 σ3 F _ Z (stat B) z stop) fun r s4 ⟨G,I4⟩ => ?_;subst G;exact D1 ⟨σ3,F,I4,qn⟩
 ·refine thn (T.item X rfl rfl rfl Y i pins s3 σ3 F _ Z (stat B) z go) fun r s4 ⟨u,G,h4⟩ => ?_;subst G;refine e6 (thn h4 fun _ s5 ⟨x,H5,I5,r5,y5,q,L⟩ => ?_);have O:=I5.pinned (stat L) (T.obj _ _ q);refine e6 (nox hx (thn (hg _ s5 σ3 H5 x u _ O r5 (step x H5 y5)) fun _ s6 ⟨σ6,H6,I6,q6⟩ => ?_));refine j _ s6 σ6 H6 N' (again (.compLoop (.ListComp elt gens scope pos) d (.ref it) acc X.env)) _ _ I6 q6 fun s7 σ7 H7 U n7 => ?_;obtain ⟨m',hm,w7⟩:=hN σ7 H7 n7;refine D1 ⟨rfl,m',hm,i+1, σ7,H7,U.unpinned,T.keep _ _ _ q fun b j o e=>(U.pin (b,o) (FF _ (FF _ (cV j e)))).1,fun b j => ?_,w7⟩;obtain ⟨o,e,dd⟩:=T.obj _ _ q b j;exact (U.pin (b,o) (FF _ (FF _ (cV j e)))).2.1
theorem iV {elt target iter:Expr} {ifs:List Expr} {gens:List Gk} {scope:Scope} {pos:Pos} {d:Nat} {it acc:gV} {env:Env} {prog:FI} {w:G2} {A:G8} {R:NF->tv->Prop} {s:tv}
 (hd:gens[d]? = some ⟨target,iter,ifs,0⟩)
 (h0:Ja (model prog w) A (.compLoop (.ListComp elt gens scope pos) d it acc env) R s)
 (h:Fq (model prog w) A (Lh it) (fun it' s'=>Ja (model prog w) A (.compLoop (.ListComp elt gens scope pos) d it' acc env) R s')
   (notedBy (model prog w) A env fun x s'=>R (.error x) s') s) :
 Ja (model prog w) A (.compStart (.ListComp elt gens scope pos) d it acc env) R s:=by
 refine codeAny_of_tree ?_;show Fq _ _ ((compStart (.ListComp elt gens scope pos) d it acc env).onRaise (fun x=>do noteFrame x env;KG theWindowsPlace)) _ _ s
 refine wpAny_notedAt ?_;unfold compStart;have j:(clausesOf (.ListComp elt gens scope pos))[d]? = some ⟨target,iter,ifs,0⟩:=hd;rw [j];show Fq _ _ (ask >>= _) _ _ s;refine e6 (wpAny_askSetting (wpAny_ite ?_))
 split
 ·first
   | exact e6 (D1 (D1 (JN rfl h0)))
   | exact D1 (JN rfl h0)
 ·first
   | exact e6 (Hz (e6 (IE (e6 (Gw h (fun it' s' h'=>D1 (JN rfl h')) fun _ _ x=>x)))))
   | (refine e6 (Hz ?_);show Fq _ _ (KG iter.pos >>= _) _ _ s;exact e6 (IE (e6 (Gw h (fun it' s' h'=>D1 (JN rfl h')) fun _ _ x=>x))))
theorem kF (hx:∀ e s,X.xe e s->False) (z:X.calm=true) {elt target iter:Expr} {ifs:List Expr} {gens:List Gk} {scope:Scope} {pos:Pos} {d:Nat} {acc:gV}
 (hd:gens[d+1]? = some ⟨target,iter,ifs,0⟩) (B:∀ g',gens[d+1+1]? = some g'->g'.is_async=0) {wi:TI} (hi:PI X target iter wi) {g:TG} (F:PG X target g) {tb:TC}
 (G:PB X (fun k=>bf ifs X.env >>= fun ok=>if ok=true then aY elt gens scope pos (d+1) acc X.env k else k) tb)
 (hs:∀ x,Hw iter X.env x=pure x) :
 PB X (aY elt gens scope pos d acc X.env) (fun σ H N=>wi σ H fun J H1=>cm J g tb N σ H1):=by
 intro pins s σ H N k Q E I h hk;unfold aY;rw [hd];refine e6 (nox hx (thn (hi pins s σ H _ I h) fun v s1 h1 => ?_));refine e6 (IE (e6 (HR (hs v) ?_)));refine e6 (Gc (nox hx (thn h1 fun itv s2 h2 => ?_)));obtain ⟨it,fp,tn,J,H2,e,L,T,j,f2,hw⟩:=h2;subst e;have loop:=kE (acc:=acc) hx z hd B F G L T j f2 hw;refine e6 (wpAny_runOwn (IW (iV (R:=fun r s'=>match r with | .ok _ => ∃ σ' H',Inv X pins σ' H' s'/\N σ' H' | .error _=>False) hd loop (T.self _ 0 _ _ _ j loop)) fun r s3 q => ?_))
 cases r with
 | error e=>exact q.elim
 | ok f =>
   obtain ⟨σ3,O,U,Y⟩:=q;exact hk s3 σ3 O U Y
noncomputable def aN (cells:List (Str×Addr)):List (Str×Ip)->List (Str×Addr)->List (Str×Addr)
 | [],acc=>acc
 | (n,k)::r,acc=>if k == .free then (match cells.lookup n with | some c=>aN cells r ((n,c)::acc) | none=>aN cells r acc) else aN cells r acc
theorem gY {env:Env}:∀ (names:List (Str×Ip)) (acc:List (Str×Addr)),(∀ x∈names,x.2 = .free->(env.cells.lookup x.1).isSome=true) ->
 (forIn names acc fun (x:Str×Ip) (r:List (Str×Addr))=>(match x with | (name,kind)=>if (kind==G0)=true then do let c <- cellOf env name;pure (IB ((name,c)::r)) else pure (IB r):Sem (ForInStep (List (Str×Addr)))))=(pure (aN env.cells names acc):Sem (List (Str×Addr)))
 | [],acc,_=>rfl
 | (n,k)::r,acc,h=>by
  rw [K5];have ih:=fun acc'=>gY r acc' fun x hx=>h x (FN _ hx);unfold aN
  by_cases hk:(k==G0)=true
  ·obtain ⟨c,q⟩:=Il.mp (h (n,k) Gd (beq_iff_eq.mp hk));have j:env.cells.lookup n=some c:=q;have e1:cellOf env n=pure c:=by unfold cellOf;rw [j]
   simp only [hk,if_true,e1,j,pure_bind];exact ih _
  ·simp only [hk,if_false,pure_bind];exact ih _
theorem iW {scope:Scope} {env:Env} (h:∀ x∈scope.names,x.2 = .free->(env.cells.lookup x.1).isSome=true):closureFor scope env=pure (aN env.cells scope.names []):=by
 unfold closureFor;have e:=gY (env:=env) scope.names [] h;simp only [bind_pure];exact e
theorem cW {cells:List (Str×Addr)} {y:Str} {c:Addr}:∀ {names:List (Str×Ip)} {acc:List (Str×Addr)},(y,c)∈aN cells names acc->(y,c)∈acc∨(cells.lookup y=some c/\(y,G0)∈names)
 | [],acc,h => .inl h
 | (n,k)::r,acc,h=>by
  unfold aN at h
  by_cases hk:(k==G0)=true
  ·rw [if_pos hk] at h;have B:k = .free:=beq_iff_eq.mp hk;subst B
   cases F:cells.lookup n with
   | none =>
     rw [F] at h
     rcases cW h with z | ⟨j,q⟩
     ·exact .inl z
     ·exact .inr ⟨j,FN _ q⟩
   | some c' =>
     rw [F] at h
     rcases cW h with z | ⟨j,q⟩
     ·rcases Fo.mp z with e | z
      ·cases e
       exact .inr ⟨F,Gd⟩
      ·exact .inl z
     ·exact .inr ⟨j,FN _ q⟩
  ·rw [if_neg hk] at h
   rcases cW h with z | ⟨j,q⟩
   ·exact .inl z
   ·exact .inr ⟨j,FN _ q⟩
theorem cX {cells:List (Str×Addr)} {y:Str} {c:Addr} (j:cells.lookup y=some c):∀ {names:List (Str×Ip)} {acc:List (Str×Addr)},((y,c)∈acc∨(y,G0)∈names)->(y,c)∈aN cells names acc
 | [],acc,h=>by
  rcases h with h | h
  ·exact h
  ·simp at h
 | (n,k)::r,acc,h=>by
  unfold aN
  by_cases hk:(k==G0)=true
  ·rw [if_pos hk];have q:k = .free:=beq_iff_eq.mp hk;subst q
   cases hl:cells.lookup n with
   | none =>
     refine cX j ?_
     rcases h with h | h
     ·exact .inl h
     ·rcases Fo.mp h with e | h
      ·cases e;rw [hl] at j;cases j
      ·exact .inr h
   | some c' =>
     refine cX j ?_
     rcases h with h | h
     ·exact .inl (FN _ h)
     ·rcases Fo.mp h with e | h
      ·cases e;rw [hl] at j;cases j;exact .inl Gd
      ·exact .inr h
  ·rw [if_neg hk];refine cX j ?_
   rcases h with h | h
   ·exact .inl h
   ·rcases Fo.mp h with e | h
    ·cases e;exact absurd rfl hk
    ·exact .inr h
theorem cR:∀ (names:List (Str×Ip)) (n:Nat) (acc acc':List (Str×Addr)),Hy n names (acc++acc')=Hy n names acc++acc'
 | [],_,_,_=>rfl
 | (x,k)::r,n,acc,acc'=>by
  unfold Hy
  by_cases j:(k==Hs)=true
  ·rw [if_pos j,if_pos j];exact cR r (n+1) ((x,n)::acc) acc'
  ·rw [if_neg j,if_neg j];exact cR r n acc acc'
theorem cS:∀ {names:List (Str×Ip)} {n:Nat} {acc:List (Str×Addr)} {y:Str} {c:Addr},(y,c)∈Hy n names acc->(y,c)∈acc∨(n<=c/\(y,Hs)∈names)
 | [],_,_,_,_,h => .inl h
 | (x,k)::r,n,acc,y,c,h=>by
  unfold Hy at h
  by_cases hk:(k==Hs)=true
  ·rw [if_pos hk] at h;have j:k = .cell:=beq_iff_eq.mp hk;subst j
   rcases cS h with z | ⟨q,B⟩
   ·rcases Fo.mp z with e | z
    ·cases e;exact .inr ⟨Fl _,Gd⟩
    ·exact .inl z
   ·exact .inr ⟨Nat.le_of_succ_le q,FN _ B⟩
  ·rw [if_neg hk] at h
   rcases cS h with z | ⟨q,B⟩
   ·exact .inl z
   ·exact .inr ⟨q,FN _ B⟩
structure aZ (sc osc:Scope) (oN N':List Str) (fr:List (Option Nat)):Prop where
 kind:sc.kind = .function
 nd:(sc.names.map (·.1)).Nodup
 ndN:N'.Nodup
 free:∀ x∈sc.names,x.2 = .free->osc.names.lookup x.1=some .cell∨osc.names.lookup x.1=some .free
 len:fr.length=N'.length
 fr:∀ (i j:Nat) (x:Str),N'[i]? = some x->fr[i]? = some (some j)->oN[j]? = some x/\(x,G0)∈sc.names
noncomputable def inh (fr:List (Option Nat)) (σ:St):St:=fr.map fun o=>o.bind fun j=>(σ[j]?).join
noncomputable def b6 (X:Cx) (sc:Scope) (L:Addr):Env :=
 { scope:=relabel sc X.env,locals:=L,globals:=X.env.globals,cells:=Hy (L+1) sc.names (aN X.env.cells sc.names []),qual:=X.env.qual,func:=none,code:=X.env.code,frame:=X.env.frame,builtins:=X.env.builtins }
noncomputable def aE (X:Cx) (sc:Scope) (N':List Str) (s:tv) (H:Hp) (fp:List Addr):Cx :=
 { X with N:=N',s₀ := s,H₀ := H,env:=b6 X sc s.heap.objs.size,outer:=X.stack,stack:=X.stack,ex:=fp,fn:=fun x=>sc.names.lookup x==some .cell,pn := [],xe:=fun _ _=>False }
theorem aK:∀ {l:List (Str×Ip)} {x:Str} {k:Ip},(l.map (·.1)).Nodup->(x,k)∈l->l.lookup x=some k
 | (y,k')::r,x,k,nd,h=>by
  have nd':(y::r.map (·.1)).Nodup:=nd;obtain ⟨q,z⟩:=GC.mp nd';rw [HS]
  rcases Fo.mp h with e | hm
  ·cases e;simp
  ·have j:(x==y)=false:=by
    refine beq_eq_false_iff_ne.mpr fun e => ?_;subst e;exact q (Fw.mpr ⟨(x,k),hm,rfl⟩)
   rw [j];exact aK z hm
theorem cn {env:Env}:∀ {names:List (Str×Ip)} {x:Str},
 (names.map fun (n,k)=>if (k==G0&&env.scope.kind == .function&&env.kindOf n==some .cell) then (n,Hs) else (n,k)).lookup x =
   (names.lookup x).map fun k=>if (k==G0&&env.scope.kind == .function&&env.kindOf x==some .cell) then Hs else k
 | [],_=>rfl
 | (n,k)::r,x=>by
  have ih:=cn (env:=env) (names:=r) (x:=x);show List.lookup x ((if (k==G0&&env.scope.kind == .function&&env.kindOf n==some .cell)=true then (n,Hs) else (n,k))::_)=_
  rw [HS (a:=x) (b:=k)]
  by_cases hx:x=n
  ·subst hx;simp only [beq_self_eq_true];show _=some (if (k==G0&&env.scope.kind == .function&&env.kindOf x==some .cell)=true then Hs else k)
   by_cases j:(k==G0&&env.scope.kind == .function&&env.kindOf x==some .cell)=true
   ·rw [if_pos j,if_pos j,HS];simp only [beq_self_eq_true]
   ·rw [if_neg j,if_neg j,HS];simp only [beq_self_eq_true]
  ·have q:(x==n)=false:=beq_eq_false_iff_ne.mpr hx;rw [q]
   by_cases j:(k==G0&&env.scope.kind == .function&&env.kindOf n==some .cell)=true
   ·rw [if_pos j,HS,q];exact ih
   ·rw [if_neg j,HS,q];exact ih
section
variable {pins:List (Addr×Obj)} {σ:St} {H:Hp} {s:tv} {sc:Scope} {N':List Str} {fr:List (Option Nat)} {fp:List Addr}
theorem fB (I:Inv X pins σ H s) (B:aZ sc X.env.scope X.N N' fr):∀ x∈sc.names,x.2 = .free->(X.env.cells.lookup x.1).isSome=true:=fun x hx e=>by
 obtain ⟨c,j⟩:=I.ok.has x.1 (B.free x hx e);rw [j];rfl
theorem sN (I:Inv X pins σ H s) (f2:∀ b∈fp,bS X pins H b) (Y:∀ b∈fp,b < s.heap.objs.size) (B:aZ sc X.env.scope X.N N' fr) :
 Inv (aE X sc N' s H fp) [] (inh fr σ) H { s with heap:=NJ (s.heap.push { cls := .type "dict",data := .dict #[] }) sc.names }:=by
 have G:∀ b o,s.heap.get? b=some o->(NJ (s.heap.push { cls := .type "dict",data := .dict #[] }) sc.names).get? b=some o:=fun b o e=>LA _ _ b o (q7 _ e);have ok:=cellsFrom_ok sc.names (s.heap.push { cls := .type "dict",data := .dict #[] }) (s.heap.objs.size+1) [] ⟨fun _ _ hm=>(nomatch hm),KJ⟩ (by rw [Jw];exact Fl _)
 rw [Jw] at ok;have capp:Hy (s.heap.objs.size+1) sc.names (aN X.env.cells sc.names [])=Hy (s.heap.objs.size+1) sc.names []++aN X.env.cells sc.names []:=cR sc.names _ [] _;have cof:∀ x c,(b6 X sc s.heap.objs.size).cells.lookup x=some c->((x,c)∈Hy (s.heap.objs.size+1) sc.names []/\s.heap.objs.size < c)∨(X.env.cells.lookup x=some c/\(x,G0)∈sc.names):=fun x c e=>by
  have m:=GW e;have m':(x,c)∈Hy (s.heap.objs.size+1) sc.names (aN X.env.cells sc.names []):=m;rw [capp] at m'
  rcases FE.mp m' with z | z
  ·exact .inl ⟨z,(ok.empty x c z).2⟩
  ·rcases cW z with q | q
   ·simp at q
   ·exact .inr q
 have cOld:∀ x c,X.env.cells.lookup x=some c->c < s.heap.objs.size:=fun x c e=>by
  obtain ⟨v,q⟩:=I.cell x c e;exact q.lt
 have kindF:∀ x,(x,G0)∈sc.names->(b6 X sc s.heap.objs.size).kindOf x=some .cell∨(b6 X sc s.heap.objs.size).kindOf x=some .free:=fun x hx=>by
  have e1:sc.names.lookup x=some .free:=aK B.nd hx;have e2:(b6 X sc s.heap.objs.size).kindOf x=_:=cn (env:=X.env) (names:=sc.names) (x:=x);rw [e1] at e2;rw [e2]
  by_cases J:(G0==G0&&X.env.scope.kind == .function&&X.env.kindOf x==some .cell)=true
  ·exact .inl (by simp only [Jc,if_pos J])
  ·exact .inr (by simp only [Jc,if_neg J])
 have cellF:∀ x c,(x,G0)∈sc.names->X.env.cells.lookup x=some c->(b6 X sc s.heap.objs.size).cells.lookup x=some c:=fun x c hx J=>by
  have m:=cX (acc := []) J (.inr hx);have m2:(x,c)∈(b6 X sc s.heap.objs.size).cells:=by
   show (x,c)∈Hy (s.heap.objs.size+1) sc.names (aN X.env.cells sc.names []);rw [capp];exact FF _ m
  cases F:(b6 X sc s.heap.objs.size).cells.lookup x with
  | none =>
    exfalso
    have:∀ {l:List (Str×Addr)},(x,c)∈l->l.lookup x=none->False:=by
     intro l
     induction l with
     | nil=>intro h;simp at h
     | cons a r ih =>
       intro h e;obtain ⟨y,d⟩:=a;rw [HS] at e
       rcases Fo.mp h with z | z
       ·cases z;simp at e
       ·by_cases hxy:(x==y)=true
        ·rw [hxy] at e;cases e
        ·simp only [JO] at hxy;rw [hxy] at e;exact ih z e
    exact this m2 F
  | some c' =>
    rcases cof x c' F with ⟨z,_⟩ | ⟨z,_⟩
    ·rcases cS z with q | ⟨_,q⟩
     ·simp at q
     ·have a1:=aK B.nd hx;have a2:=aK B.nd q;rw [a1] at a2;cases a2
    ·rw [J] at z;rw [z]
 have kindC:∀ x,(b6 X sc s.heap.objs.size).kindOf x=some .cell->(x,Hs)∈sc.names∨(x,G0)∈sc.names:=fun x e=>by
  have e2:(b6 X sc s.heap.objs.size).kindOf x=_:=cn (env:=X.env) (names:=sc.names) (x:=x);rw [e2] at e
  cases F:sc.names.lookup x with
  | none=>rw [F] at e;cases e
  | some k =>
    rw [F] at e;have m:=GW F
    cases k with
    | cell=>exact .inl m
    | free=>exact .inr m
    | «local» => simp at e
    | globalImplicit=>simp at e
    | globalExplicit=>simp at e
 have kindFr:∀ x,(b6 X sc s.heap.objs.size).kindOf x=some .free->(x,G0)∈sc.names:=fun x e=>by
  have e2:(b6 X sc s.heap.objs.size).kindOf x=_:=cn (env:=X.env) (names:=sc.names) (x:=x);rw [e2] at e
  cases F:sc.names.lookup x with
  | none=>rw [F] at e;cases e
  | some k =>
    rw [F] at e;have m:=GW F
    cases k with
    | free=>exact m
    | cell=>simp at e
    | «local» => simp at e
    | globalImplicit=>simp at e
    | globalExplicit=>simp at e
 refine ⟨⟨I.ok.mod,B.kind,I.ok.glob,I.ok.blt,Fl _,fun y z c h1 h2 => ?_,fun y Z => ?_,fun y c hf h => ?_,I.ok.hd,I.ok.frames, .inl rfl,fun b O=>⟨?_,fun x c e => ?_⟩,fun b o e=>I.bs b o e, ?_,fun b o e O => ?_,fun b O => ?_,I.stack,I.stkFree⟩,
  rfl,I.bare,Un.kept G,⟨_,(Heap.Ns.new s.heap (.type "dict")).keeps (LA _ _),fun i x v h1 h2 h3 => ?_⟩,fun y c h => ?_,I.hok.fresh (Fl _),fun y c h => ?_,fun p hp=>absurd (show p∈([]:List (Addr×Obj)) from hp) (by simp),I.hok.kept G, ?_⟩
 ·rcases cof y c h1 with ⟨a1,a2⟩ | ⟨a1,a2⟩
  ·rcases cof z c h2 with ⟨b1,b2⟩ | ⟨b1,b2⟩
   ·exact name_of_addr ok.apart a1 b1
   ·exact absurd (cOld z c b1) (Oo.mpr (IV a2))
  ·rcases cof z c h2 with ⟨b1,b2⟩ | ⟨b1,b2⟩
   ·exact absurd (cOld y c a1) (Oo.mpr (IV b2))
   ·exact I.ok.inj y z c a1 b1
 ·have D6:(y,Hs)∈sc.names∨(y,G0)∈sc.names:=by
   rcases Z with Z | Z
   ·exact kindC y Z
   ·exact .inr (kindFr y Z)
  rcases D6 with q | q
  ·exact Il.mp (Ju sc.names _ _ (.inl (aK B.nd q)))
  ·obtain ⟨c,J⟩:=Il.mp (fB I B _ q rfl);exact ⟨c,cellF y c q J⟩
 ·have D7:(sc.names.lookup y==some .cell)=true:=hf;have D4:sc.names.lookup y=some .cell:=by simpa using D7
  rcases cof y c h with ⟨_,a2⟩ | ⟨_,a2⟩
  ·exact IV a2
  ·rw [aK B.nd a2] at D4;cases D4
 ·exact FR (Y b O)
 ·rcases cof x c e with ⟨_,a2⟩ | ⟨a1,_⟩
  ·exact Gp (Nat.lt_trans (Y b O) a2)
  ·exact (f2 b O).2.2.2.2.1 x c a1
 ·exact Ho I.ok.bsz I.sz
 ·obtain ⟨f0,f1,f3,f4,f5,f6⟩:=f2 b O
  rcases f4 with z | z
  ·exact I.ok.noex b o e z
  ·exact absurd (FW (FW (Fg e) I.ok.bsz) z) (Gy _)
 ·obtain ⟨f0,f1,f3,f4,f5,f6⟩:=f2 b O;exact fun z=>(Fo.mp (I.stkSub b z)).elim f1 f3
 ·have hi:∃ j,fr[i]? = some (some j) /\ σ[j]? = some (some v):=by
   unfold inh at h2;rw [FX] at h2
   cases e:fr[i]? with
   | none=>rw [e] at h2;cases h2
   | some o =>
     rw [e] at h2
     cases o with
     | none=>cases h2
     | some j =>
       refine ⟨j,rfl, ?_⟩;have L:some ((σ[j]?).join)=some (some v):=h2
       cases e' : σ[j]? with
       | none=>rw [e'] at L;cases L
       | some w=>rw [e'] at L;cases L;rfl
  obtain ⟨j,e1,e2⟩:=hi;obtain ⟨n1,n2⟩:=B.fr i j x h1 e1;obtain ⟨m,hn,F⟩:=I.loc;have hv:Vis X.env.scope x := .inr (B.free (x, .free) n2 rfl);obtain ⟨u,ru,lk⟩:=F j x v n1 e2 hv;refine ⟨u,ru, .inr ⟨kindF x n2, ?_⟩⟩
  rcases lk with ⟨k1,_⟩ | ⟨_,c,J,U⟩
  ·have D5:X.env.scope.names.lookup x=some .local:=k1
   rcases B.free (x, .free) n2 rfl with z | z
   ·rw [D5] at z;cases z
   ·rw [D5] at z;cases z
  ·exact ⟨c,cellF x c n2 J,U.keeps G⟩
 ·rcases cof y c h with ⟨a1,a2⟩ | ⟨a1,a2⟩
  ·exact ⟨_,(ok.empty y c a1).1⟩
  ·obtain ⟨v,q⟩:=I.cell y c a1;exact ⟨v,q.keeps G⟩
 ·rcases cof y c h with ⟨a1,a2⟩ | ⟨a1,a2⟩
  ·exact I.hok.fresh (IV a2)
  ·exact I.freeC y c a1
 ·show (inh fr σ).length=N'.length;unfold inh;rw [Fd];exact B.len
theorem kG {σ':St} {H':Hp} {s':tv} {h':Heap} (I:Inv X pins σ H s) (f2:∀ b∈fp,bS X pins H b) (J:Inv (aE X sc N' s H fp) [] σ' H' s') (hs:GP s.heap.objs.size s'.heap h') :
 Inv X pins σ H' { s' with heap:=h' }:=by
 have u:Un (frs X.stack) fp H H' s.heap s'.heap:=J.base;have ne:∀ b o,s.heap.get? b=some o->b≠s.heap.objs.size:=fun b o e=>FR (Fg e);refine I.call' (s' := { s' with heap:=h' }) (ch:=fp) J.os ⟨fun b o e n j hx => ?_,fun b o e n j hx => ?_,u.free,fun b o e hx => ?_,u.tups,u.frzs,u.tbls⟩ (fun b v e => ?_) J.bare fun b j => ?_
 ·exact (hs.2 b (ne b o e)).trans (u.keep b o e n j hx)
 ·obtain ⟨sl,q⟩:=u.slot b o e n j hx;exact ⟨sl,(hs.2 b (ne b o e)).trans q⟩
 ·obtain ⟨o',q⟩:=u.there b o e hx;exact ⟨o',(hs.2 b (ne b o e)).trans q⟩
 ·refine (J.hok b v e).stay (fun c w F q=>(hs.2 c ?_).trans q) (fun _ q=>q) fun _ _ q=>q;have fr:H' s.heap.objs.size=none:=J.free
  rcases F with z | z
  ·rw [z];intro B;rw [B,fr] at e;cases e
  ·intro B;rw [B,fr] at z;cases z
 ·obtain ⟨f0,f1,O,f4,G,L⟩:=f2 b j;exact ⟨f4,f1,G,L⟩
theorem lu {Q:Env->tv->Prop} {E:gV->tv->Prop} {M:JH} {A:G8}
 (h:Q { scope:=sc,locals:=s.heap.objs.size,globals:=X.env.globals,cells:=Hy (s.heap.objs.size+1) sc.names (aN X.env.cells sc.names []),qual:=X.env.qual,func:=none,code:=X.env.code,frame:=X.env.frame,builtins:=X.env.builtins }
   { s with heap:=NJ (s.heap.push { cls := .type "dict",data := .dict #[] }) sc.names }) :
 Fq M A (LM sc X.env.globals (aN X.env.cells sc.names []) [] X.env.qual none .none (some X.env)) Q E s:=by
 simp only [LM,MX,if_true];refine e6 (wpAny_alloc ?_);refine e6 (wpAny_layCells _ (fun name kind cells=>by cases hkc:kind==Hs <;> simp [hkc]) _ _ _ _ ?_)
 rw [show ({ s with heap:=s.heap.push { cls := .type "dict",data := .dict #[] } }:tv).heap.objs.size=s.heap.objs.size+1 from Jw ..]
 exact e6 (D1 (D1 h))
theorem mf (hc:X.calm=true) {elt target iter:Expr} {ifs:List Expr} {rest:List Gk} {pos:Pos} {E:gV->tv->Prop}
 (hx:∀ e s,X.xe e s->False) (B:aZ sc X.env.scope X.N N' fr) (ha:∀ g',rest[0]? = some g'->g'.is_async=0) {wi:TI} (hi:PI X target iter wi) {g:TG} {tb:Addr->TC}
 (hg:∀ s H fp,PG (aE X sc N' s H fp) target g)
 (j:∀ s H fp p,PB (aE X sc N' s H fp) (fun k=>bf ifs (aE X sc N' s H fp).env >>= fun ok=>if ok=true then aY elt (⟨target,iter,ifs,0⟩::rest) sc pos 0 (.ref p) (aE X sc N' s H fp).env k else k) (tb p))
 {Nn:Addr->St->Hp->Prop} {RR:gV->Addr->NF->tv->Prop} (I:Inv X pins σ H s)
 (h:wi σ H fun J H1 => ∀ p,H1 p=none->cm J g (tb p) (Nn p) (inh fr σ) (upd H1 p (.lst [])))
 (hR:∀ p fp s3 L s' σ' H' f,Inv X pins σ L s3->(∀ b∈fp,bS X pins L b)->Inv (aE X sc N' s3 L fp) [] σ' H' s'->Nn p σ' H'->RR (.ref p) s3.heap.objs.size (.ok f) s') :
 Fq (model X.prog X.w) X.A (eval iter X.env) (fun x s₁ => Fq (model X.prog X.w) X.A (Lh x) (fun it s₂ => Fq (model X.prog X.w) X.A (newList []) (fun acc s₃ =>
  Fq (model X.prog X.w) X.A (LM sc X.env.globals (aN X.env.cells sc.names []) [] X.env.qual none .none (some X.env)) (fun cenv s₄ =>
   Ja (model X.prog X.w) X.A (.compStart (.ListComp elt (⟨target,iter,ifs,0⟩::rest) sc pos) 0 it acc { cenv with scope:=relabel sc X.env }) (RR acc cenv.locals) s₄) E s₃) E s₂) E s₁) E s:=by
 refine nox hx (thn (hi pins s σ H _ I h) fun v s1 h1=>nox hx (thn h1 fun itv s2 h2 => ?_));obtain ⟨it,fp,tn,J,H2,e,Z,T,q,f2,hw⟩:=h2;subst e;have hf:H2 s2.heap.objs.size=none:=Z.hok.fresh (Fl _);refine JT ?_;have I3:Inv X pins σ (upd H2 s2.heap.objs.size (.lst [])) { s2 with heap:=s2.heap.push { cls := .type "list",dict:=none,data := .seq ([]:List gV).toArray } } :=
  Z.laid (t':=s2.toks) (fun b u e=>q7 _ e) (Fl _) ⟨Ha _,[],0, .nil,Fh _ rfl⟩
 have fneq:∀ b∈fp,b≠s2.heap.objs.size:=fun b j z=>by
  obtain ⟨o,e,_⟩:=T.obj _ _ q b j;exact absurd (Fg e) (by rw [z];exact Gy _)
 have O:∀ b∈fp,bS X pins (upd H2 s2.heap.objs.size (.lst [])) b:=fun b j=>⟨by rw [ai (fneq b j)];exact (f2 b j).1,(f2 b j).2⟩
 have U:∀ b∈fp,b < (s2.heap.push { cls := .type "list",dict:=none,data := .seq ([]:List gV).toArray }).objs.size:=fun b j=>by
  obtain ⟨o,e,_⟩:=T.obj _ _ q b j;rw [Jw];exact Nat.lt_succ_of_lt (Fg e)
 have Y:tn 0 (s2.heap.push { cls := .type "list",dict:=none,data := .seq ([]:List gV).toArray }):=T.keep _ _ _ q fun b _ o e=>q7 _ e;refine lu ?_;have G:=sN (N':=N') I3 O U B;have F:=T.keep _ (h':=NJ (({ s2 with heap:=s2.heap.push { cls := .type "list",dict:=none,data := .seq ([]:List gV).toArray } }:tv).heap.push { cls := .type "dict",data := .dict #[] }) sc.names) _ Y fun b _ o e=>LA _ _ b o (q7 _ e)
 have f4:∀ b∈fp,bS (aE X sc N' { s2 with heap:=s2.heap.push { cls := .type "list",dict:=none,data := .seq ([]:List gV).toArray } } (upd H2 s2.heap.objs.size (.lst [])) fp) [] (upd H2 s2.heap.objs.size (.lst [])) b:=fun b j =>
  ⟨(O b j).1,(G.ok.exf b j).1,G.ok.exfs b j, .inl j,(G.ok.exf b j).2,fun p hp=>absurd (show p∈([]:List (Addr×Obj)) from hp) (by simp)⟩
 have loop:=kE (X:=aE X sc N' { s2 with heap:=s2.heap.push { cls := .type "list",dict:=none,data := .seq ([]:List gV).toArray } } (upd H2 s2.heap.objs.size (.lst [])) fp) (fun _ _ z=>z) hc
  (elt:=elt) (pos:=pos) (scope:=sc) (gens:=⟨target,iter,ifs,0⟩::rest) (d := 0) (acc := .ref s2.heap.objs.size) rfl (fun g' e=>ha g' (by simpa using e)) (hg _ _ _) (j _ _ _ _) G T F f4 (hw _ hf)
 refine IW (iV (R:=fun r s'=>match r with | .ok _ => ∃ σ' H',Inv (aE X sc N' { s2 with heap:=s2.heap.push { cls := .type "list",dict:=none,data := .seq ([]:List gV).toArray } } (upd H2 s2.heap.objs.size (.lst [])) fp) [] σ' H' s'/\Nn s2.heap.objs.size σ' H' | .error _=>False)
  (gens:=⟨target,iter,ifs,0⟩::rest) (d := 0) rfl loop (T.self _ 0 _ _ _ F loop)) fun r s5 hr => ?_
 cases r with
 | error e=>exact hr.elim
 | ok f =>
   obtain ⟨σ5,H5,I5,n5⟩:=hr;exact hR _ fp _ _ s5 σ5 H5 f I3 O I5 n5
noncomputable def qD (wi:TI) (g:TG) (tb:Addr->TC) (fr:List (Option Nat)):TE:=fun σ H Q=>wi σ H fun J H1 => ∀ p,H1 p=none->cm J g (tb p) (fun _ H2=>Q (.ref p) H2) (inh fr σ) (upd H1 p (.lst []))
theorem kH (B:aZ sc X.env.scope X.N N' fr):∀ x∈sc.names,x.2 = .local->sc.names.lookup x.1=some .local:=fun x hx e=>by
 obtain ⟨n,k⟩:=x;have e':k = .local:=e;subst e';exact aK B.nd hx
theorem gZ (z:X.calm=true) {elt target iter:Expr} {ifs:List Expr} {rest:List Gk} {pos:Pos}
 (hx:∀ e s,X.xe e s->False) (B:aZ sc X.env.scope X.N N' fr) (F:∀ g',rest[0]? = some g'->g'.is_async=0) {wi:TI} (hi:PI X target iter wi) {g:TG} {tb:Addr->TC}
 (G:∀ s H fp,PG (aE X sc N' s H fp) target g)
 (L:∀ s H fp p,PB (aE X sc N' s H fp) (fun k=>bf ifs (aE X sc N' s H fp).env >>= fun ok=>if ok=true then aY elt (⟨target,iter,ifs,0⟩::rest) sc pos 0 (.ref p) (aE X sc N' s H fp).env k else k) (tb p))
 (hs:∀ x,Hw iter X.env x=pure x) :
 PE X (.ListComp elt (⟨target,iter,ifs,0⟩::rest) sc pos) (qD wi g tb fr):=by
 intro pins s σ H Q I h;rw [eval_ListComp];refine KS (use:=none) rfl hs (iW (fB I B)) B.kind (kH B) (mf (Nn:=fun p _ H2=>Q (.ref p) H2) (RR:=fun acc C=>compPost (model X.prog X.w) X.A X.xe none (EP X pins σ Q) acc C) z hx B F hi G L I h ?_);intro p fp s3 Z s' σ' H' f O U J q;obtain ⟨m,Y,_⟩:=J.loc;exact ⟨m,Y,fun h' j=>⟨.ref p,H',kG O U J j,rfl,q⟩⟩
theorem iX (hc:X.calm=true) {elt target iter:Expr} {ifs:List Expr} {rest:List Gk} {pos pos' spos:Pos} {x:Str} {i:Nat}
 (hx:∀ e s,X.xe e s->False) (B:aZ sc X.env.scope X.N N' fr) (ha:∀ g',rest[0]? = some g'->g'.is_async=0) {wi:TI} (hi:PI X target iter wi) {g:TG} {tb:Addr->TC}
 (hg:∀ s H fp,PG (aE X sc N' s H fp) target g)
 (F:∀ s H fp p,PB (aE X sc N' s H fp) (fun k=>bf ifs (aE X sc N' s H fp).env >>= fun ok=>if ok=true then aY elt (⟨target,iter,ifs,0⟩::rest) sc pos 0 (.ref p) (aE X sc N' s H fp).env k else k) (tb p))
 (hs:∀ x,Hw iter X.env x=pure x) (G:PG X (.Name x pos') (iI i))
 (L:Jm (.ListComp elt (⟨target,iter,ifs,0⟩::rest) sc pos) (some (.Name x pos')) spos.line X.env=pure true) :
 PS X (.Assign [.Name x pos'] (.ListComp elt (⟨target,iter,ifs,0⟩::rest) sc pos) spos) (qo (qD wi g tb fr) (iI i)):=by
 intro pins s σ H D I h;rw [exec_Assign_Name_used _ _ _ _ L];refine e6 (IE (e6 ?_));show Fq _ X.A (do let _ <- comprehension (.ListComp elt (⟨target,iter,ifs,0⟩::rest) sc pos) sc X.env _ (newList []) false (eval iter X.env) (some (assign (.Name x pos') X.env))) _ _ s
 refine e6 (Gw (KS (use:=some (assign (.Name x pos') X.env)) (Q:=fun _ s'=>SP X pins D .next s') rfl hs (iW (fB I B)) B.kind (kH B)
  (mf (Nn:=fun p _ H2=>D.nx (σ.set i (some (.ref p))) H2) (RR:=fun acc C=>compPost (model X.prog X.w) X.A X.xe (some (assign (.Name x pos') X.env)) (fun _ s'=>SP X pins D .next s') acc C) hc hx B ha hi hg F I h ?_)) (fun _ s' hq=>D1 (D1 hq)) fun _ _ e=>e)
 intro p fp s3 H3 s' σ' H' f j f3 J q;obtain ⟨m,⟨o,es,ep,ho,hd,hk,hm⟩,_⟩:=J.loc;have I4:Inv X pins σ H' s':=kG (h':=s'.heap) j f3 J ⟨rfl,fun _ _=>rfl⟩;have hL:(aE X sc N' s3 H3 fp).env.locals=s3.heap.objs.size:=rfl;rw [hL] at ho;have O:H' s3.heap.objs.size=none:=J.free;have neL:s3.heap.objs.size≠X.env.locals:=Gp j.lt;have nfs:s3.heap.objs.size∉X.fs:=j.nofs (Fl _);have I5:Inv X (pins++[(s3.heap.objs.size,o)]) σ H' s':=I4.pins_of fun pr U=>by
  rcases FE.mp U with z | z
  ·exact I4.pin pr (FF _ z)
  ·have e:pr=(s3.heap.objs.size,o):=by simpa using z
   subst e;exact ⟨ho,O,neL,nfs,fun v z=>by rw [hd] at z;cases z⟩
 show Fq _ X.A (assign (.Name x pos') X.env (.ref p)) _ _ _;refine thn (G _ s' σ H' (.ref p) (.ref p) D.nx I5 rfl q) fun _ s6 ⟨σ6,H6,I6,q6⟩ => ?_;obtain ⟨Y,Z,_⟩:=I6.pin (s3.heap.objs.size,o) (FF _ (FF _ (by simp)))
 refine ⟨m,⟨o,es,ep,Y,hd,hk,hm⟩,fun h' D4=>⟨σ6,H6, ?_,q6⟩⟩;refine (I6.unpinned).turned (t':=s6.toks) (it:=s3.heap.objs.size) (fun b o F e=>(D4.2 b F).trans e) Z neL (.inr j.sz) (fun y c e z => ?_) fun pr U z => ?_
 ·obtain ⟨v,q⟩:=j.cell y c e;exact absurd q.lt (by rw [z];exact Gy _)
 ·exact absurd (Fg (j.pin pr U).1) (by rw [z];exact Gy _)
end
end
end
end L2
namespace L2
namespace Zp
open PySem PySem.Spec PyProof.Rows
def At (t:Bool) (h:Heap) (i l:Addr) (k:Nat):Prop:=match t with | true=>h.IsTupleIter i l k | false=>h.IsListIter i l k
def Sq (t:Bool) (h:Heap) (l:Addr) (xs:Array gV):Prop:=match t with | true=>h.IsTuple l xs | false=>h.IsList l xs
theorem At.up {t:Bool} {h h':Heap} {i l:Addr} {k:Nat} (x:At t h i l k) (e:∀ o,h.get? i=some o->h'.get? i=some o):At t h' i l k:=by
 cases t <;> (obtain ⟨o,ho,r⟩:=x;exact ⟨o,e o ho,r⟩)
theorem At.lt {t:Bool} {h:Heap} {i l:Addr} {k:Nat} (x:At t h i l k):∃ o,h.get? i=some o /\ ∀ v,o.data ≠ .cell v:=by
 cases t <;> (obtain ⟨o,ho,j,hd⟩:=x;exact ⟨o,ho,fun v z=>by rw [hd] at z;cases z⟩)
section
variable {prog:FI} {w:G2} {A:G8} {E:gV->tv->Prop} {s:tv}
open Builtin.SmallTypes in
theorem vG {i l:Addr} {k:Nat} {xs:Array gV} {x:gV} {Q:gV->tv->Prop} (hi:s.heap.IsTupleIter i l k) (L:s.heap.IsTuple l xs) (hx:xs[k]? = some x)
 (q:∀ h',h'.IsTupleIter i l (k+1)->GP i s.heap h'->Q x { s with heap:=h' }):Fq (model prog w) A (nextOf (.ref i)) Q E s:=by
 obtain ⟨ob,z,B,j⟩:=id hi;obtain ⟨oq,G,_,nq,J⟩:=L;unfold nextOf;refine e6 (FY (name:=Gf "__next__") hi.typeIs HY (FZ HY hi.typeIs Ke ?_ (K6 _)));refine e6 (m:=field (.ref i) 0) (Gi z j (x := .ref l) rfl ?_);refine (if_neg (c:=(FA l==He)=true) Fp) ▸ ?_;refine e6 (m:=field (.ref i) 1) (Gi z j (x := .int k 0) rfl ?_);refine e6 (m:=seqItems? (.ref l)) (LN G J ?_);simp only [Gr,hx];refine e6 (wpAny_setField z j (by simp) (D1 ⟨x,rfl,D1 (q _ ⟨_,LF _ z (Obj.isFreed_of_fields (MY j _)),(Obj.cls_mapFields ..).trans B, ?_⟩ (Mq ..))⟩))
 rw [MY j];simp [Ik]
open Builtin.SmallTypes in
theorem yA {i l:Addr} {k:Nat} {xs:Array gV} {Q:gV->tv->Prop} (J:A.handled=none) (hi:s.heap.IsTupleIter i l k) (L:s.heap.IsTuple l xs) (hx:xs[k]? = none)
 (q:∀ h' e,NW i s.heap h'->(∃ o,h'.get? e=some o/\o.cls = .type "StopIteration")->E (.ref e) { s with heap:=h' }):Fq (model prog w) A (nextOf (.ref i)) Q E s:=by
 obtain ⟨ob,j,O,z⟩:=id hi;obtain ⟨oq,B,_,nq,G⟩:=L;unfold nextOf;refine e6 (FY (name:=Gf "__next__") hi.typeIs HY (FZ HY hi.typeIs Ke ?_ (K6 _)));refine e6 (m:=field (.ref i) 0) (Gi j z (x := .ref l) rfl ?_);refine (if_neg (c:=(FA l==He)=true) Fp) ▸ ?_;refine e6 (m:=field (.ref i) 1) (Gi j z (x := .int k 0) rfl ?_);refine e6 (m:=seqItems? (.ref l)) (LN B G ?_);simp only [Gr,hx];refine e6 (Hz (e6 (wpAny_setField j z (by simp) ?_)))
 refine e6 (m:=Oq (.type "StopIteration") []) ?_;simp only [Oq,Ot];refine e6 (Gz ?_ (by size_fits))
 refine e6 (m:=IS _ _) (HR (a:=He) (by first | rfl | (simp only [IS];rfl)) (Gz ?_ (by size_fits)))
 simp only [raiseNew];refine e6 (Mz ?_)
 first | rw [show A.in1.handled=none from J] | rw [J]
 exact e6 (D1 (LO (q _ _ (((Mq ..).extBut.push _).push _) ⟨_,Fh _ rfl,rfl⟩)))
open Builtin.SmallTypes in
theorem nx_item {t:Bool} {i l:Addr} {k:Nat} {xs:Array gV} {x:gV} {Q:gV->tv->Prop} (hi:At t s.heap i l k) (j:Sq t s.heap l xs) (hx:xs[k]? = some x)
 (q:∀ h',At t h' i l (k+1)->GP i s.heap h'->Q x { s with heap:=h' }):Fq (model prog w) A (nextOf (.ref i)) Q E s:=by
 cases t with
 | true=>exact vG hi j hx q
 | false=>exact wpAny_nextOf_list_item hi j hx q
open Builtin.SmallTypes in
theorem nx_end {t:Bool} {i l:Addr} {k:Nat} {xs:Array gV} {Q:gV->tv->Prop} (j:A.handled=none) (hi:At t s.heap i l k) (z:Sq t s.heap l xs) (hx:xs[k]? = none)
 (q:∀ h' e,NW i s.heap h'->(∃ o,h'.get? e=some o/\o.cls = .type "StopIteration")->E (.ref e) { s with heap:=h' }):Fq (model prog w) A (nextOf (.ref i)) Q E s:=by
 cases t with
 | true=>exact yA j hi z hx q
 | false=>exact wpAny_nextOf_list_end j hi z hx q
noncomputable def itO (t:Bool) (l:Addr):Obj:=match t with | true => { cls := .type "tuple_iterator",data := .fields #[.ref l, .int 0 0] } | false => { cls := .type "list_iterator",data := .fields #[.ref l, .int 0 0] }
theorem at_new {t:Bool} {h:Heap} {i l:Addr} (e:h.get? i=some (itO t l)):At t h i l 0:=by
 cases t <;> exact ⟨_,e,rfl,rfl⟩
end
end Zp
end L2
namespace L2
open PySem PySem.Spec PyProof.Rows
section
section
variable {X:Cx} {pins:List (Addr×Obj)} {σ:St} {H:Hp} {s:tv} {h':Heap}
theorem Inv.turnedL {t':Nat} {fp:List Addr} (I:Inv X pins σ H s) (hf:∀ b∈fp,bS X pins H b) (k:∀ b o,b∉fp->s.heap.get? b=some o->h'.get? b=some o):Inv X pins σ H { s with heap:=h',toks:=t' }:=by
 have nit:∀ b u,H b=some u->b∉fp:=fun b u e z=>by rw [(hf b z).1] at e;cases e
 refine I.step (g':=s.gens) (d':=s.drawn) (ch:=fp) (fun b B => ?_) (fun b o _ _ j e _=>k b o j e) (fun b o _ _ j e _=>⟨o.slots,k b o j e⟩) (fun _ _ _ _ n=>n)
  (fun b o j e=>⟨o,k b o j e⟩) (fun _ _ e=>e) (fun _ _ _ e=>e) (fun b ps e=>⟨#[],by rw [e];simp⟩) (fun m hm => ?_) (fun b u e => ?_) I.bare
 ·obtain ⟨_,f1,_,F,f4,G⟩:=hf b B;exact ⟨F,f1,f4,G⟩
 ·obtain ⟨o,es,ep,ho,r⟩:=hm;exact ⟨o,es,ep,k _ o (fun z=>(hf _ z).2.1 rfl) ho,r⟩
 ·refine (I.hok b u e).stay (fun c v j q=>k c v ?_ q) (fun _ q=>q) fun _ _ q=>q
  rcases j with z | z
  ·rw [z];exact nit b u e
  ·exact nit c _ z
end
def SqV (K:Frag) (t:Bool) (H:Hp) (a:Addr) (xs:List V):Prop:=match t with | true=>SqT K H a xs | false=>SqL K H a xs
theorem Inv.sqv {X:Cx} {pins:List (Addr×Obj)} {σ:St} {H:Hp} {s:tv} {t:Bool} {a:Addr} {xs:List V} (I:Inv X pins σ H s) (h:SqV X.K t H a xs):∃ its:List gV,Vals xs its/\Zp.Sq t s.heap a its.toArray:=by
 cases t with
 | true=>obtain ⟨its,r,p,_⟩:=I.tuple h;exact ⟨its,r,p⟩
 | false=>obtain ⟨its,r,p,_⟩:=I.list h;exact ⟨its,r,p.isList⟩
theorem Inv.sqv_inj {X:Cx} {pins:List (Addr×Obj)} {σ:St} {H:Hp} {s:tv} {t:Bool} {a:Addr} {xs ys:List V} (I:Inv X pins σ H s) (h:SqV X.K t H a xs) (h':SqV X.K t H a ys):xs=ys:=by
 cases t with
 | true=>exact I.tuple_inj h h'
 | false=>exact I.list_inj h h'
end
end L2
namespace L2
namespace Zp
open PySem PySem.Spec PyProof.Rows
end Zp
open PySem PySem.Spec PyProof.Rows
end L2
namespace L2
namespace En
open PySem PySem.Spec PyProof.Rows
section
variable {prog:FI} {w:G2} {A:G8} {E:gV->tv->Prop} {s:tv}
open Builtin.SmallTypes Zp in
theorem Ax {z i a:Addr} {t:Bool} {k:Nat} {xs:Array gV} {x old:gV} {Q:gV->tv->Prop} (U:Lr s.heap z i k old) (hi:At t s.heap i a k) (ha:Sq t s.heap a xs) (hx:xs[k]? = some x) (j:z≠i)
 (q:∀ h',NK h' z i ((k:Int)+1) x s.heap.objs.size->At t h' i a (k+1)->h'.get? s.heap.objs.size=some { cls := .type "tuple",data := .seq #[.int k s.toks,x] } ->
   (∀ b o,b≠z->b≠i->s.heap.get? b=some o->h'.get? b=some o)->Q (.ref s.heap.objs.size) { s with heap:=h',toks:=s.toks+1 }) :
 Fq (model prog w) A (GR.«enumerate.__next__» ⟨[.ref z],[]⟩) (fun fin s' => ∃ v,fin = .done (.ret v)/\Q v s') E s:=by
 obtain ⟨B,g,d,tk,os⟩:=s;refine e6 (m:=field (.ref z) 2) (Gi U rfl (x := .ref i) rfl (e6 (nx_item hi ha hx fun g1 i1 s1 => ?_)));have S1:GP i B g1:=s1;clear s1;have Y:Lr g1 z i k old:=(S1.2 z j).trans U;refine e6 (m:=field (.ref z) 3) (Gi (s:=⟨g1,g,d,tk,os⟩) Y rfl (x:=Ik k) rfl ?_);refine e6 (m:=field (.ref z) 4) (Gi (s:=⟨g1,g,d,tk,os⟩) Y rfl (x := .none) rfl ?_);refine e6 (m:=mkInt k) (wpAny_mkInt ?_);refine e6 (m:=setField (.ref z) 3 (Ik ((k:Int)+1))) (FK (s:=⟨g1,g,d,tk+1,os⟩) Y (by simp) fun g2 z2 s2 => ?_)
 have Z:GP z g1 g2:=s2;have Z2:Lr g2 z i ((k:Int)+1) old:=z2;clear s2 z2;refine e6 (m:=setField (.ref z) 4 .none) (FK (s:=⟨g2,g,d,tk+1,os⟩) Z2 (by simp) fun g3 z3 s3 => ?_)
 have S3:GP z g2 g3:=s3;have Z3:Lr g3 z i ((k:Int)+1) old:=z3;clear s3 z3;refine e6 (m:=Ot [.int k tk,x]) (Jx ?_);have G:Lr (g3.push { cls := .type "tuple",data := .seq #[.int k tk,x] }) z i ((k:Int)+1) old:=q7 _ Z3;have sz:g3.objs.size=B.objs.size:=by rw [S3.1,Z.1,S1.1]
 have zl:z < B.objs.size:=Fg U;have T4:(g3.push { cls := .type "tuple",data := .seq #[.int k tk,x] }).get? B.objs.size=some { cls := .type "tuple",data := .seq #[.int k tk,x] }:=by rw [<- sz];exact Fh _ rfl
 have K4:∀ b o,b≠z->b≠i->B.get? b=some o->(g3.push { cls := .type "tuple",data := .seq #[.int k tk,x] }).get? b=some o:=fun b o bz bi e =>
  q7 _ (S3.extBut b o bz (Z.extBut b o bz (S1.extBut b o bi e)))
 have I4:At t (g3.push { cls := .type "tuple",data := .seq #[.int k tk,x] }) i a (k+1):=i1.up fun o e=>q7 _ (S3.extBut i o j.symm (Z.extBut i o j.symm e));rw [sz];generalize g3.push { cls := .type "tuple",data := .seq #[.int k tk,x] }=F at G T4 K4 I4;refine e6 (m:=ownedTupleIsFree (.ref z)) ?_;unfold ownedTupleIsFree;refine e6 (Gi (s:=⟨F,g,d,tk+1,os⟩) G rfl (x := .none) rfl (D1 ?_));simp only [if_true];refine e6 (Hz (e6 (Gi (s:=⟨F,g,d,tk+1,os⟩) G rfl (x:=old) rfl (e6 (FK (s:=⟨F,g,d,tk+1,os⟩) G (by simp) fun J z5 s5 => ?_)))))
 have S5:GP z F J:=s5;have Z5:Lr J z i ((k:Int)+1) x:=z5;clear s5 z5;refine e6 (m:=ownedTupleHandOut (.ref z) (.ref B.objs.size)) ?_;unfold ownedTupleHandOut;refine e6 (FK (s:=⟨J,g,d,tk+1,os⟩) Z5 (by simp) fun L z6 s6 => ?_)
 have S6:GP z J L:=s6;have Z6:NK L z i ((k:Int)+1) x B.objs.size:=z6;clear s6 z6;refine FK (s:=⟨L,g,d,tk+1,os⟩) Z6 (by simp) fun O z7 s7 => ?_
 have S7:GP z L O:=s7;have Z7:NK O z i ((k:Int)+1) x B.objs.size:=z7;clear s7 z7;have up:∀ b o,b≠z->F.get? b=some o->O.get? b=some o:=fun b o bz e=>S7.extBut b o bz (S6.extBut b o bz (S5.extBut b o bz e));exact e6 (NX (D1 ⟨_,rfl,q O Z7 (I4.up fun o e=>up i o j.symm e) (up _ _ (Gp zl) T4) fun b o bz bi e=>up b o bz (K4 b o bz bi e)⟩))
theorem nxt_item {z i a:Addr} {t:Bool} {k:Nat} {xs:Array gV} {x old:gV} {Q:Option gV->tv->Prop} (B:Lr s.heap z i k old) (hi:Zp.At t s.heap i a k) (G:Zp.Sq t s.heap a xs) (hx:xs[k]? = some x) (j:z≠i)
 (q:∀ h',NK h' z i ((k:Int)+1) x s.heap.objs.size->Zp.At t h' i a (k+1)->h'.get? s.heap.objs.size=some { cls := .type "tuple",data := .seq #[.int k s.toks,x] } ->
   (∀ b o,b≠z->b≠i->s.heap.get? b=some o->h'.get? b=some o)->Q (some (.ref s.heap.objs.size)) { s with heap:=h',toks:=s.toks+1 }) :
 Fq (model prog w) A (Ij (.ref z)) Q E s:=by
 have ty:s.TypeIs (.ref z) "enumerate" := ⟨_,B,rfl⟩;unfold Ij;exact e6 (Ht (FY (name:=Gf "__next__") ty IG (FZ IG ty Ls
  (Ax B hi G hx j fun h' a1 a2 J L=>D1 (q h' a1 a2 J L)) (L5 _))))
theorem nxt_end {z i a:Addr} {t:Bool} {k:Nat} {xs:Array gV} {old:gV} {Q:Option gV->tv->Prop} (B:A.handled=none) (j:Lr s.heap z i k old) (hi:Zp.At t s.heap i a k) (G:Zp.Sq t s.heap a xs) (hx:xs[k]? = none)
 (q:∀ h',NW i s.heap h'->Q none { s with heap:=h' }):Fq (model prog w) A (Ij (.ref z)) Q E s:=by
 have ty:s.TypeIs (.ref z) "enumerate" := ⟨_,j,rfl⟩;unfold Ij;refine e6 (Ht (FY (name:=Gf "__next__") ty IG (FZ IG ty Ls ?_ (L5 _))));refine e6 (m:=field (.ref z) 2) (Gi j rfl (x := .ref i) rfl (e6 (Zp.nx_end B hi G hx fun h' x he hs => ?_)));obtain ⟨o,ho,J⟩:=hs;exact e6 (HU (T := "StopIteration") (b:=true) ⟨o,ho,J⟩ LP (D1 (q _ he)))
open AutoSeq1 (wpAny_loadPart') in
theorem yB (l:Addr) (items:Array gV) (n:Nat) (dct:Option Addr) (sl:Array (Option gV)) :
 Meets (GR.«enumerate.__new__» ⟨[.type "enumerate", .ref l],[]⟩) (fun _ R s=>s.heap.get? l=some { cls := .type "tuple",dict:=dct,data := .seq items n,slots:=sl } /\
  R (.ok (.ret (.ref (s.heap.push (Zp.itO true l)).objs.size))) { s with heap:=(s.heap.push (Zp.itO true l)).push { cls := .type "enumerate",data := .fields #[.none, .bool false, .ref s.heap.objs.size,Ik 0, .none, .none] } }) :=
 .of_wp fun prog w A R s h=>by
  obtain ⟨B,g,d,tk,os⟩:=s;obtain ⟨j,h⟩:=h;have q:=sub_enumerate;have z:Heap.IsTuple (Shared.heap ⟨B,g,d,tk,os⟩) l items:=⟨_,j,rfl,n,rfl⟩
  wp_walk using IC j
  refine wpAny_stack_any fun st=>D1 ?_
  split
  ·rename_i c _ _ _ _ _
   cases (c==FV "enumerate") <;> (wp_walk using IC j,Jg z;exact ⟨_,rfl,h⟩)
  ·wp_walk using IC j,Jg z
   exact ⟨_,rfl,h⟩
theorem call_enum {t:Bool} {l:Addr} {items:Array gV} {Q:gV->tv->Prop} (B:Zp.Sq t s.heap l items)
 (q:∀ h',Lr h' (s.heap.objs.size+1) s.heap.objs.size 0 .none->Zp.At t h' s.heap.objs.size l 0->(∀ b o,s.heap.get? b=some o->h'.get? b=some o)->Q (.ref (s.heap.objs.size+1)) { s with heap:=h' }) :
 Fq (model prog w) A (call (.type "enumerate") [.ref l]) Q E s:=by
 cases t with
 | false=>exact call_enumerate_list B fun h' a b _ k=>q h' a b k
 | true =>
   obtain ⟨⟨c,dct,dt,sl⟩,J,L,n,hd⟩:=B;have j:c = .type "tuple" := L;have z:dt = .seq items n:=hd;subst j z;refine callType_new F.called_enumerate (by decide) (F.typeCall_enumerate_1 _) (F.newCall_enumerate_1 _) (fun obj=>F.args_object_init_2 obj _) F.entry_enumerate_new (yB l items n dct sl) ⟨J, ?_⟩
   have G:(s.heap.push (Zp.itO true l)).objs.size=s.heap.objs.size+1:=Jw ..;have e:((s.heap.push (Zp.itO true l)).push { cls := .type "enumerate",data := .fields #[.none, .bool false, .ref s.heap.objs.size,Ik 0, .none, .none] }).get? (s.heap.push (Zp.itO true l)).objs.size=some _:=Fh _ rfl;rw [G] at e;show _/\_;rw [G];exact ⟨⟨_,e,rfl⟩,q _ e (Zp.at_new (q7 _ (Fh _ rfl))) fun b o x=>q7 _ (q7 _ x)⟩
end
end En
open PySem PySem.Spec PyProof.Rows
noncomputable def Ite (K:Frag) (t:Bool) (a:Addr):It :=
 ⟨fun i H => ∃ xs x,SqV K t H a xs/\xs[i]? = some x,
  fun i H v H' => ∃ p x,H p=none/\v = .ref p/\H'=upd H p (.tup [.int (i:Nat),x]) /\ ∀ xs,SqV K t H a xs->xs[i]? = some x,
  fun i H => ∃ xs,SqV K t H a xs/\xs.length<=i⟩
theorem sP {P:FI} {w:G2} {K:Frag} {elts:List Expr} {cx} {pos:Pos} {t:Bool} {z i a:Addr} (B:z≠i) :
 fx P w K (.Tuple elts cx pos) (Ite K t a) [z,i] z (fun k h=>(∃ old,Lr h z i k old)/\Zp.At t h i a k) where
 mem:=by simp
 obj:=fun k h ⟨⟨old,q⟩,hi⟩ c j=>by
  simp only [Fo,Gn,or_false] at j
  rcases j with rfl | rfl
  ·exact ⟨_,q,fun v e=>by cases e⟩
  ·exact hi.lt
 keep:=fun k h h' ⟨⟨old,q⟩,hi⟩ kk=>⟨⟨old,kk z (by simp) _ q⟩,hi.up fun o e=>kk i (by simp) o e⟩
 item:=by
  intro X F hw G j k pins s σ H E I hf st hg;subst F hw G;obtain ⟨⟨old,q⟩,hi⟩:=st;obtain ⟨xs,x,qx,ex⟩:=hg;obtain ⟨is,rx,px⟩:=I.sqv qx;obtain ⟨ux,J,rux⟩:=rx.get ex;refine En.nxt_item q hi px (by simpa using J) B fun h1 Y Z p1 L=>⟨_,rfl, ?_⟩
  refine wpAny_letOwnedTupleGo_enum (s := { s with heap:=h1,toks:=s.toks+1 }) Y fun h2 z2 s2 => ?_
  have lt:∀ {c o},s.heap.get? c=some o->c≠s.heap.objs.size:=fun e=>FR (Fg e);have nz:s.heap.objs.size≠z:=(lt q).symm;have O:∃ o,s.heap.get? i=some o:=hi.lt.imp fun _ h=>h.1;have up:∀ c o,c≠z->h1.get? c=some o->h2.get? c=some o:=fun c o n e=>s2.extBut _ _ n e;have IL:Inv X pins σ (upd H s.heap.objs.size (.tup [.int (k:Nat),x])) { s with heap:=s.heap.push { cls := .type "tuple",data := .seq #[.int k s.toks,ux] },toks:=s.toks+1 } :=
   I.laid (fun b o e=>q7 _ e) (Fl _) ⟨by rw [Fb];simp,[.int k s.toks,ux], .cons ⟨_,rfl⟩ (.cons rux .nil),Ki _ _⟩
  have fr:∀ c∈[z,i],c≠s.heap.objs.size:=fun c j=>by
   simp only [Fo,Gn,or_false] at j
   rcases j with rfl | rfl
   ·exact lt q
   ·obtain ⟨o,e⟩:=O;exact lt e
  have un:∀ c∈[z,i],upd H s.heap.objs.size (.tup [.int (k:Nat),x]) c=none:=fun c j=>by
   rw [ai (fr c j)];exact (hf c j).1
  have kk:∀ c o,c∉[z,i]->(s.heap.push { cls := .type "tuple",data := .seq #[.int k s.toks,ux] }).get? c=some o->h2.get? c=some o:=fun c o j e=>by
   simp only [Fo,Gn,or_false,not_or] at j
   rcases LQ e with ⟨rfl,rfl⟩ | e
   ·exact up _ _ nz p1
   ·exact up _ _ j.1 (L c o j.1 j.2 e)
  have I2:Inv X pins σ (upd H s.heap.objs.size (.tup [.int (k:Nat),x])) { s with heap:=h2,toks:=s.toks+1 } :=
   Inv.turnedL (s := { s with heap:=s.heap.push { cls := .type "tuple",data := .seq #[.int k s.toks,ux] },toks:=s.toks+1 }) (h':=h2) (t':=s.toks+1) (fp := [z,i]) IL (fun c j=>⟨un c j,(hf c j).2⟩) kk
  refine ⟨.ref s.heap.objs.size,_,I2,rfl,⟨_,x,I.hok.fresh (Fl _),rfl,rfl,fun xs' q1 => ?_⟩,⟨⟨ux,by simpa using z2⟩,Z.up fun o e=>up _ o B.symm e⟩,un⟩
  rw [I.sqv_inj q1 qx];exact ex
 done:=by
  intro X F hw G j k pins s σ H E I hf st hg;subst F hw G;obtain ⟨⟨old,q⟩,hi⟩:=st;obtain ⟨xs,qx,U⟩:=hg;obtain ⟨is,rx,px⟩:=I.sqv qx;have lx:=rx.length;refine En.nxt_end (I.ok.hd j) q hi px (by simp;lia) fun h1 L=>⟨rfl,I.turnedL (t':=s.toks) hf fun c o j e => ?_⟩
  simp only [Fo,Gn,or_false,not_or] at j;exact L c o j.2 e
 self:=fun A k s Q E ⟨⟨old,q⟩,_⟩ h=>Nk q h
section
variable {X:Cx}
noncomputable def BR (K:Frag) (ta:TA):TI:=fun σ H R=>ta σ H fun vs H1 => ∃ a t xs,vs=[.ref a]/\SqV K t H1 a xs/\R (Ite K t a) H1
theorem yC {elts:List Expr} {cx} {pos p pos':Pos} {a:Expr} {ta:TA} (F:Gl X "enumerate") (hm:X.mg "enumerate" = none) (G:PA X [a] ta) (hs:FO [a] X.env=[(false,eval a X.env)]) :
 PI X (.Tuple elts cx pos) (.Call (.Name "enumerate" p) [a] [] pos') (BR X.K ta):=by
 intro pins s σ H R I h;refine Call_ (e8 I F hm (u := .type "enumerate") boot_enumerate (IJ (thn (G pos' pins s σ H _ I h) fun us s1 ⟨vs,H1,j,J,L⟩ => ?_) hs rfl));obtain ⟨a',t,xs,rfl,qx,q⟩:=L
 cases J with
 | cons r rr =>
   cases rr
   cases r
   obtain ⟨is,rx,px⟩:=j.sqv qx;refine En.call_enum px fun h1 z O U => ?_;refine Nk z ?_;refine ⟨_,_,_,_,H1,rfl,j.kept (t':=s1.toks) U,sP (t:=t) (a:=a') (by simp),⟨⟨_,z⟩,O⟩,fun c B => ?_,q⟩
   have hle:s1.heap.objs.size<=c:=by
    simp only [Fo,Gn,or_false] at B
    rcases B with rfl | rfl <;> lia
   exact j.fpOk hle (j.hok.fresh hle)
end
end L2
namespace L2
namespace Rv
open PySem PySem.Spec PyProof.Rows
end Rv
open PySem PySem.Spec PyProof.Rows
end L2
namespace L2
namespace Mi
open PySem PySem.Spec PyProof.Rows
section
inductive D where
 | non | bl (b:Bool) | int (i:Int) | str (x:Str) | tup (ds:List D) | con (ds:List D) | ref (a:Addr) | fn (x:Str)
inductive O where
 | lst (ds:List D)
 | dct (t:Bool) (kvs:List (D×D))
 | fdc (kvs:List (D×D))
noncomputable abbrev Mem:=Addr->Option O
noncomputable def fz:Option O->Bool
 | some (.lst _)=>false
 | some (.dct _ _)=>false
 | _=>true
noncomputable abbrev al:=List (Option D)
noncomputable def ag (M:Mem) (a:Addr) (o:O):Mem:=fun b=>if b=a then some o else M b
theorem ab {M:Mem} {a:Addr} {o:O}:ag M a o a=some o:=by unfold ag;rw [if_pos rfl]
theorem ak {M:Mem} {a b:Addr} {o:O} (h:b≠a):ag M a o b=M b:=by unfold ag;rw [if_neg h]
def SqF (K:Frag) (H:Hp) (a:Addr) (xs:List V):Prop :=
 (∃ o,H a=some (.frz o (.lst xs))) ∨
  ∃ (o:Obj) (its:Array gV) (n:Nat),K.lookup a=some o/\o.cls = .type "list" /\ o.dict=none/\o.data = .seq its n/\its.size<=Fj/\Vals xs its.toList
theorem SqF.sq {K:Frag} {H:Hp} {a:Addr} {xs:List V} (h:SqF K H a xs):SqL K H a xs:=by
 rcases h with ⟨o,h⟩ | h
 ·exact .inl (.inr ⟨o,h⟩)
 ·exact .inr h
noncomputable def fk2:Bool:=true
noncomputable def fk:List D->Bool
 | [.int _, .int _, .int _] => true
 | [.tup _,_] => true
 | [.int _,_] => fk2
 | _=>false
def TupR (K:Frag) (H:Hp) (ds:List D) (a:Addr) (vs:List V):Prop:=H a=some (.tup vs)∨(fk ds=false/\SqT K H a vs)
theorem TupR.sq {K:Frag} {H:Hp} {ds:List D} {a:Addr} {vs:List V} (h:TupR K H ds a vs):SqT K H a vs:=h.elim SqT.of (·.2)
mutual
noncomputable def RD (K:Frag) (H:Hp):D->V->Prop
 | .non,v=>v = .non
 | .bl b,v=>v = .bl b
 | .int i,v=>v = .int i
 | .str x,v=>v = .str x
 | .tup ds,v => ∃ a vs,v = .ref a/\TupR K H ds a vs/\RDs K H ds vs
 | .con ds,v => ∃ a vs,v = .ref a/\SqF K H a vs/\RDs K H ds vs
 | .ref a,v=>v = .ref a
 | .fn x,v => ∃ f,v = .ref f/\Jy K GD x=some (some (.ref f))
noncomputable def RDs (K:Frag) (H:Hp):List D->List V->Prop
 | [],vs=>vs=[]
 | d::ds,vs => ∃ v r,vs=v::r/\RD K H d v/\RDs K H ds r
end
structure Stab (H H':Hp):Prop where
 tup:∀ a xs,H a=some (.tup xs)->H' a=some (.tup xs)
 frz:∀ a o u,H a=some (.frz o u)->H' a=some (.frz o u)
theorem Stab.sqT {K:Frag} {H H':Hp} (st:Stab H H') {a:Addr} {xs:List V} (h:SqT K H a xs):SqT K H' a xs:=by
 rcases h with (h | ⟨o,h⟩) | h
 ·exact .inl (.inl (st.tup _ _ h))
 ·exact .inl (.inr ⟨o,st.frz _ _ _ h⟩)
 ·exact .inr h
theorem Stab.sqF {K:Frag} {H H':Hp} (st:Stab H H') {a:Addr} {xs:List V} (h:SqF K H a xs):SqF K H' a xs:=by
 rcases h with ⟨o,h⟩ | h
 ·exact .inl ⟨o,st.frz _ _ _ h⟩
 ·exact .inr h
mutual
theorem RD.mono {K:Frag} {H H':Hp} (st:Stab H H'):∀ {d:D} {v:V},RD K H d v->RD K H' d v
 | .non,_,h=>h
 | .bl _,_,h=>h
 | .int _,_,h=>h
 | .str _,_,h=>h
 | .tup ds,v,h=>by
  unfold RD at h ⊢;obtain ⟨a,vs,e,q,r⟩:=h;exact ⟨a,vs,e,q.imp (st.tup _ _) (fun z=>⟨z.1,st.sqT z.2⟩),RDs.mono st r⟩
 | .con ds,v,h=>by
  unfold RD at h ⊢;obtain ⟨a,vs,e,q,r⟩:=h;exact ⟨a,vs,e,st.sqF q,RDs.mono st r⟩
 | .ref _,_,h=>h
 | .fn _,_,h=>by unfold RD at h ⊢;exact h
theorem RDs.mono {K:Frag} {H H':Hp} (st:Stab H H'):∀ {ds:List D} {vs:List V},RDs K H ds vs->RDs K H' ds vs
 | [],_,h=>h
 | d::ds,vs,h=>by
   unfold RDs at h ⊢;obtain ⟨v,r,e,h1,h2⟩:=h;exact ⟨v,r,e,RD.mono st h1,RDs.mono st h2⟩
end
section
variable {K:Frag} {H H':Hp}
theorem OK {i:Int} {v:V}:RD K H (.int i) v↔v = .int i:=by unfold RD;exact Oe
theorem ON {b:Bool} {v:V}:RD K H (.bl b) v↔v = .bl b:=by unfold RD;exact Oe
theorem OR {v:V}:RD K H .non v↔v = .non:=by unfold RD;exact Oe
theorem OS {x:Str} {v:V}:RD K H (.str x) v↔v = .str x:=by unfold RD;exact Oe
theorem OL {a:Addr} {v:V}:RD K H (.ref a) v↔v = .ref a:=by unfold RD;exact Oe
theorem P1 {x:Str} {v:V}:RD K H (.fn x) v ↔ ∃ f,v = .ref f/\Jy K GD x=some (some (.ref f)):=by rw [RD]
theorem OW {ds:List D} {v:V}:RD K H (.tup ds) v ↔ ∃ a vs,v = .ref a/\TupR K H ds a vs/\RDs K H ds vs:=by rw [RD]
theorem OU {ds:List D} {v:V} (h:∃ a vs,v = .ref a/\H a=some (.tup vs)/\RDs K H ds vs):RD K H (.tup ds) v:=OW.mpr (let ⟨a,vs,e,h,r⟩:=h; ⟨a,vs,e, .inl h,r⟩)
theorem OQ {ds:List D} {v:V} (h:RD K H (.tup ds) v):∃ a vs,v = .ref a/\SqT K H a vs/\RDs K H ds vs:=let ⟨a,vs,e,h,r⟩:=OW.mp h; ⟨a,vs,e,h.sq,r⟩
theorem OZ {ds:List D} {v:V} (f:fk ds=true) (h:RD K H (.tup ds) v):∃ a vs,v = .ref a/\H a=some (.tup vs)/\RDs K H ds vs:=let ⟨a,vs,e,h,r⟩:=OW.mp h; ⟨a,vs,e,h.elim id fun z=>(by rw [f] at z;cases z.1),r⟩
theorem OP {ds:List D} {v:V}:RD K H (.con ds) v ↔ ∃ a vs,v = .ref a/\SqF K H a vs/\RDs K H ds vs:=by rw [RD]
theorem RDs.nil_iff {vs:List V}:RDs K H [] vs↔vs=[]:=by rw [RDs]
theorem OM {d:D} {ds:List D} {vs:List V}:RDs K H (d::ds) vs ↔ ∃ v r,vs=v::r/\RD K H d v/\RDs K H ds r:=by rw [RDs]
theorem RDs.nil:RDs K H [] []:=RDs.nil_iff.mpr rfl
theorem RDs.cons {d:D} {ds:List D} {v:V} {vs:List V} (h:RD K H d v) (r:RDs K H ds vs):RDs K H (d::ds) (v::vs):=OM.mpr ⟨v,vs,rfl,h,r⟩
theorem RDs.length:∀ {ds:List D} {vs:List V},RDs K H ds vs->vs.length=ds.length
 | [],_,h=>by rw [RDs.nil_iff.mp h];rfl
 | d::ds,_,h=>by
   obtain ⟨v,r,rfl,_,h2⟩:=OM.mp h;simp [RDs.length h2]
theorem RDs.get:∀ {ds:List D} {vs:List V} {i:Nat} {d:D},RDs K H ds vs->ds[i]? = some d -> ∃ v,vs[i]? = some v/\RD K H d v
 | [],_,_,_,_,e=>by simp at e
 | d::ds,_,0,d',h,e=>by
   obtain ⟨v,r,rfl,h1,h2⟩:=OM.mp h;simp at e;subst e;exact ⟨v,rfl,h1⟩
 | d::ds,_,i+1,d',h,e=>by
   obtain ⟨v,r,rfl,h1,h2⟩:=OM.mp h;obtain ⟨u,j,q⟩:=RDs.get (i:=i) (d:=d') h2 (by simpa using e)
   exact ⟨u,by simpa using j,q⟩
theorem RDs.getV {ds:List D} {vs:List V} {i:Nat} {v:V} (h:RDs K H ds vs) (e:vs[i]? = some v):∃ d,ds[i]? = some d/\RD K H d v:=by
 have z:=h.length;have hi:i < vs.length:=(FC.mp e).1;obtain ⟨d,hd⟩:∃ d,ds[i]? = some d:=⟨ds[i]'(by lia),Fe (by lia)⟩
 obtain ⟨u,j,q⟩:=h.get hd;rw [e] at j;cases j;exact ⟨d,hd,q⟩
theorem RDs.append:∀ {ds es:List D} {vs us:List V},RDs K H ds vs->RDs K H es us->RDs K H (ds++es) (vs++us)
 | [],_,_,_,h,q=>by rw [RDs.nil_iff.mp h];exact q
 | d::ds,_,_,_,h,q=>by
   obtain ⟨v,r,rfl,h1,h2⟩:=OM.mp h;exact RDs.cons h1 (RDs.append h2 q)
theorem RDs.take:∀ {ds:List D} {vs:List V} (n:Nat),RDs K H ds vs->RDs K H (ds.take n) (vs.take n)
 | [],_,n,h=>by rw [RDs.nil_iff.mp h];simp;exact RDs.nil
 | _::_,_,0,h=>by simp;exact RDs.nil
 | d::ds,_,n+1,h=>by
   obtain ⟨v,r,rfl,h1,h2⟩:=OM.mp h;exact RDs.cons h1 (RDs.take n h2)
theorem RDs.drop:∀ {ds:List D} {vs:List V} (n:Nat),RDs K H ds vs->RDs K H (ds.drop n) (vs.drop n)
 | [],_,n,h=>by rw [RDs.nil_iff.mp h];simp;exact RDs.nil
 | d::ds,_,0,h=>h
 | d::ds,_,n+1,h=>by
   obtain ⟨v,r,rfl,h1,h2⟩:=OM.mp h;exact RDs.drop n h2
theorem RDs.set:∀ {ds:List D} {vs:List V} (n:Nat) {d:D} {v:V},RD K H d v->RDs K H ds vs->RDs K H (ds.set n d) (vs.set n v)
 | [],_,n,_,_,_,h=>by rw [RDs.nil_iff.mp h];exact RDs.nil
 | d::ds,_,0,_,_,q,h=>by
   obtain ⟨v,r,rfl,h1,h2⟩:=OM.mp h;exact RDs.cons q h2
 | d::ds,_,n+1,_,_,q,h=>by
   obtain ⟨v,r,rfl,h1,h2⟩:=OM.mp h;exact RDs.cons h1 (RDs.set n q h2)
theorem RDs.rep {ds:List D} {vs:List V} (h:RDs K H ds vs):∀ k:Nat,RDs K H (Fm k ds).flatten (Fm k vs).flatten
 | 0=>RDs.nil
 | k+1=>by
   rw [GF,GF,Gq,Gq];exact h.append (h.rep k)
theorem P4:∀ (ns:List Int),RDs K H (ns.map D.int) (ns.map V.int)
 | [] => RDs.nil
 | n::ns=>RDs.cons (OK.mpr rfl) (P4 ns)
end
mutual
noncomputable def D.eqb:D->D->Bool
 | .non, .non=>true
 | .bl a, .bl b=>a==b
 | .int a, .int b=>decide (a=b)
 | .str a, .str b=>decide (a=b)
 | .tup a, .tup b=>D.eqbs a b
 | .con a, .con b=>D.eqbs a b
 | .ref a, .ref b=>decide (a=b)
 | .fn a, .fn b=>decide (a=b)
 | _,_=>false
noncomputable def D.eqbs:List D->List D->Bool
 | [],[] => true
 | a::r,b::s=>D.eqb a b&&D.eqbs r s
 | _,_=>false
end
mutual
theorem P2:∀ (a b:D),D.eqb a b=true->a=b
 | .non, .non,_=>rfl
 | .bl a, .bl b,h=>by simp [D.eqb] at h;rw [h]
 | .int a, .int b,h=>by simp [D.eqb] at h;rw [h]
 | .str a, .str b,h=>by simp [D.eqb] at h;rw [h]
 | .tup a, .tup b,h=>by simp [D.eqb] at h;rw [OY a b h]
 | .con a, .con b,h=>by simp [D.eqb] at h;rw [OY a b h]
 | .ref a, .ref b,h=>by simp [D.eqb] at h;rw [h]
 | .fn a, .fn b,h=>by simp [D.eqb] at h;rw [h]
 | .non, .bl _,h=>by simp [D.eqb] at h
 | .non, .int _,h=>by simp [D.eqb] at h
 | .non, .str _,h=>by simp [D.eqb] at h
 | .non, .tup _,h=>by simp [D.eqb] at h
 | .non, .con _,h=>by simp [D.eqb] at h
 | .non, .ref _,h=>by simp [D.eqb] at h
 | .non, .fn _,h=>by simp [D.eqb] at h
 | .bl _, .non,h=>by simp [D.eqb] at h
 | .bl _, .int _,h=>by simp [D.eqb] at h
 | .bl _, .str _,h=>by simp [D.eqb] at h
 | .bl _, .tup _,h=>by simp [D.eqb] at h
 | .bl _, .con _,h=>by simp [D.eqb] at h
 | .bl _, .ref _,h=>by simp [D.eqb] at h
 | .bl _, .fn _,h=>by simp [D.eqb] at h
 | .int _, .non,h=>by simp [D.eqb] at h
 | .int _, .bl _,h=>by simp [D.eqb] at h
 | .int _, .str _,h=>by simp [D.eqb] at h
 | .int _, .tup _,h=>by simp [D.eqb] at h
 | .int _, .con _,h=>by simp [D.eqb] at h
 | .int _, .ref _,h=>by simp [D.eqb] at h
 | .int _, .fn _,h=>by simp [D.eqb] at h
 | .str _, .non,h=>by simp [D.eqb] at h
 | .str _, .bl _,h=>by simp [D.eqb] at h
 | .str _, .int _,h=>by simp [D.eqb] at h
 | .str _, .tup _,h=>by simp [D.eqb] at h
 | .str _, .con _,h=>by simp [D.eqb] at h
 | .str _, .ref _,h=>by simp [D.eqb] at h
 | .str _, .fn _,h=>by simp [D.eqb] at h
 | .tup _, .non,h=>by simp [D.eqb] at h
 | .tup _, .bl _,h=>by simp [D.eqb] at h
 | .tup _, .int _,h=>by simp [D.eqb] at h
 | .tup _, .str _,h=>by simp [D.eqb] at h
 | .tup _, .con _,h=>by simp [D.eqb] at h
 | .tup _, .ref _,h=>by simp [D.eqb] at h
 | .tup _, .fn _,h=>by simp [D.eqb] at h
 | .con _, .non,h=>by simp [D.eqb] at h
 | .con _, .bl _,h=>by simp [D.eqb] at h
 | .con _, .int _,h=>by simp [D.eqb] at h
 | .con _, .str _,h=>by simp [D.eqb] at h
 | .con _, .tup _,h=>by simp [D.eqb] at h
 | .con _, .ref _,h=>by simp [D.eqb] at h
 | .con _, .fn _,h=>by simp [D.eqb] at h
 | .ref _, .non,h=>by simp [D.eqb] at h
 | .ref _, .bl _,h=>by simp [D.eqb] at h
 | .ref _, .int _,h=>by simp [D.eqb] at h
 | .ref _, .str _,h=>by simp [D.eqb] at h
 | .ref _, .tup _,h=>by simp [D.eqb] at h
 | .ref _, .con _,h=>by simp [D.eqb] at h
 | .ref _, .fn _,h=>by simp [D.eqb] at h
 | .fn _, .non,h=>by simp [D.eqb] at h
 | .fn _, .bl _,h=>by simp [D.eqb] at h
 | .fn _, .int _,h=>by simp [D.eqb] at h
 | .fn _, .str _,h=>by simp [D.eqb] at h
 | .fn _, .tup _,h=>by simp [D.eqb] at h
 | .fn _, .con _,h=>by simp [D.eqb] at h
 | .fn _, .ref _,h=>by simp [D.eqb] at h
theorem OY:∀ (a b:List D),D.eqbs a b=true->a=b
 | [],[],_=>rfl
 | a::r,b::s,h=>by
   simp [D.eqbs] at h;rw [P2 a b h.1,OY r s h.2]
 | [],_::_,h=>by simp [D.eqbs] at h
 | _::_,[],h=>by simp [D.eqbs] at h
end
mutual
theorem P0:∀ (a:D),D.eqb a a=true
 | .non=>rfl
 | .bl _=>by simp [D.eqb]
 | .int _=>by simp [D.eqb]
 | .str _=>by simp [D.eqb]
 | .tup a=>by simp [D.eqb,OV a]
 | .con a=>by simp [D.eqb,OV a]
 | .ref _=>by simp [D.eqb]
 | .fn _=>by simp [D.eqb]
theorem OV:∀ (a:List D),D.eqbs a a=true
 | [] => rfl
 | a::r=>by simp [D.eqbs,P0 a,OV r]
end
noncomputable instance:DecidableEq D:=fun a b=>if h:D.eqb a b=true then isTrue (P2 a b h) else isFalse fun e=>h (by rw [e];exact P0 b)
noncomputable def RKey:D->Key->Prop
 | .int i,k=>k = .inl i
 | .str x,k=>k = .inr x
 | _,_=>False
noncomputable def RKeys:D->List Key->Prop
 | .tup ds,ks=>G5 RKey ds ks
 | _,_=>False
noncomputable def dget (kvs:List (D×D)) (k:D):Option D:=(kvs.find? fun p=>decide (p.1=k)).map (·.2)
noncomputable def bJ (kvs:List (D×D)) (k v:D):List (D×D):=if (kvs.any fun p=>decide (p.1=k))=true then kvs.map (fun p=>if p.1=k then (p.1,v) else p) else kvs++[(k,v)]
noncomputable def eQ:D->Bool
 | .int _=>true
 | .str _=>true
 | _=>false
noncomputable def bK:D->Bool
 | .tup ds=>ds.all eQ&&fk ds
 | _=>false
noncomputable def dL (t:Bool) (k:D):Bool:=if t then bK k else eQ k
theorem mj {k:D} (h:eQ k=true):∃ q,RKey k q:=by
 cases k <;> first | (simp [eQ] at h;done) | exact ⟨_,rfl⟩
theorem pi:∀ {ds:List D},ds.all eQ=true -> ∃ ks,G5 RKey ds ks
 | [],_=>⟨[], .nil⟩
 | d::ds,h=>by
   simp only [J7,D0] at h;obtain ⟨k,j⟩:=mj h.1;obtain ⟨ks,hs⟩:=pi h.2;exact ⟨k::ks, .cons j hs⟩
theorem jM {k:D} (h:bK k=true):∃ q,RKeys k q:=by
 cases k <;> first | (simp [bK] at h;done) | exact pi (LR.mp h).1
theorem jN {ds:List D} (h:bK (.tup ds)=true):fk ds=true:=(LR.mp h).2
noncomputable def RO (K:Frag) (H:Hp) (a:Addr):O->Prop
 | .lst ds => ∃ vs,H a=some (.lst vs)/\RDs K H ds vs
 | .dct false kvs => ∃ ps,H a=some (.dK ps)/\G5 (fun (p:D×D) (q:Key×V)=>RKey p.1 q.1/\RD K H p.2 q.2) kvs ps
 | .dct true kvs => ∃ ps,H a=some (.dT ps)/\G5 (fun (p:D×D) (q:List Key×V)=>RKeys p.1 q.1/\RD K H p.2 q.2) kvs ps
 | .fdc kvs => ∃ o ps,H a=some (.frz o (.dT ps))/\G5 (fun (p:D×D) (q:List Key×V)=>RKeys p.1 q.1/\RD K H p.2 q.2) kvs ps
def RM (K:Frag) (M:Mem) (H:Hp):Prop := ∀ a o,M a=some o->RO K H a o
def RS (K:Frag) (H:Hp) (σ:St) (ρ:al):Prop := σ.length = ρ.length /\ ∀ (i:Nat) (d:D), ρ[i]? = some (some d) -> ∃ v, σ[i]? = some (some v)/\RD K H d v
structure Ext (M:Mem) (H:Hp) (M':Mem) (H':Hp):Prop where
 kp:∀ a o,fz (M a)=true->H a=some o->H' a=some o
 nw:∀ a o,fz (M a)=true->H a=some o->M' a=M a
section
variable {K:Frag} {M M' M'':Mem} {H H' H'':Hp}
theorem Ext.keep (x:Ext M H M' H') (a:Addr) (o:HO) (n:M a=none) (e:H a=some o):H' a=some o:=x.kp a o (by rw [n];rfl) e
theorem Ext.new (x:Ext M H M' H') (a:Addr) (o:HO) (n:M a=none) (e:H a=some o):M' a=none:=(x.nw a o (by rw [n];rfl) e).trans n
theorem Ext.refl:Ext M H M H:=⟨fun _ _ _ h=>h,fun _ _ _ _=>rfl⟩
theorem Ext.trans (a:Ext M H M' H') (b:Ext M' H' M'' H''):Ext M H M'' H'' :=
 ⟨fun c o n h=>b.kp c o (by rw [a.nw c o n h];exact n) (a.kp c o n h),fun c o n h=>(b.nw c o (by rw [a.nw c o n h];exact n) (a.kp c o n h)).trans (a.nw c o n h)⟩
theorem RM.mut (r:RM K M H) {a:Addr} {o:O} (h:M a=some o):∃ ho,H a=some ho/\(∀ xs,ho ≠ .tup xs)/\(fz (some o)=false->Mut (some ho) /\ ∀ ob u,ho ≠ .frz ob u):=by
 have q:=r a o h
 cases o with
 | lst ds =>
   obtain ⟨vs,e,_⟩:=q;exact ⟨_,e,fun _ z=>(by cases z),fun _=>⟨trivial,fun _ _ z=>(by cases z)⟩⟩
 | dct t kvs =>
   cases t with
   | false=>obtain ⟨ps,e,_⟩:=q;exact ⟨_,e,fun _ z=>(by cases z),fun _=>⟨trivial,fun _ _ z=>(by cases z)⟩⟩
   | true=>obtain ⟨ps,e,_⟩:=q;exact ⟨_,e,fun _ z=>(by cases z),fun _=>⟨trivial,fun _ _ z=>(by cases z)⟩⟩
 | fdc kvs=>obtain ⟨ob,ps,e,_⟩:=q;exact ⟨_,e,fun _ z=>(by cases z),fun z=>(by cases z)⟩
theorem RM.fzT (r:RM K M H) {a:Addr} {xs:List V} (e:H a=some (.tup xs)):M a=none:=by
 cases q:M a with
 | none=>rfl
 | some o =>
   obtain ⟨ho,j,z,_⟩:=r.mut q;rw [e] at j;cases j;exact absurd rfl (z xs)
theorem RM.fzF (r:RM K M H) {a:Addr} {ob:Obj} {u:HO} (e:H a=some (.frz ob u)):fz (M a)=true:=by
 cases q:M a with
 | none=>rfl
 | some o =>
   obtain ⟨ho,j,_,B⟩:=r.mut q;rw [e] at j;cases j
   cases z:fz (some o) with
   | true=>rfl
   | false=>exact absurd rfl ((B z).2 ob u)
theorem RM.out (r:RM K M H) {a:Addr} (h:H a=none):M a=none:=by
 cases e:M a with
 | none=>rfl
 | some o =>
   obtain ⟨ho,q,_⟩:=r.mut e;rw [h] at q;cases q
theorem Ext.stab (r:RM K M H) (x:Ext M H M' H'):Stab H H' where
 tup:=fun a xs e=>x.keep a _ (r.fzT e) e
 frz:=fun a o u e=>x.kp a _ (r.fzF e) e
theorem RS.mono (st:Stab H H') {σ:St} {ρ:al} (h:RS K H σ ρ):RS K H' σ ρ :=
 ⟨h.1,fun i d e=>let ⟨v,q,r⟩:=h.2 i d e; ⟨v,q,r.mono st⟩⟩
theorem RS.set {σ:St} {ρ:al} (h:RS K H σ ρ) (i:Nat) {d:D} {v:V} (r:RD K H d v):RS K H (σ.set i (some v)) (ρ.set i (some d)):=by
 refine ⟨by simp [h.1],fun j e q => ?_⟩
 by_cases hij:i=j
 ·subst hij;have hi:i < ρ.length:=by
   have:=(FC.mp q).1;simpa using this
  rw [HJ hi] at q
  cases q
  exact ⟨v,by rw [HJ (by rw [h.1];exact hi)],r⟩
 ·rw [IM hij] at q ⊢;exact h.2 j e q
noncomputable def jO (fr:List (Option Nat)) (ρ:al):al:=fr.map fun o=>o.bind fun j=>(ρ[j]?).join
theorem RS.inh {σ:St} {ρ:al} (h:RS K H σ ρ) (fr:List (Option Nat)):RS K H (inh fr σ) (jO fr ρ):=by
 refine ⟨by simp [L2.inh,jO],fun i d e => ?_⟩
 unfold jO at e;unfold L2.inh;rw [FX] at e ⊢
 cases q:fr[i]? with
 | none=>rw [q] at e;cases e
 | some o =>
   rw [q] at e
   cases o with
   | none=>cases e
   | some j =>
     have e':some ((ρ[j]?).join)=some (some d):=e
     cases q' : ρ[j]? with
     | none=>rw [q'] at e';cases e'
     | some w =>
       rw [q'] at e'
       cases e'
       obtain ⟨v,v1,v2⟩:=h.2 j d q';exact ⟨v,by simp [v1],v2⟩
theorem RO.mono (st:Stab H H') {a:Addr} {o:O} (h:RO K H a o) (e:∀ ho,H a=some ho->H' a=some ho):RO K H' a o:=by
 cases o with
 | lst ds=>obtain ⟨vs,q,r⟩:=h;exact ⟨vs,e _ q,r.mono st⟩
 | dct t kvs =>
   cases t with
   | false=>obtain ⟨ps,q,r⟩:=h;exact ⟨ps,e _ q,OO r fun _ _ z=>⟨z.1,z.2.mono st⟩⟩
   | true=>obtain ⟨ps,q,r⟩:=h;exact ⟨ps,e _ q,OO r fun _ _ z=>⟨z.1,z.2.mono st⟩⟩
 | fdc kvs=>obtain ⟨ob,ps,q,r⟩:=h;exact ⟨ob,ps,e _ q,OO r fun _ _ z=>⟨z.1,z.2.mono st⟩⟩
theorem RM.new {p:Addr} {ho:HO} (r:RM K M H) (n:H p=none):RM K M (upd H p ho):=fun a o e=>by
 have ne:a≠p:=fun z=>by subst z;obtain ⟨_,q,_⟩:=r.mut e;rw [n] at q;cases q
 refine (r a o e).mono ⟨fun b xs q => ?_,fun b o u q => ?_⟩ fun j q=>by rw [ai ne];exact q
 ·rw [ai (aR q n)];exact q
 ·rw [ai (aR q n)];exact q
theorem OT {p:Addr} {ho:HO} (n:H p=none):Ext M H M (upd H p ho):=⟨fun a o _ e=>by rw [ai (aR e n)];exact e,fun _ _ _ _=>rfl⟩
theorem RM.lay {p:Addr} {ho:HO} {o:O} (r:RM K M H) (n:H p=none) (h:RO K (upd H p ho) p o):RM K (ag M p o) (upd H p ho):=fun a o' e=>by
 by_cases z:a=p
 ·subst z;rw [ab] at e;cases e;exact h
 ·rw [ak z] at e;exact r.new n a o' e
theorem Ext.lay {p:Addr} {ho:HO} {o:O} (n:H p=none):Ext M H (ag M p o) (upd H p ho) :=
 ⟨fun a u _ e=>by rw [ai (aR e n)];exact e,fun a u m e=>by rw [ak (aR e n)]⟩
theorem RM.put {p:Addr} {ho:HO} {o o0:O} (r:RM K M H) (m:M p=some o0) (h:RO K (upd H p ho) p o) (w:fz (some o0)=false:=by rfl):RM K (ag M p o) (upd H p ho):=fun a o' e=>by
 by_cases z:a=p
 ·subst z;rw [ab] at e;cases e;exact h
 ·rw [ak z] at e;obtain ⟨J,j,B,F⟩:=r.mut m;refine (r a o' e).mono ⟨fun b xs q => ?_,fun b o u q => ?_⟩ fun G q=>by rw [ai z];exact q
  ·rw [ai (fun z=>by subst z;rw [j] at q;cases q;exact B xs rfl)];exact q
  ·rw [ai (fun z=>by subst z;rw [j] at q;cases q;exact (F w).2 o u rfl)];exact q
theorem Ext.put {p:Addr} {ho:HO} {o o0:O} (m:M p=some o0) (w:fz (some o0)=false:=by rfl):Ext M H (ag M p o) (upd H p ho) :=
 ⟨fun a u n e=>by rw [ai (fun z=>by subst z;rw [m,w] at n;cases n)];exact e,fun a u n e=>ak (fun z=>by subst z;rw [m,w] at n;cases n)⟩
theorem RM.stabPut {p:Addr} {ho:HO} {o0:O} (r:RM K M H) (m:M p=some o0) (w:fz (some o0)=false:=by rfl):Stab H (upd H p ho):=(Ext.put (o:=o0) (ho:=ho) m w).stab r
end
noncomputable abbrev QD:=D->Mem->Prop
noncomputable abbrev TEd:=al->Mem->QD->Prop
noncomputable abbrev TTd:=al->Mem->(Bool->Mem->Prop)->Prop
noncomputable abbrev TAd:=al->Mem->(List D->Mem->Prop)->Prop
structure aS where
 nx:al->Mem->Prop
 rt:QD
 bk:al->Mem->Prop:=fun _ _=>False
 ct:al->Mem->Prop:=fun _ _=>False
noncomputable abbrev TSd:=aS->al->Mem->Prop
def ad (T:TEd):Prop := ∀ ρ M Q Q',(∀ d M',Q d M'->Q' d M')->T ρ M Q->T ρ M Q'
def aA (T:TTd):Prop := ∀ ρ M Q Q',(∀ d M',Q d M'->Q' d M')->T ρ M Q->T ρ M Q'
def aW (T:TAd):Prop := ∀ ρ M Q Q',(∀ d M',Q d M'->Q' d M')->T ρ M Q->T ρ M Q'
structure LeD (a b:aS):Prop where
 nx:∀ ρ M,a.nx ρ M->b.nx ρ M
 rt:∀ d M,a.rt d M->b.rt d M
 bk:∀ ρ M,a.bk ρ M->b.bk ρ M
 ct:∀ ρ M,a.ct ρ M->b.ct ρ M
def aB (T:TSd):Prop := ∀ a b ρ M,LeD a b->T a ρ M->T b ρ M
noncomputable def KE' (K:Frag) (M:Mem) (H:Hp) (Q:VK):QD:=fun d M' => ∀ v H',Ext M H M' H'->RM K M' H'->RD K H' d v->Q v H'
noncomputable def KT' (K:Frag) (M:Mem) (H:Hp) (Q:Bool->Hp->Prop):Bool->Mem->Prop:=fun b M' => ∀ H',Ext M H M' H'->RM K M' H'->Q b H'
noncomputable def KA' (K:Frag) (M:Mem) (H:Hp) (Q:List V->Hp->Prop):List D->Mem->Prop:=fun ds M' => ∀ vs H',Ext M H M' H'->RM K M' H'->RDs K H' ds vs->Q vs H'
noncomputable def lE (K:Frag) (T:TEd):TE:=fun σ H Q => ∃ ρ M,RS K H σ ρ /\ RM K M H/\T ρ M (KE' K M H Q)
noncomputable def lT (K:Frag) (T:TTd):TT:=fun σ H Q => ∃ ρ M,RS K H σ ρ /\ RM K M H/\T ρ M (KT' K M H Q)
noncomputable def lA (K:Frag) (T:TAd):TA:=fun σ H Q => ∃ ρ M,RS K H σ ρ /\ RM K M H/\T ρ M (KA' K M H Q)
structure Link (K:Frag) (M:Mem) (H:Hp) (a:aS) (b:bu):Prop where
 nx:∀ ρ M' σ H',Ext M H M' H'->RS K H' σ ρ -> RM K M' H'->a.nx ρ M'->b.nx σ H'
 rt:∀ d M' v H',Ext M H M' H'->RM K M' H'->RD K H' d v->a.rt d M'->b.rt v H'
 bk:∀ ρ M' σ H',Ext M H M' H'->RS K H' σ ρ -> RM K M' H'->a.bk ρ M'->b.bk σ H'
 ct:∀ ρ M' σ H',Ext M H M' H'->RS K H' σ ρ -> RM K M' H'->a.ct ρ M'->b.ct σ H'
noncomputable def lS (K:Frag) (T:TSd):TS:=fun D σ H => ∃ ρ M A,RS K H σ ρ /\ RM K M H/\Link K M H A D/\T A ρ M
theorem Link.ext {K:Frag} {M M':Mem} {H H':Hp} {a:aS} {b:bu} (l:Link K M H a b) (x:Ext M H M' H'):Link K M' H' a b :=
 ⟨fun ρ M2 σ H2 y=>l.nx ρ M2 σ H2 (x.trans y),fun d M2 v H2 y=>l.rt d M2 v H2 (x.trans y),fun ρ M2 σ H2 y=>l.bk ρ M2 σ H2 (x.trans y),fun ρ M2 σ H2 y=>l.ct ρ M2 σ H2 (x.trans y)⟩
theorem PE.imp {X:Cx} {e:Expr} {t t':TE} (h:PE X e t) (i:∀ σ H Q,t' σ H Q->t σ H Q):PE X e t':=fun pins s σ H Q I q=>h pins s σ H Q I (i _ _ _ q)
theorem PT.imp {X:Cx} {e:Expr} {t t':TT} (h:PT X e t) (i:∀ σ H Q,t' σ H Q->t σ H Q):PT X e t':=fun pins s σ H Q I q=>h pins s σ H Q I (i _ _ _ q)
theorem PW.imp {X:Cx} {e:Expr} {t t':TT} (h:PW X e t) (i:∀ σ H Q,t' σ H Q->t σ H Q):PW X e t':=fun wh pins s σ H Q I q=>h wh pins s σ H Q I (i _ _ _ q)
theorem PA.imp {X:Cx} {e:List Expr} {t t':TA} (h:PA X e t) (i:∀ σ H Q,t' σ H Q->t σ H Q):PA X e t':=fun p pins s σ H Q I q=>h p pins s σ H Q I (i _ _ _ q)
theorem PS.imp {X:Cx} {e:Stmt} {t t':TS} (h:PS X e t) (i:∀ D σ H,t' D σ H->t D σ H):PS X e t':=fun pins s σ H D I q=>h pins s σ H D I (i _ _ _ q)
theorem PSs.imp {X:Cx} {e:List Stmt} {t t':TS} (h:PSs X e t) (i:∀ D σ H,t' D σ H->t D σ H):PSs X e t':=fun pins s σ H D I q=>h pins s σ H D I (i _ _ _ q)
end
section
theorem KE'.ext {K:Frag} {M M2 M':Mem} {H H2:Hp} {Q:VK} {d:D} (x:Ext M H M2 H2) (h:KE' K M H Q d M'):KE' K M2 H2 Q d M':=fun v H' y=>h v H' (x.trans y)
theorem KT'.ext {K:Frag} {M M2 M':Mem} {H H2:Hp} {Q:Bool->Hp->Prop} {d:Bool} (x:Ext M H M2 H2) (h:KT' K M H Q d M'):KT' K M2 H2 Q d M':=fun H' y=>h H' (x.trans y)
noncomputable abbrev R2d:=D->D->Mem->QD->Prop
noncomputable abbrev R1d:=D->Mem->QD->Prop
noncomputable abbrev RAd:=List D->Mem->QD->Prop
def aF (r:R2d):Prop := ∀ x y M Q Q',(∀ d M',Q d M'->Q' d M')->r x y M Q->r x y M Q'
def qE (r:R1d):Prop := ∀ x M Q Q',(∀ d M',Q d M'->Q' d M')->r x M Q->r x M Q'
def aO (r:RAd):Prop := ∀ x M Q Q',(∀ d M',Q d M'->Q' d M')->r x M Q->r x M Q'
noncomputable def l2 (K:Frag) (rd:R2d):R2:=fun v u H Q => ∃ x y M,RM K M H/\RD K H x v/\RD K H y u/\rd x y M (KE' K M H Q)
noncomputable def l1 (K:Frag) (rd:R1d):V->Hp->VK->Prop:=fun v H Q => ∃ x M,RM K M H/\RD K H x v/\rd x M (KE' K M H Q)
noncomputable def lR (K:Frag) (rd:RAd):List V->Hp->VK->Prop:=fun vs H Q => ∃ ds M,RM K M H/\RDs K H ds vs/\rd ds M (KE' K M H Q)
noncomputable def lMt (K:Frag) (rd:D->List D->Mem->QD->Prop):V->List V->Hp->VK->Prop:=fun v vs H Q => ∃ x ds M,RM K M H/\RD K H x v/\RDs K H ds vs/\rd x ds M (KE' K M H Q)
noncomputable def bU (i:Nat):TEd:=fun ρ M Q => ∃ d, ρ[i]? = some (some d)/\Q d M
noncomputable def wC (d:D):TEd:=fun _ M Q=>Q d M
noncomputable def wOp (rd:R2d) (ta tb:TEd):TEd:=fun ρ M Q=>ta ρ M fun x M1=>tb ρ M1 fun y M2=>rd x y M2 Q
noncomputable def wUn (rd:R1d) (ta:TEd):TEd:=fun ρ M Q=>ta ρ M fun x M1=>rd x M1 Q
noncomputable def cb:TAd:=fun _ M Q=>Q [] M
noncomputable def bv (ta:TEd) (tr:TAd):TAd:=fun ρ M Q=>ta ρ M fun x M1=>tr ρ M1 fun xs M2=>Q (x::xs) M2
noncomputable def wAr (rd:RAd) (t:TAd):TEd:=fun ρ M Q=>t ρ M fun ds M1=>rd ds M1 Q
theorem vH {i:Nat}:ad (bU i):=fun _ _ _ _ h ⟨d,e,q⟩=>⟨d,e,h _ _ q⟩
theorem iY {d:D}:ad (wC d):=fun _ _ _ _ h q=>h _ _ q
theorem eA {rd:R2d} {ta tb:TEd} (j:aF rd) (z:ad ta) (B:ad tb):ad (wOp rd ta tb):=fun ρ M Q Q' h q =>
 z _ _ _ _ (fun x J F=>B _ _ _ _ (fun y M2 G=>j _ _ _ _ _ h G) F) q
theorem yD {rd:R1d} {ta:TEd} (j:qE rd) (z:ad ta):ad (wUn rd ta):=fun ρ M Q Q' h q=>z _ _ _ _ (fun x F B=>j _ _ _ _ h B) q
theorem aP:aW cb:=fun _ _ _ _ h q=>h _ _ q
theorem b9 {ta:TEd} {tr:TAd} (j:ad ta) (z:aW tr):aW (bv ta tr):=fun ρ M Q Q' h q =>
 j _ _ _ _ (fun x G B=>z _ _ _ _ (fun xs M2 F=>h _ _ F) B) q
theorem eB {rd:RAd} {t:TAd} (j:aO rd) (z:aW t):ad (wAr rd t):=fun ρ M Q Q' h q=>z _ _ _ _ (fun ds F B=>j _ _ _ _ h B) q
section
variable {X:Cx} {a b:Expr} {ta tb:TEd} {pos:Pos}
theorem Ay {i:Nat} {x:Str} (B:X.N[i]? = some x) (j:Vis X.env.scope x) (hd:(x==("__debug__":Str))=false) (z:(x==("__classdict__":Str))=false):PE X (.Name x pos) (lE X.K (bU i)):=by
 refine PE.imp (sd B j hd z) fun σ H Q h => ?_;obtain ⟨ρ,M,rs,rm,d,e,q⟩:=h;obtain ⟨v,j,rd⟩:=rs.2 i d e;exact ⟨v,j,q v H Ext.refl rm rd⟩
theorem Az {i:Int} {j:Nat}:PE X (.Constant (.int i) j pos) (lE X.K (wC (.int i))) :=
 PE.imp zY fun σ H Q ⟨ρ,M,rs,rm,q⟩=>q _ H Ext.refl rm (OK.mpr rfl)
theorem BS {i:Bool} {j:Nat}:PE X (.Constant (.bool i) j pos) (lE X.K (wC (.bl i))) :=
 PE.imp Bw fun σ H Q ⟨ρ,M,rs,rm,q⟩=>q _ H Ext.refl rm (ON.mpr rfl)
theorem AA {j:Nat}:PE X (.Constant .none j pos) (lE X.K (wC .non)) :=
 PE.imp zZ fun σ H Q ⟨ρ,M,rs,rm,q⟩=>q _ H Ext.refl rm (OR.mpr rfl)
theorem gx {K:Frag} {rd:R2d} (L:aF rd) (ma:ad ta) (mb:ad tb) (σ:St) (H:Hp) (Q:VK) (h:lE K (wOp rd ta tb) σ H Q):tOp (l2 K rd) (lE K ta) (lE K tb) σ H Q:=by
 obtain ⟨ρ,M,rs,rm,q⟩:=h;refine ⟨ρ,M,rs,rm,ma _ _ _ _ (fun x O U v H1 G j z => ?_) q⟩;refine ⟨ρ,O,rs.mono (G.stab rm),j,mb _ _ _ _ (fun y M2 Y u H2 J B F => ?_) U⟩;exact ⟨x,y,M2,B,z.mono (J.stab j),F,L _ _ _ _ _ (fun d M' k=>k.ext (G.trans J)) Y⟩
theorem BU {op:Jr} {rd:R2d} (ho:OpR X (GX op) (l2 X.K rd)) (j:aF rd) (ma:ad ta) (mb:ad tb) (q:PE X a (lE X.K ta)) (z:PE X b (lE X.K tb)):PE X (.BinOp a op b pos) (lE X.K (wOp rd ta tb)) :=
 PE.imp (BH ho q z) (gx j ma mb)
theorem AB {op:CmpOp} {rd:R2d} (ho:OpR X (Hx op) (l2 X.K rd)) (j:aF rd) (ma:ad ta) (mb:ad tb) (q:PE X a (lE X.K ta)) (z:PE X b (lE X.K tb)) (hm:J2 op b=false) :
 PE X (.Compare a [op] [b] pos) (lE X.K (wOp rd ta tb)):=PE.imp (yp ho q z hm) (gx j ma mb)
noncomputable def i7 (t:TEd):TTd:=fun ρ M Q=>t ρ M fun x M1 => ∃ k,x = .bl k/\Q k M1
theorem vI {t:TEd} (h:ad t):aA (i7 t):=fun ρ M Q Q' i q=>h _ _ _ _ (fun x z ⟨k,e,j⟩=>⟨k,e,i _ _ j⟩) q
theorem vJ {K:Frag} {t:TEd} (m:ad t) (σ:St) (H:Hp) (Q:Bool->Hp->Prop) (h:lT K (i7 t) σ H Q):xt (lE K t) σ H Q:=by
 obtain ⟨ρ,M,rs,rm,q⟩:=h;refine ⟨ρ,M,rs,rm,m _ _ _ _ (fun x G ⟨k,e,B⟩ v H1 F j z => ?_) q⟩;subst e;exact ⟨k,ON.mp z,B H1 F j⟩
theorem AC {op:CmpOp} {rd:R2d} (ho:OpR X (Hx op) (l2 X.K rd)) (j:aF rd) (ma:ad ta) (mb:ad tb) (q:PE X a (lE X.K ta)) (z:PE X b (lE X.K tb)) (hm:J2 op b=false) :
 PT X (.Compare a [op] [b] pos) (lT X.K (i7 (wOp rd ta tb))) :=
 PT.imp (yq ho q z hm) fun σ H Q h=>by
  have h1:=vJ (eA j ma mb) σ H Q h;exact gx j ma mb σ H _ h1
theorem BV {op:UnaryOp} {rd:R1d} (ho:UnR X (unaryOp op) (l1 X.K rd)) (B:qE rd) (ma:ad ta) (F:PE X a (lE X.K ta)):PE X (.UnaryOp op a pos) (lE X.K (wUn rd ta)) :=
 PE.imp (BI ho F) fun σ H Q ⟨ρ,M,rs,rm,q⟩=>⟨ρ,M,rs,rm,ma _ _ _ _ (fun x G J v H1 L j z=>⟨x,G,j,z,B _ _ _ _ (fun d M' k=>k.ext L) J⟩) q⟩
theorem BW {rd:R2d} (ho:IxR X (l2 X.K rd)) (j:aF rd) (ma:ad ta) (mb:ad tb) (q:PE X a (lE X.K ta)) (z:PE X b (lE X.K tb)) (hs:jJ b):PE X (.Subscript a b pos) (lE X.K (wOp rd ta tb)) :=
 PE.imp (BO ho q z hs) (gx j ma mb)
theorem fC:PA X [] (lA X.K cb):=PA.imp iL fun σ H Q ⟨ρ,M,rs,rm,q⟩=>q _ H Ext.refl rm RDs.nil
theorem sQ {K:Frag} {tr:TAd} (ma:ad ta) (mr:aW tr) (σ:St) (H:Hp) (Q:List V->Hp->Prop) (h:lA K (bv ta tr) σ H Q):xu (lE K ta) (lA K tr) σ H Q:=by
 obtain ⟨ρ,M,rs,rm,q⟩:=h;refine ⟨ρ,M,rs,rm,ma _ _ _ _ (fun x L O v H1 G j z => ?_) q⟩;refine ⟨ρ,L,rs.mono (G.stab rm),j,mr _ _ _ _ (fun xs M2 U vs H2 J B F => ?_) O⟩;exact U (v::vs) H2 (G.trans J) B (RDs.cons (z.mono (J.stab j)) F)
theorem di {e:Expr} {es:List Expr} {tr:TAd} (ma:ad ta) (mr:aW tr) (j:PE X e (lE X.K ta)) (q:PA X es (lA X.K tr)) (hs:FO (e::es) X.env=(false,eval e X.env)::FO es X.env) :
 PA X (e::es) (lA X.K (bv ta tr)):=PA.imp (cB j q hs) (sQ ma mr)
theorem bq {K:Frag} {rd:RAd} {t:TAd} (B:aO rd) (mt:aW t) (σ:St) (H:Hp) (Q:VK) (h:lE K (wAr rd t) σ H Q):tCB (lR K rd) (lA K t) σ H Q:=by
 obtain ⟨ρ,M,rs,rm,q⟩:=h;exact ⟨ρ,M,rs,rm,mt _ _ _ _ (fun ds F G vs H1 J j z=>⟨ds,F,j,z,B _ _ _ _ (fun d M' k=>k.ext J) G⟩) q⟩
noncomputable def jP:RAd:=fun ds M Q=>ds.length<=Fj/\Q (.tup ds) M
noncomputable def mn:RAd:=fun ds M Q=>ds.length<=Fj /\ ∀ p,M p=none->Q (.ref p) (ag M p (.lst ds))
theorem sR:aO jP:=fun _ _ _ _ h ⟨z,q⟩=>⟨z,h _ _ q⟩
theorem sU:aO mn:=fun _ _ _ _ h ⟨z,q⟩=>⟨z,fun p n=>h _ _ (q p n)⟩
theorem dj {K:Frag} {M:Mem} {H:Hp} {Q:VK} {ds:List D} {vs:List V} {p:Addr} (rm:RM K M H) (rd:RDs K H ds vs) (q:KE' K M H Q (.tup ds) M) (n:H p=none):Q (.ref p) (upd H p (.tup vs)):=by
 have x:Ext M H M (upd H p (.tup vs)):=OT n;exact q (.ref p) _ x (rm.new n) (OU ⟨p,vs,rfl,ar,rd.mono (x.stab rm)⟩)
theorem cC {K:Frag} {M:Mem} {H:Hp} {Q:VK} {ds:List D} {vs:List V} {p:Addr} (rm:RM K M H) (rd:RDs K H ds vs) (q:∀ p,M p=none->KE' K M H Q (.ref p) (ag M p (.lst ds))) (n:H p=none):Q (.ref p) (upd H p (.lst vs)):=by
 have x:Ext M H (ag M p (.lst ds)) (upd H p (.lst vs)):=Ext.lay n;have x0:Ext M H M (upd H p (.lst vs)):=OT n;exact q p (rm.out n) (.ref p) _ x (rm.lay n ⟨vs,ar,rd.mono (x0.stab rm)⟩) (OL.mpr rfl)
theorem AD {es:List Expr} {t:TAd} {k:Nat} (mt:aW t) (h:PA X es (lA X.K t)):PE X (.Tuple es k pos) (lE X.K (wAr jP t)) :=
 PE.imp (sB h) fun σ H Q ⟨ρ,M,rs,rm,q⟩=>⟨ρ,M,rs,rm,mt _ _ _ _ (fun ds J ⟨z,F⟩ vs H1 G B j=>⟨by rw [j.length];exact z,fun p n=>dj B j (F.ext G) n⟩) q⟩
theorem AE {es:List Expr} {t:TAd} (mt:aW t) (h:PA X es (lA X.K t)):PE X (.List es pos) (lE X.K (wAr mn t)) :=
 PE.imp (An h) fun σ H Q ⟨ρ,M,rs,rm,q⟩=>⟨ρ,M,rs,rm,mt _ _ _ _ (fun ds J ⟨z,F⟩ vs H1 G B j=>⟨by rw [j.length];exact z,fun p n=>cC B j (fun p' n'=>(F p' n').ext G) n⟩) q⟩
end
end
end Mi
end L2
namespace L2
open PySem PySem.Spec PyProof.Rows
namespace Mi
end Mi
end L2
namespace L2
open PySem PySem.Spec PyProof.Rows
section
theorem i8:fillsNumberSlot (.type "tuple") "mul" = pure false :=
 PyProof.Rows.fillsNumberSlot_seq (id := "tuple.__mul__") (r:=some (.builtin "tuple.__rmul__")) F.slot_tuple_mul.lookup (by decide +kernel) F.slot_tuple_rmul.lookup (by decide +kernel)
theorem mq:seqRepeat? (.type "tuple")=pure (some (.builtin "tuple.__mul__")):=by
 unfold seqRepeat?;rw [L6 (T := "tuple") (name := "__mul__") (id := "tuple.__mul__") F.slot_tuple_mul.lookup (by decide +kernel),L6 (T := "tuple") (name := "__rmul__") (id := "tuple.__rmul__") F.slot_tuple_rmul.lookup (by decide +kernel)]
 rfl
theorem jQ (a:Int) (t:Tok) (l:Addr) (items:Array gV) (n:Nat) (d:Option Addr) (sl:Array (Option gV)) :
 Meets (GR.«int.__rmul__» ⟨[.int a t, .ref l],[]⟩) (fun _ R s=>s.heap.get? l=some { cls := .type "tuple",dict:=d,data := .seq items n,slots:=sl }/\R (.ok (.ret Value.notImplemented)) s) :=
 .of_wp fun prog w A R s h=>by obtain ⟨j,g,d,tk,os⟩:=s;obtain ⟨q,h⟩:=h;wp_walk;exact ⟨_,rfl,h⟩
open AutoSeq1 (wpAny_loadPart') in
theorem sV (l:Addr) (items:Array gV) (n:Nat) (dd:Option Addr) (sl:Array (Option gV)) (x:Int) (u:Tok) (h1 : -(2 ^ 63)<=x) (h2:x < 2 ^ 63) (z:items.size*x.toNat<=Fj) :
 Meets (GR.«tuple.__mul__» ⟨[.ref l, .int x u],[]⟩) (fun _ R s=>s.heap.get? l=some { cls := .type "tuple",dict:=dd,data := .seq items n,slots:=sl } /\
  (if items.isEmpty || x==1 then R (.ok (.ret (.ref l))) s else R (.ok (.ret (.ref s.heap.objs.size))) { s with heap:=s.heap.push { cls := .type "tuple",data := .seq ((Fm x.toNat items).foldl (· ++ ·) #[]) } })) :=
 .of_wp fun prog w A R s h=>by
  obtain ⟨O,g,d,tk,os⟩:=s;obtain ⟨j,h⟩:=h;have f1:=AutoSeq1.idx_int;have B:(decide (x < -(2 ^ 63)) || decide (x≥2 ^ 63))=false:=by
   rw [decide_eq_false (by lia),decide_eq_false (by lia)];rfl
  wp_walk using IC j
  refine Hi (decide_eq_false (by rw [B];decide)) ?_
  dsimp only
  by_cases e1:(items.isEmpty || x==1)=true
  ·rw [if_pos e1] at h
   wp_walk using IC j
   exact ⟨_,rfl,h⟩
  ·rw [if_neg e1] at h
   wp_walk using IC j
   simp only [LB,not_or] at e1
   by_cases e2:x<=0
   ·have q:(decide (x<=0) || items.isEmpty)=true:=by rw [decide_eq_true e2];rfl
    rw [if_pos q];have F:x.toNat=0:=by lia
    rw [F] at h
    wp_walk
    exact ⟨_,rfl,h⟩
   ·have q : ¬ (decide (x<=0) || items.isEmpty)=true:=by simp;exact ⟨by lia,by simpa using e1.1⟩
    rw [if_neg q];have hx:((items.size:Nat):Int)*x=((items.size*x.toNat:Nat):Int):=by
     rw [Int.natCast_mul,Mr (by lia)]
    have hs:Fj=16777216:=Fb;have G : ¬ ((items.size:Nat):Int)*x > (2 ^ 63 - 1) / 8:=by rw [hx];lia
    rw [if_neg G];have J : ¬ Ks (((items.size:Nat):Int)*x)=true:=by
     rw [hx];unfold Ks;intro L;have U:=of_decide_eq_true L;lia
    rw [if_neg J]
    wp_walk
    have hsz:((Fm x.toNat items).foldl (· ++ ·) #[]).size<=Fj:=by
     have:∀ (k:Nat) (a:Array gV),((Fm k items).foldl (· ++ ·) a).size=a.size+items.size*k:=by
      intro k;induction k with
      | zero=>intro a;simp
      | succ k ih=>intro a;rw [GF,Jb,ih,IK,Nat.mul_succ];lia
     rw [this];simpa using z
    refine Hi (decide_eq_false (Oo.mpr hsz)) ?_
    wp_walk
    exact ⟨_,rfl,h⟩
end
section
section
variable {X:Cx}
noncomputable def xC (K:Frag):R2:=fun x y H Q => ∃ l k xs,x = .ref l/\y = .int k/\SqT K H l xs /\ -(2 ^ 63)<=k/\k < 2 ^ 63/\xs.length*k.toNat<=Fj /\
 ((xs=[]∨k=1)->Q (.ref l) H)/\(¬ (xs=[]∨k=1) -> ∀ p,H p=none->Q (.ref p) (upd H p (.tup (Fm k.toNat xs).flatten)))
theorem yE:OpR X (GX .Mult) (xC X.K):=by
 intro pins s σ H x y v u Q I rx ry h;obtain ⟨l,k,xs,rfl,rfl,G,h1,h2,j,J,L⟩:=h
 cases rx
 obtain ⟨t,rfl⟩:=ry;obtain ⟨its,r,O,_⟩:=I.tuple G;have Y:=r.length;obtain ⟨⟨cls,dd,dat,sl⟩,e,B,n,hd⟩:=O;dsimp only at B hd;subst B hd;have hlen:its.toArray.size*k.toNat<=Fj:=by rw [Fn, <- Y];exact j
 have f0:∀ m:Nat,JM (fun Z x2=>Z++x2) #[] (Fm m its.toArray)=(Fm m its).flatten.toArray:=fun m=>by
  have:=fA its m [];rw [K0] at this;exact this
 refine Kx (T := "tuple") (U := "int") (by decide) ⟨_,e,rfl⟩ (fun s'=>Lo s' k t) i8 O6 K1 mq F.slot_int_index.lookup
  (Kq K1 (Lo s k t) NH (Nh _ _) (jQ k t l its.toArray n dd sl)
    ⟨e,rfl,⟨_,e,rfl⟩,Kq F.slot_tuple_mul ⟨_,e,rfl⟩ F.entry_tuple_mul (F.args_tuple_mul_2 _ _) (sV l its.toArray n dd sl k t h1 h2 hlen) ⟨e, ?_⟩⟩)
 have hi:(its.toArray.isEmpty || k==1)=true↔(xs=[]∨k=1):=by
  rw [<- r.nil_iff];simp
 split
 ·next c=>exact ⟨.ref l,H,I,rfl,J (hi.mp c)⟩
 ·next c =>
  rw [f0];refine ⟨.ref s.heap.objs.size,_,I.laid (t':=s.toks) (o := .tup (Fm k.toNat xs).flatten) (fun b ob q=>q7 _ q) (Fl _) ?_,rfl,L (fun z=>c (hi.mpr z)) _ (I.hok.fresh (Fl _))⟩;exact ⟨by rw [ph,Nat.mul_comm];exact j,_,r.rep k.toNat,Ki _ _⟩
end
end
section
section
variable {X:Cx}
theorem yF:OpR X (GX .Add) (fun x y H Q => ∃ a b ys,x = .ref a/\y = .ref b/\SqT X.K H a []/\SqT X.K H b ys/\Q (.ref b) H):=by
 intro pins s σ H x y v u Q I rx ry h;obtain ⟨a,b,ys,rfl,rfl,U,Y,q⟩:=h
 cases rx
 cases ry
 obtain ⟨its,Z,p1,_⟩:=I.tuple U;obtain ⟨j,r2,p2,_⟩:=I.tuple Y;have e0:its=[]:=Z.nil_iff.mpr rfl;obtain ⟨⟨cls,dd,data,sl⟩,ho,L,n,hd⟩:=id p1;obtain ⟨⟨O,G,data2,J⟩,z,B,n2,hd2⟩:=id p2;simp only at L hd B hd2;subst L hd B hd2;exact Nf ⟨_,ho,rfl⟩ ⟨_,z,rfl⟩ KZ My Jv Jo (J4 _ _)
  (tuple_addW0 a b its.toArray j.toArray n n2 dd G sl J (by simp [e0])) ⟨ho,z,⟨.ref b,H,I,rfl,q⟩⟩
end
end
end L2
namespace L2
namespace Mi
open PySem PySem.Spec PyProof.Rows
section
def MulOk (i j:Int):Prop:=(-(2 ^ 64) < i/\i < 2 ^ 64)∨(-(2 ^ 64) < j/\j < 2 ^ 64)∨(Ms i<=2 ^ 20/\Ms j<=2 ^ 20)
theorem MulOk.ok {i j:Int} (h:MulOk i j):IntMulOk i j:=by
 rcases h with h | h | h
 ·exact IntMulOk.of_left (intBits_le_64 h.1 h.2)
 ·exact IntMulOk.of_right (intBits_le_64 h.1 h.2)
 ·exact IntMulOk.of_bits h.1 h.2
noncomputable def fD:R2d
 | .int i, .int j,M,Q=>Q (.int (i+j)) M
 | .tup a, .tup b,M,Q=>(a≠[]∨True)/\a.length+b.length<=Fj/\Q (.tup (a++b)) M
 | .ref a, .ref b,M,Q => ∃ xs ys,M a=some (.lst xs)/\M b=some (.lst ys)/\xs.length+ys.length<=Fj /\ ∀ p,M p=none->Q (.ref p) (ag M p (.lst (xs++ys)))
 | .str x, .str y,M,Q=>x.length+y.length<=Fj/\Q (.str (x++y)) M
 | _,_,_,_=>False
noncomputable def qF:R2d
 | .int i, .int j,M,Q=>Q (.int (i - j)) M
 | _,_,_,_=>False
noncomputable def jR:R2d
 | .int i, .int j,M,Q=>MulOk i j/\Q (.int (i*j)) M
 | .ref a, .int k,M,Q => ∃ xs,M a=some (.lst xs) /\ -(2 ^ 63)<=k/\k < 2 ^ 63/\xs.length*k.toNat<=Fj /\ ∀ p,M p=none->Q (.ref p) (ag M p (.lst (Fm k.toNat xs).flatten))
 | .tup ds, .int k,M,Q => -(2 ^ 63)<=k/\k < 2 ^ 63/\ds.length*k.toNat<=Fj/\Q (.tup (Fm k.toNat ds).flatten) M
 | _,_,_,_=>False
noncomputable def lB:R2d
 | .int i, .int j,M,Q => 0 < j/\j < 2 ^ 256/\Q (.int (i / j)) M
 | _,_,_,_=>False
noncomputable def qG:R2d
 | .int i, .int j,M,Q => 0 < j/\Q (.int (i % j)) M
 | _,_,_,_=>False
noncomputable def qH:R2d
 | .int i, .int j,M,Q => 0<=j/\j<=1000000/\i.natAbs < 2 ^ 64/\Q (.int (i ^ j.toNat)) M
 | _,_,_,_=>False
theorem vK:aF fD:=by
 intro x y M Q Q' h q
 cases x <;> cases y <;> first
  | exact q.elim
  | exact h _ _ q
  | exact ⟨q.1,h _ _ q.2⟩
  | exact ⟨q.1,q.2.1,h _ _ q.2.2⟩
  | (obtain ⟨xs,ys,e1,e2,z,q⟩:=q;exact ⟨xs,ys,e1,e2,z,fun p n=>h _ _ (q p n)⟩)
theorem vL:aF qF:=by
 intro x y M Q Q' h q
 cases x <;> cases y <;> first | exact q.elim | exact h _ _ q
theorem vM:aF jR:=by
 intro x y M Q Q' h q
 cases x <;> cases y <;> first
  | exact q.elim
  | exact ⟨q.1,h _ _ q.2⟩
  | exact ⟨q.1,q.2.1,q.2.2.1,h _ _ q.2.2.2⟩
  | (obtain ⟨xs,e1,j,z,B,q⟩:=q;exact ⟨xs,e1,j,z,B,fun p n=>h _ _ (q p n)⟩)
theorem sW:aF lB:=by
 intro x y M Q Q' h q
 cases x <;> cases y <;> first | exact q.elim | exact ⟨q.1,q.2.1,h _ _ q.2.2⟩
theorem vN:aF qG:=by
 intro x y M Q Q' h q
 cases x <;> cases y <;> first | exact q.elim | exact ⟨q.1,h _ _ q.2⟩
theorem vO:aF qH:=by
 intro x y M Q Q' h q
 cases x <;> cases y <;> first | exact q.elim | exact ⟨q.1,q.2.1,q.2.2.1,h _ _ q.2.2.2⟩
section
variable {X:Cx}
theorem OpR.of {f:gV->gV->Sem gV} {r r':R2} (h:OpR X f r) (i:∀ v u H Q,r' v u H Q->r v u H Q):OpR X f r':=fun pins s σ H x y v u Q I rx ry q=>h pins s σ H x y v u Q I rx ry (i _ _ _ _ q)
theorem IxR.of {r r':R2} (h:IxR X r) (i:∀ v u H Q,r' v u H Q->r v u H Q):IxR X r':=fun a b pins s σ H x y v u Q I rx ry q=>h a b pins s σ H x y v u Q I rx ry (i _ _ _ _ q)
theorem CallR.of {f:gV} {r r':List V->Hp->VK->Prop} (h:CallR X f r) (i:∀ vs H Q,r' vs H Q->r vs H Q):CallR X f r':=fun pins s σ H xs us Q I rx q=>h pins s σ H xs us Q I rx (i _ _ _ q)
theorem BX {K:Frag} {M:Mem} {H:Hp} {Q:VK} {a b:List D} {v u:V} (rm:RM K M H) (rx:RD K H (.tup a) v) (ry:RD K H (.tup b) u) (q:fD (.tup a) (.tup b) M (KE' K M H Q)):xw K v u H Q ∨ ∃ a b ys,v = .ref a/\u = .ref b/\SqT K H a []/\SqT K H b ys/\Q (.ref b) H:=by
 obtain ⟨a',vs,rfl,z,j⟩:=OQ rx;obtain ⟨b',us,rfl,B,F⟩:=OQ ry;obtain ⟨_,J,q⟩:=q;have l1:=j.length;have l2:=F.length
 by_cases G:a=[]
 ·subst G;have:vs=[]:=RDs.nil_iff.mp j;subst this;exact .inr ⟨a',b',us,rfl,rfl,z,B,q _ H Ext.refl rm ry⟩
 refine .inl ⟨a',b',vs,us,rfl,rfl,z,B,fun e=>G (G6.mp (by rw [<- l1,e];rfl)),by lia,fun e => ?_,fun _ p n=>dj rm (j.append F) q n⟩
 have eb:b=[]:=G6.mp (by rw [<- l2,e];rfl)
 subst eb;rw [GB] at q;exact q _ H Ext.refl rm rx
theorem vP:OpR X (GX .Add) (l2 X.K fD):=by
 refine OpR.of (op_add.or ((op_catT.or yF).or (op_cat.or qu))) fun v u H Q h => ?_;obtain ⟨x,y,M,rm,rx,ry,q⟩:=h
 cases x <;> cases y <;> first
  | exact q.elim
  | (cases OK.mp rx;cases OK.mp ry;exact .inl ⟨_,_,rfl,rfl,q _ H Ext.refl rm (OK.mpr rfl)⟩)
  | exact .inr (.inl (BX rm rx ry q))
  | (cases OL.mp rx;cases OL.mp ry
     obtain ⟨xs,ys,e1,e2,z,q⟩:=q;obtain ⟨vs,h1,j⟩:=rm _ _ e1;obtain ⟨us,h2,B⟩:=rm _ _ e2;have l1:=j.length;have l2:=B.length;refine .inr (.inr (.inl ⟨_,_,vs,us,rfl,rfl,h1,h2,by lia,fun p n=>cC rm (j.append B) q n⟩)))
  | (cases OS.mp rx;cases OS.mp ry;exact .inr (.inr (.inr ⟨_,_,rfl,rfl,q.1,q.2 _ H Ext.refl rm (OS.mpr rfl)⟩)))
theorem vQ:OpR X (GX .Sub) (l2 X.K qF):=by
 refine OpR.of Ah fun v u H Q h => ?_;obtain ⟨x,y,M,rm,rx,ry,q⟩:=h
 cases x <;> cases y <;> first
  | exact q.elim
  | (cases OK.mp rx;cases OK.mp ry;exact ⟨_,_,rfl,rfl,q _ H Ext.refl rm (OK.mpr rfl)⟩)
theorem op_mul_i:OpR X (GX .Mult) (rI MulOk fun i j => .int (i*j)):=opI fun _ _ _ _ _ _ _ z q=>mul_int q z.ok
theorem BY {K:Frag} {M:Mem} {H:Hp} {Q:VK} {a:List D} {k:Int} {v u:V} (rm:RM K M H) (rx:RD K H (.tup a) v) (ry:RD K H (.int k) u) (q:jR (.tup a) (.int k) M (KE' K M H Q)):xC K v u H Q:=by
 obtain ⟨a',vs,rfl,z,j⟩:=OQ rx
 cases OK.mp ry
 obtain ⟨B,F,G,q⟩:=q;have l1:=j.length;refine ⟨a',k,vs,rfl,rfl,z,B,F,by rw [l1];exact G,fun e => ?_,fun _ p n=>dj rm (j.rep _) q n⟩
 have ea:(Fm k.toNat a).flatten=a:=by
  rcases e with e | e
  ·have:a=[]:=G6.mp (by rw [<- l1,e];rfl)
   subst this;simp
  ·subst e;simp
 rw [ea] at q;exact q _ H Ext.refl rm rx
theorem vR:OpR X (GX .Mult) (l2 X.K jR):=by
 refine OpR.of (op_mul_i.or (op_rep.or yE)) fun v u H Q h => ?_;obtain ⟨x,y,M,rm,rx,ry,q⟩:=h
 cases x <;> cases y <;> first
  | exact q.elim
  | (cases OK.mp rx;cases OK.mp ry;exact .inl ⟨_,_,rfl,rfl,q.1,q.2 _ H Ext.refl rm (OK.mpr rfl)⟩)
  | (cases OL.mp rx;cases OK.mp ry
     obtain ⟨xs,e1,z,B,F,q⟩:=q;obtain ⟨vs,h1,j⟩:=rm _ _ e1;have l1:=j.length;exact .inr (.inl ⟨_,_,vs,rfl,rfl,h1,z,B,by rw [l1];exact F,fun p n=>cC rm (j.rep _) q n⟩))
  | exact .inr (.inr (BY rm rx ry q))
theorem vS:OpR X (GX .FloorDiv) (rI (fun _ j => 0 < j/\j < 2 ^ 256) fun i j => .int (i / j)):=L2.opI fun i j _ _ _ _ _ z q=>by
 have h1:(0:Int) < j:=z.1;have h2:j < 2 ^ 256:=z.2;have B:j.natAbs.log2 < 256:=(Nat.log2_lt (by lia)).mpr (by lia)
 exact floordiv_int (by lia) (by rw [Int.fdiv_eq_ediv_of_nonneg i (by lia)];exact q) (.inl (PyProof.noPylong_of_log2 (by lia)))
theorem sX:OpR X (GX .FloorDiv) (l2 X.K lB):=by
 refine OpR.of vS fun v u H Q h => ?_;obtain ⟨x,y,M,rm,rx,ry,q⟩:=h
 cases x <;> cases y <;> first
  | exact q.elim
  | (cases OK.mp rx;cases OK.mp ry;exact ⟨_,_,rfl,rfl,⟨q.1,q.2.1⟩,q.2.2 _ H Ext.refl rm (OK.mpr rfl)⟩)
theorem vT:OpR X (GX .Mod) (l2 X.K qG):=by
 refine OpR.of Ai fun v u H Q h => ?_;obtain ⟨x,y,M,rm,rx,ry,q⟩:=h
 cases x <;> cases y <;> first
  | exact q.elim
  | (cases OK.mp rx;cases OK.mp ry;exact ⟨_,_,rfl,rfl,q.1,q.2 _ H Ext.refl rm (OK.mpr rfl)⟩)
theorem vU:OpR X (GX .Pow) (l2 X.K qH):=by
 refine OpR.of Aj fun v u H Q h => ?_;obtain ⟨x,y,M,rm,rx,ry,q⟩:=h
 cases x <;> cases y <;> first
  | exact q.elim
  | (cases OK.mp rx;cases OK.mp ry;exact ⟨_,_,rfl,rfl,⟨q.1,q.2.1,q.2.2.1⟩,q.2.2.2 _ H Ext.refl rm (OK.mpr rfl)⟩)
noncomputable def qI:R1d
 | .int i,M,Q=>Q (.int (-i)) M
 | _,_,_=>False
theorem mv:qE qI:=by
 intro x M Q Q' h q
 cases x <;> first | exact q.elim | exact h _ _ q
theorem UnR.of {f:gV->Sem gV} {r r':V->Hp->VK->Prop} (h:UnR X f r) (i:∀ v H Q,r' v H Q->r v H Q):UnR X f r':=fun pins s σ H x v Q I rx q=>h pins s σ H x v Q I rx (i _ _ _ q)
theorem vW:UnR X (unaryOp .USub) (l1 X.K qI):=by
 refine UnR.of Ak fun v H Q h => ?_;obtain ⟨x,M,rm,rx,q⟩:=h
 cases x <;> first
  | exact q.elim
  | (cases OK.mp rx;exact ⟨_,rfl,q _ H Ext.refl rm (OK.mpr rfl)⟩)
noncomputable def au {α β:Type} (f : α -> Option β):List α -> Option (List β)
 | [] => some []
 | x::xs=>(f x).bind fun y=>(au f xs).map (y :: ·)
noncomputable def rb:Nat->Mem->D->Option GA
 | _,_, .non=>some .none
 | _,_, .bl b=>some (.bool b)
 | _,_, .int i=>some (.int i)
 | _,_, .str x=>if PyData.strOk x=true then some (.str x) else none
 | n+1,M, .tup ds=>(au (rb n M) ds).map Nl
 | n+1,M, .con ds=>(au (rb n M) ds).map NY
 | n+1,M, .ref a=>match M a with
   | some (.lst ds)=>(au (rb n M) ds).map NY
   | _=>none
 | 0,_, .tup _=>none
 | 0,_, .con _=>none
 | 0,_, .ref _=>none
 | _,_, .fn _=>none
theorem cY {n:Nat} {M:Mem} (ih:∀ d p,rb n M d=some p->p.depth<=n/\p.canLay0=true):∀ {ds:List D} {ps:List GA},au (rb n M) ds=some ps->HA ps<=n/\GH ps=true
 | [],ps,h=>by
  simp [au] at h;subst h;exact ⟨Ha _,rfl⟩
 | d::ds,ps,h=>by
   simp only [au] at h
   cases e1:rb n M d with
   | none=>rw [e1] at h;cases h
   | some p =>
     rw [e1] at h
     cases e2:au (rb n M) ds with
     | none=>simp [e2] at h
     | some qs =>
       simp [e2] at h;subst h;obtain ⟨a1,a2⟩:=ih d p e1;obtain ⟨b1,b2⟩:=cY ih e2;refine ⟨?_, ?_⟩
       ·show max p.depth (HA qs)<=n;lia
       ·show (p.canLay0&&GH qs)=true;rw [a2,b2];rfl
theorem cc {M:Mem}:∀ (n:Nat) (d:D) (p:GA),rb n M d=some p->p.depth<=n/\p.canLay0=true
 | n, .non,p,h=>by simp [rb] at h;subst h;exact ⟨Ha _,rfl⟩
 | n, .bl b,p,h=>by simp [rb] at h;subst h;exact ⟨Ha _,rfl⟩
 | n, .int b,p,h=>by simp [rb] at h;subst h;exact ⟨Ha _,rfl⟩
 | n, .str x,p,h=>by
   simp [rb] at h;obtain ⟨h1,h2⟩:=h;subst h2;exact ⟨Ha _,h1⟩
 | 0, .tup _,p,h=>by simp [rb] at h
 | 0, .con _,p,h=>by simp [rb] at h
 | 0, .ref _,p,h=>by simp [rb] at h
 | n, .fn _,p,h=>by simp [rb] at h
 | n+1, .tup ds,p,h=>by
   simp only [rb] at h
   cases e:au (rb n M) ds with
   | none=>rw [e] at h;cases h
   | some ps =>
     rw [e] at h;cases h;obtain ⟨a,b⟩:=cY (cc n) e;exact ⟨L7 a,b⟩
 | n+1, .con ds,p,h=>by
   simp only [rb] at h
   cases e:au (rb n M) ds with
   | none=>rw [e] at h;cases h
   | some ps =>
     rw [e] at h;cases h;obtain ⟨a,b⟩:=cY (cc n) e;exact ⟨L7 a,b⟩
 | n+1, .ref a,p,h=>by
   simp only [rb] at h
   cases e0:M a with
   | none=>rw [e0] at h;cases h
   | some o =>
     rw [e0] at h
     cases o with
     | dct _ _=>cases h
     | fdc _=>cases h
     | lst ds =>
       simp only at h
       cases e:au (rb n M) ds with
       | none=>rw [e] at h;cases h
       | some ps =>
         rw [e] at h;cases h;obtain ⟨a,b⟩:=cY (cc n) e;exact ⟨L7 a,b⟩
theorem cZ {K:Frag} {H:Hp} {n:Nat} {M:Mem} {h:Heap} (ih:∀ d p v u,rb n M d=some p->RD K H d v->RelV v u -> ∃ as,J8 h u p as) :
 ∀ {ds:List D} {ps:List GA} {vs:List V} {us:List gV},au (rb n M) ds=some ps->RDs K H ds vs->Vals vs us -> ∃ as,LS h us ps as
 | [],ps,vs,us,hm,r,rv=>by
  simp [au] at hm;subst hm;rw [RDs.nil_iff.mp r] at rv
  cases rv
  exact ⟨_, .nil⟩
 | d::ds,ps,vs,us,hm,r,rv=>by
   obtain ⟨v,vr,rfl,j,q⟩:=OM.mp r
   cases rv with
   | cons z B =>
     simp only [au] at hm
     cases e1:rb n M d with
     | none=>rw [e1] at hm;cases hm
     | some p =>
       rw [e1] at hm
       cases e2:au (rb n M) ds with
       | none=>simp [e2] at hm
       | some qs =>
         simp [e2] at hm;subst hm;obtain ⟨as,ra⟩:=ih d p v _ e1 j z;obtain ⟨bs,rbs⟩:=cZ ih e2 q B;exact ⟨_, .cons ra rbs⟩
theorem bm {pins:List (Addr×Obj)} {σ:St} {H:Hp} {s:tv} {M:Mem} (I:Inv X pins σ H s) (rm:RM X.K M H):∀ (n:Nat) (d:D) (p:GA) (v:V) (u:gV),rb n M d=some p->RD X.K H d v->RelV v u -> ∃ as,J8 s.heap u p as
 | n, .non,p,v,u,h,r,q=>by simp [rb] at h;subst h;cases OR.mp r;cases q;exact ⟨_, .none⟩
 | n, .bl b,p,v,u,h,r,q=>by simp [rb] at h;subst h;cases ON.mp r;cases q;exact ⟨_, .bool b⟩
 | n, .int b,p,v,u,h,r,q=>by simp [rb] at h;subst h;cases OK.mp r;obtain ⟨t,rfl⟩:=q;exact ⟨_, .int b t⟩
 | n, .str x,p,v,u,h,r,q=>by
   simp [rb] at h;obtain ⟨_,h2⟩:=h;subst h2;cases OS.mp r;obtain ⟨t,rfl⟩:=q;exact ⟨_, .str x t⟩
 | 0, .tup _,p,_,_,h,_,_=>by simp [rb] at h
 | 0, .con _,p,_,_,h,_,_=>by simp [rb] at h
 | 0, .ref _,p,_,_,h,_,_=>by simp [rb] at h
 | n, .fn _,p,_,_,h,_,_=>by simp [rb] at h
 | n+1, .tup ds,p,v,u,h,r,q=>by
   simp only [rb] at h
   cases e:au (rb n M) ds with
   | none=>rw [e] at h;cases h
   | some ps =>
     rw [e] at h;cases h;obtain ⟨a,vs,rfl,j,rs⟩:=OQ r
     cases q
     obtain ⟨its,rv,⟨o,ho,z,k,hd⟩,_⟩:=I.tuple j;obtain ⟨as,ra⟩:=cZ (bm I rm n) e rs rv;exact ⟨_, .tuple ho z hd (by simpa using ra)⟩
 | n+1, .con ds,p,v,u,h,r,q=>by
   simp only [rb] at h
   cases e:au (rb n M) ds with
   | none=>rw [e] at h;cases h
   | some ps =>
     rw [e] at h;cases h;obtain ⟨a,vs,rfl,j,rs⟩:=OP.mp r
     cases q
     obtain ⟨its,rv,⟨o,k,ho,z,_,hd⟩,_⟩:=I.list j.sq;obtain ⟨as,ra⟩:=cZ (bm I rm n) e rs rv;exact ⟨_, .list ho z hd (by simpa using ra)⟩
 | n+1, .ref a,p,v,u,h,r,q=>by
   simp only [rb] at h
   cases e0:M a with
   | none=>rw [e0] at h;cases h
   | some o =>
     rw [e0] at h
     cases o with
     | dct _ _=>cases h
     | fdc _=>cases h
     | lst ds =>
       simp only at h
       cases e:au (rb n M) ds with
       | none=>rw [e] at h;cases h
       | some ps =>
         rw [e] at h;cases h
         cases OL.mp r
         cases q
         obtain ⟨vs,j,rs⟩:=rm _ _ e0;obtain ⟨its,rv,⟨o,k,ho,z,_,hd⟩,_⟩:=I.list (SqL.of j);obtain ⟨as,ra⟩:=cZ (bm I rm n) e rs rv;exact ⟨_, .list ho z hd (by simpa using ra)⟩
noncomputable def wEq:R2d:=fun x y M Q => ∃ p q,rb 16 M x=some p/\rb 16 M y=some q/\Q (.bl (Ga p q)) M
noncomputable def wNe:R2d:=fun x y M Q => ∃ p q,rb 16 M x=some p/\rb 16 M y=some q/\Q (.bl (!PyData.eqv p q)) M
theorem yG:aF wEq:=fun _ _ _ _ _ h ⟨p,q,a,b,c⟩=>⟨p,q,a,b,h _ _ c⟩
theorem yH:aF wNe:=fun _ _ _ _ _ h ⟨p,q,a,b,c⟩=>⟨p,q,a,b,h _ _ c⟩
theorem yI (F:X.A.units+16 < HQ):OpR X (Hx .Eq) (l2 X.K wEq):=by
 intro pins s σ H x y v u Q I rx ry h;obtain ⟨d,e,M,rm,rd,re,p,q,j,z,k⟩:=h;obtain ⟨as,ra⟩:=bm I rm _ _ _ _ _ j rd rx;obtain ⟨bs,rb'⟩:=bm I rm _ _ _ _ _ z re ry;obtain ⟨G,p2⟩:=cc _ _ _ j;obtain ⟨J,B⟩:=cc _ _ _ z;exact SeqAt.compareEq_reads ra rb' p2 B (by lia) ⟨.bl _,H,I,rfl,k _ H Ext.refl rm (ON.mpr rfl)⟩
theorem yJ (F:X.A.units+16 < HQ):OpR X (Hx .NotEq) (l2 X.K wNe):=by
 intro pins s σ H x y v u Q I rx ry h;obtain ⟨d,e,M,rm,rd,re,p,q,j,z,k⟩:=h;obtain ⟨as,ra⟩:=bm I rm _ _ _ _ _ j rd rx;obtain ⟨bs,rb'⟩:=bm I rm _ _ _ _ _ z re ry;obtain ⟨G,p2⟩:=cc _ _ _ j;obtain ⟨J,B⟩:=cc _ _ _ z;exact SeqAt.compareNe_reads ra rb' p2 B (by lia) ⟨.bl _,H,I,rfl,k _ H Ext.refl rm (ON.mpr rfl)⟩
noncomputable def wLt:R2d
 | .int i, .int j,M,Q=>Q (.bl (decide (i < j))) M
 | _,_,_,_=>False
noncomputable def wLe:R2d
 | .int i, .int j,M,Q=>Q (.bl (decide (i<=j))) M
 | _,_,_,_=>False
noncomputable def wGt:R2d
 | .int i, .int j,M,Q=>Q (.bl (decide (j < i))) M
 | _,_,_,_=>False
noncomputable def wGe:R2d
 | .int i, .int j,M,Q=>Q (.bl (decide (j<=i))) M
 | _,_,_,_=>False
theorem yK:aF wLt:=by
 intro x y M Q Q' h q
 cases x <;> cases y <;> first | exact q.elim | exact h _ _ q
theorem yL:aF wGt:=by
 intro x y M Q Q' h q
 cases x <;> cases y <;> first | exact q.elim | exact h _ _ q
theorem yM:aF wGe:=by
 intro x y M Q Q' h q
 cases x <;> cases y <;> first | exact q.elim | exact h _ _ q
theorem yN:OpR X (Hx .Lt) (l2 X.K wLt):=by
 refine OpR.of BJ fun v u H Q h => ?_;obtain ⟨x,y,M,rm,rx,ry,q⟩:=h
 cases x <;> cases y <;> first
  | exact q.elim
  | (cases OK.mp rx;cases OK.mp ry;exact ⟨_,_,rfl,rfl,q _ H Ext.refl rm (ON.mpr rfl)⟩)
theorem yO:OpR X (Hx .Gt) (l2 X.K wGt):=by
 refine OpR.of BK fun v u H Q h => ?_;obtain ⟨x,y,M,rm,rx,ry,q⟩:=h
 cases x <;> cases y <;> first
  | exact q.elim
  | (cases OK.mp rx;cases OK.mp ry;exact ⟨_,_,rfl,rfl,q _ H Ext.refl rm (ON.mpr rfl)⟩)
theorem yP:OpR X (Hx .GtE) (l2 X.K wGe):=by
 refine OpR.of BL fun v u H Q h => ?_;obtain ⟨x,y,M,rm,rx,ry,q⟩:=h
 cases x <;> cases y <;> first
  | exact q.elim
  | (cases OK.mp rx;cases OK.mp ry;exact ⟨_,_,rfl,rfl,q _ H Ext.refl rm (ON.mpr rfl)⟩)
end
end
section
noncomputable def wIx:R2d:=fun x y M Q=>match x with
 | .tup ds => ∃ i d,y = .int i/\atI ds i=some d/\Q d M
 | .con ds => ∃ i d,y = .int i/\atI ds i=some d/\Q d M
 | .ref a=>(∃ ds i d,M a=some (.lst ds)/\y = .int i/\atI ds i=some d/\Q d M)∨(∃ t kvs d,M a=some (.dct t kvs)/\dL t y=true/\dget kvs y=some d/\Q d M) ∨ ∃ kvs d,M a=some (.fdc kvs)/\bK y=true/\dget kvs y=some d/\Q d M
 | _=>False
theorem pj:aF wIx:=by
 intro x y M Q Q' h q
 cases x with
 | tup ds=>obtain ⟨i,d,e,e2,q⟩:=q;exact ⟨i,d,e,e2,h _ _ q⟩
 | con ds=>obtain ⟨i,d,e,e2,q⟩:=q;exact ⟨i,d,e,e2,h _ _ q⟩
 | ref a =>
   rcases q with ⟨ds,i,d,e1,e2,j,q⟩ | ⟨t,kvs,d,e1,e2,j,q⟩ | ⟨kvs,d,e1,e2,j,q⟩
   ·exact .inl ⟨ds,i,d,e1,e2,j,h _ _ q⟩
   ·exact .inr (.inl ⟨t,kvs,d,e1,e2,j,h _ _ q⟩)
   ·exact .inr (.inr ⟨kvs,d,e1,e2,j,h _ _ q⟩)
 | _=>exact q.elim
theorem iZ {K:Frag} {H:Hp} {ds:List D} {vs:List V} {i:Int} {d:D} (r:RDs K H ds vs) (e:atI ds i=some d):∃ v,atI vs i=some v/\RD K H d v:=by
 unfold atI at e ⊢;rw [r.length]
 cases q:ixN ds.length i with
 | none=>rw [q] at e;cases e
 | some j =>
   rw [q] at e;exact r.get e
theorem jS {K:Frag} {H:Hp} {k:D} {q:Key} {v:V} (r:RKey k q) (h:RD K H k v):v=kV q:=by
 cases k <;> first
  | exact r.elim
  | (cases (show q=_ from r);first | exact OK.mp h | exact OS.mp h)
theorem eR {K:Frag} {H:Hp}:∀ {ds:List D} {ks:List Key} {vs:List V},G5 RKey ds ks->RDs K H ds vs->vs=ks.map kV
 | _,_,vs, .nil,h=>by rw [RDs.nil_iff.mp h];rfl
 | _,_,vs, .cons r t,h=>by
   obtain ⟨v,vr,rfl,h1,h2⟩:=OM.mp h;rw [jS r h1,eR t h2];rfl
theorem RKey.inj {d e:D} {k:Key} (a:RKey d k) (b:RKey e k):d=e:=by
 cases d <;> first
  | exact a.elim
  | (cases e <;> first | exact b.elim | (cases (show k=_ from a);injection (show _=_ from b) with z;rw [z]) | (cases (show k=_ from a);cases (show _=_ from b)))
theorem RKeysP.inj:∀ {d e:List D} {k:List Key},G5 RKey d k->G5 RKey e k->d=e
 | _,_,_, .nil, .nil=>rfl
 | _,_,_, .cons r t, .cons r' t'=>by rw [r.inj r',RKeysP.inj t t']
theorem RKeys.inj {d e:D} {k:List Key} (a:RKeys d k) (b:RKeys e k):d=e:=by
 cases d <;> first
  | exact a.elim
  | (cases e <;> first | exact b.elim | exact congrArg D.tup (RKeysP.inj a b))
theorem RKey.fun {d:D} {k k':Key} (a:RKey d k) (b:RKey d k'):k=k':=by
 cases d <;> first
  | exact a.elim
  | (cases (show k=_ from a);cases (show k'=_ from b);rfl)
theorem RKeysP.fun:∀ {d:List D} {k k':List Key},G5 RKey d k->G5 RKey d k'->k=k'
 | _,_,_, .nil, .nil=>rfl
 | _,_,_, .cons r t, .cons r' t'=>by rw [r.fun r',RKeysP.fun t t']
theorem RKeys.fun {d:D} {k k':List Key} (a:RKeys d k) (b:RKeys d k'):k=k':=by
 cases d <;> first
  | exact a.elim
  | exact RKeysP.fun a b
section
variable {κ:Type} [DecidableEq κ] {K:Frag} {H:Hp} {RK:D -> κ -> Prop} (inj:∀ {d e:D} {k : κ},RK d k->RK e k->d=e) (fn:∀ {d:D} {k k' : κ},RK d k->RK d k'->k=k')
include inj fn
theorem i9 {k:D} {q : κ} (j:RK k q):∀ {kvs:List (D×D)} {ps:List (κ × V)},G5 (fun p r=>RK p.1 r.1/\RD K H p.2 r.2) kvs ps ->
 (∀ d,dget kvs k=some d -> ∃ v,bI ps q=some v/\RD K H d v)/\(dget kvs k=none->bI ps q=none)
 | _,_, .nil=>⟨fun d e=>by simp [dget] at e,fun _=>rfl⟩
 | _,_, .cons (a:=p) (b:=r) (l₂ := ps) B t=>by
   obtain ⟨F,G⟩:=i9 j t
   by_cases e:p.1=k
   ·have e':r.1=q:=by
     have h1:=B.1;rw [e] at h1;exact fn h1 j
    refine ⟨fun d he => ?_,fun he => ?_⟩
    ·simp [dget,GL,e] at he;subst he;exact ⟨r.2,eO e',B.2⟩
    ·simp [dget,GL,e] at he
   ·have e' : ¬ r.1=q:=fun z=>e (by
     have h1:=B.1;rw [z] at h1;exact inj h1 j)
    have eq1:∀ l:List (D×D),dget (p::l) k=dget l k:=fun l=>by simp [dget,GL,e]
    have eq2:bI (r::ps) q=bI ps q:=eP e';refine ⟨fun d he => ?_,fun he => ?_⟩
    ·rw [eq1] at he;rw [eq2];exact F d he
    ·rw [eq1] at he;rw [eq2];exact G he
end
section
variable {X:Cx}
theorem sY {K:Frag} {H:Hp} {a:Addr} {ps:List (List Key×V)} {kvs:List (D×D)} {k:D} {v:V} (B:Rd H a (.dT ps)) (pr:G5 (fun (p:D×D) (q:List Key×V)=>RKeys p.1 q.1/\RD K H p.2 q.2) kvs ps) (ok:bK k=true) (rk:RD K H k v) :
 ∃ o,DGet H a v o/\(∀ d,dget kvs k=some d -> ∃ w,o=some w/\RD K H d w)/\(dget kvs k=none->o=none):=by
 obtain ⟨q,j⟩:=jM ok;obtain ⟨g1,g2⟩:=i9 (RK:=RKeys) RKeys.inj RKeys.fun j pr;refine ⟨bI ps q, ?_,g1,g2⟩
 cases k <;> first
  | exact j.elim
  | (obtain ⟨b,us,rfl,z,ru⟩:=OZ (jN ok) rk
     rw [eR j ru] at z;exact .inr ⟨ps,q,b,B,rfl,z,rfl⟩)
theorem jT {K:Frag} {M:Mem} {H:Hp} {a:Addr} {t:Bool} {kvs:List (D×D)} {k:D} {v:V} (rm:RM K M H) (e:M a=some (.dct t kvs)) (ok:dL t k=true) (rk:RD K H k v) :
 ∃ o,DGet H a v o/\(∀ d,dget kvs k=some d -> ∃ w,o=some w/\RD K H d w)/\(dget kvs k=none->o=none):=by
 have ro:=rm a _ e
 cases t with
 | false =>
   obtain ⟨ps,j,pr⟩:=ro;obtain ⟨q,z⟩:=mj (show eQ k=true from ok);obtain ⟨g1,g2⟩:=i9 (RK:=RKey) RKey.inj RKey.fun z pr;refine ⟨bI ps q, ?_,g1,g2⟩;rw [jS z rk];exact DGet.k j
 | true =>
   obtain ⟨ps,j,pr⟩:=ro;exact sY (.inl j) pr ok rk
theorem yQ (j:X.A.units+1 < HQ):IxR X (fun x y H Q => ∃ a v,x = .ref a/\DGet H a y (some v)/\Q v H):=by
 intro value slice pins s σ H x y v u Q I rx ry h hs;obtain ⟨a,w,rfl,g,q⟩:=h
 cases rx
 have hd:IsD H a:=by
  rcases g with ⟨kvs,k,e,_⟩ | ⟨kvs,k,b,e,_⟩
  ·exact .inl ⟨kvs,e⟩
  ·exact .inr ⟨kvs,e⟩
 obtain ⟨z,_⟩:=eh I hd;exact tail_any z PySem.F.slot_dict_getitem.lookup (sL j I g ry fun w' s' I' r'=>⟨w,H,I',r',q⟩) hs
theorem CM (B:X.A.units+1 < HQ):IxR X (l2 X.K wIx):=by
 refine IxR.of (ix_list.or (ix_tup.or (yQ B))) fun v u H Q h => ?_;obtain ⟨x,y,M,rm,rx,ry,q⟩:=h
 cases x with
 | tup ds =>
   obtain ⟨i,d,rfl,e,q⟩:=q;obtain ⟨a,vs,rfl,j,rs⟩:=OQ rx
   cases OK.mp ry
   obtain ⟨w,hw,rw'⟩:=iZ rs e;exact .inr (.inl ⟨a,vs,i,w,rfl,rfl,j,hw,q w H Ext.refl rm rw'⟩)
 | con ds =>
   obtain ⟨i,d,rfl,e,q⟩:=q;obtain ⟨a,vs,rfl,j,rs⟩:=OP.mp rx
   cases OK.mp ry
   obtain ⟨w,hw,rw'⟩:=iZ rs e;exact .inl ⟨a,vs,i,w,rfl,rfl,j.sq,hw,q w H Ext.refl rm rw'⟩
 | ref a =>
   cases OL.mp rx
   rcases q with ⟨ds,i,d,e1,rfl,z,q⟩ | ⟨t,kvs,d,e1,e2,z,q⟩ | ⟨kvs,d,e1,e2,z,q⟩
   ·cases OK.mp ry
    obtain ⟨vs,j,rs⟩:=rm _ _ e1;obtain ⟨w,hw,rw'⟩:=iZ rs z;exact .inl ⟨a,vs,i,w,rfl,rfl,SqL.of j,hw,q w H Ext.refl rm rw'⟩
   ·obtain ⟨o,g,g1,_⟩:=jT rm e1 e2 ry;obtain ⟨w,rfl,rw'⟩:=g1 d z;exact .inr (.inr ⟨a,w,rfl,g,q w H Ext.refl rm rw'⟩)
   ·obtain ⟨ob,ps,F,pr⟩:=rm _ _ e1;obtain ⟨o,g,g1,_⟩:=sY (.inr ⟨ob,F⟩) pr e2 ry;obtain ⟨w,rfl,rw'⟩:=g1 d z;exact .inr (.inr ⟨a,w,rfl,g,q w H Ext.refl rm rw'⟩)
 | _=>exact q.elim
noncomputable def ic (M:Mem):D->Option Nat
 | .tup ds=>some ds.length
 | .con ds=>some ds.length
 | .ref a=>match M a with
  | some (.lst ds)=>some ds.length
  | _=>none
 | _=>none
noncomputable def eS:RAd:=fun xs M Q => ∃ x n,xs=[x]/\ic M x=some n/\Q (.int n) M
theorem mw:aO eS:=fun _ _ _ _ h ⟨x,n,e,l,q⟩=>⟨x,n,e,l,h _ _ q⟩
theorem RDs.one {K:Frag} {H:Hp} {d:D} {vs:List V} (h:RDs K H [d] vs):∃ v,vs=[v]/\RD K H d v:=by
 obtain ⟨v,r,rfl,h1,h2⟩:=OM.mp h;rw [RDs.nil_iff.mp h2];exact ⟨v,rfl,h1⟩
theorem RDs.two {K:Frag} {H:Hp} {d e:D} {vs:List V} (h:RDs K H [d,e] vs):∃ v u,vs=[v,u]/\RD K H d v/\RD K H e u:=by
 obtain ⟨v,r,rfl,h1,h2⟩:=OM.mp h;obtain ⟨u,rfl,j⟩:=RDs.one h2;exact ⟨v,u,rfl,h1,j⟩
theorem qJ:CallR X (.builtin "len") (lR X.K eS):=by
 refine CallR.of vp fun vs H Q h => ?_;obtain ⟨ds,M,rm,rs,x,n,rfl,l,q⟩:=h;obtain ⟨v,rfl,r⟩:=rs.one;refine ⟨v,n,rfl, ?_,q _ H Ext.refl rm (OK.mpr rfl)⟩
 cases x with
 | tup ds =>
   cases l
   obtain ⟨a,us,rfl,j,ru⟩:=OQ r;exact .inr ⟨us,j,ru.length.symm⟩
 | con ds =>
   cases l
   obtain ⟨a,us,rfl,j,ru⟩:=OP.mp r;exact .inl ⟨us,j.sq,ru.length.symm⟩
 | ref a =>
   cases OL.mp r
   simp only [ic] at l
   cases e:M a with
   | none=>rw [e] at l;cases l
   | some o =>
     rw [e] at l
     cases o with
     | dct _ _=>cases l
     | fdc _=>cases l
     | lst ds =>
       cases l
       obtain ⟨us,j,ru⟩:=rm _ _ e;exact .inl ⟨us,SqL.of j,ru.length.symm⟩
 | _=>cases l
noncomputable def mz:RAd:=fun xs M Q => ∃ i,xs=[.int i]/\Q (.int (if i < 0 then -i else i)) M
noncomputable def lD:RAd:=fun xs M Q => ∃ i j,xs=[.int i, .int j]/\Q (.int (if j < i then j else i)) M
noncomputable def mC:RAd:=fun xs M Q=>(∃ i,xs=[.int i]/\Q (.int i) M) ∨ ∃ k,xs=[.bl k]/\Q (.int (if k then 1 else 0)) M
theorem mD:aO mz:=fun _ _ _ _ h ⟨i,e,q⟩=>⟨i,e,h _ _ q⟩
theorem kI:aO lD:=fun _ _ _ _ h ⟨i,j,e,q⟩=>⟨i,j,e,h _ _ q⟩
theorem mF:aO mC:=fun _ _ _ _ h q=>q.elim (fun ⟨i,e,q⟩ => .inl ⟨i,e,h _ _ q⟩) fun ⟨i,e,q⟩ => .inr ⟨i,e,h _ _ q⟩
theorem qK:CallR X (.builtin "abs") (lR X.K mz):=by
 refine CallR.of vm fun vs H Q h => ?_;obtain ⟨ds,M,rm,rs,i,rfl,q⟩:=h;obtain ⟨v,rfl,r⟩:=rs.one
 cases OK.mp r
 exact ⟨i,rfl,q _ H Ext.refl rm (OK.mpr rfl)⟩
theorem oJ (z:X.calm=true):CallR X (.builtin "min") (lR X.K lD):=by
 refine CallR.of (su z) fun vs H Q h => ?_;obtain ⟨ds,M,rm,rs,i,j,rfl,q⟩:=h;obtain ⟨v,u,rfl,B,F⟩:=rs.two
 cases OK.mp B
 cases OK.mp F
 exact ⟨i,j,rfl,q _ H Ext.refl rm (OK.mpr rfl)⟩
theorem qL:CallR X (.type "int") (lR X.K mC):=by
 refine CallR.of sv fun vs H Q h => ?_;obtain ⟨ds,M,rm,rs,⟨i,rfl,q⟩ | ⟨i,rfl,q⟩⟩:=h
 ·obtain ⟨v,rfl,r⟩:=rs.one
  cases OK.mp r
  exact .inl ⟨i,rfl,q _ H Ext.refl rm (OK.mpr rfl)⟩
 ·obtain ⟨v,rfl,r⟩:=rs.one
  cases ON.mp r
  exact .inr ⟨i,rfl,q _ H Ext.refl rm (OK.mpr rfl)⟩
noncomputable def aC (M:Mem):D->Option (List D)
 | .tup ds=>some ds
 | .con ds=>some ds
 | .ref a=>match M a with
  | some (.lst ds)=>some ds
  | _=>none
 | _=>none
theorem sZ {K:Frag} {M:Mem} {H:Hp} {x:D} {ds:List D} {v:V} (rm:RM K M H) (r:RD K H x v) (e:aC M x=some ds):∃ p vs,v = .ref p/\(SqL K H p vs∨SqT K H p vs)/\RDs K H ds vs:=by
 cases x with
 | tup es =>
   cases e
   obtain ⟨a,us,rfl,j,ru⟩:=OQ r;exact ⟨a,us,rfl, .inr j,ru⟩
 | con es =>
   cases e
   obtain ⟨a,us,rfl,j,ru⟩:=OP.mp r;exact ⟨a,us,rfl, .inl j.sq,ru⟩
 | ref a =>
   cases OL.mp r
   simp only [aC] at e
   cases e0:M a with
   | none=>rw [e0] at e;cases e
   | some o =>
     rw [e0] at e
     cases o with
     | dct _ _=>cases e
     | fdc _=>cases e
     | lst es =>
       cases e
       obtain ⟨us,j,ru⟩:=rm _ _ e0;exact ⟨a,us,rfl, .inl (SqL.of j),ru⟩
 | _=>cases e
noncomputable def qM:RAd:=fun xs M Q => ∃ x ds,xs=[x]/\aC M x=some ds /\ ∀ p,M p=none->Q (.ref p) (ag M p (.lst ds))
noncomputable def mG:RAd:=fun xs M Q => ∃ x ds,xs=[x]/\aC M x=some ds/\Q (.tup ds) M
theorem kJ:aO qM:=fun _ _ _ _ h ⟨x,ds,e,l,q⟩=>⟨x,ds,e,l,fun p n=>h _ _ (q p n)⟩
theorem j0:aO mG:=fun _ _ _ _ h ⟨x,ds,e,l,q⟩=>⟨x,ds,e,l,h _ _ q⟩
theorem oK:CallR X (.type "list") (lR X.K qM):=by
 refine CallR.of lW fun vs H Q h => ?_;obtain ⟨ds,M,rm,rs,x,es,rfl,l,q⟩:=h;obtain ⟨v,rfl,r⟩:=rs.one;obtain ⟨p,us,rfl,sq,ru⟩:=sZ rm r l;exact ⟨p,us,rfl,sq,fun l' n=>cC rm ru q n⟩
theorem mH:CallR X (.type "tuple") (lR X.K mG):=by
 refine CallR.of ls fun vs H Q h => ?_;obtain ⟨ds,M,rm,rs,x,es,rfl,l,q⟩:=h;obtain ⟨v,rfl,r⟩:=rs.one
 cases x with
 | tup ds' =>
   cases l
   obtain ⟨a,us,rfl,j,ru⟩:=OQ r;exact ⟨a,us,rfl, .inr ⟨j,q _ H Ext.refl rm r⟩⟩
 | con ds' =>
   cases l
   obtain ⟨a,us,rfl,j,ru⟩:=OP.mp r;exact ⟨a,us,rfl, .inl ⟨j.sq,fun l' n=>dj rm ru q n⟩⟩
 | ref a =>
   cases OL.mp r
   simp only [aC] at l
   cases e0:M a with
   | none=>rw [e0] at l;cases l
   | some o =>
     rw [e0] at l
     cases o with
     | dct _ _=>cases l
     | fdc _=>cases l
     | lst es' =>
       cases l
       obtain ⟨us,j,ru⟩:=rm _ _ e0;exact ⟨a,us,rfl, .inl ⟨SqL.of j,fun l' n=>dj rm ru q n⟩⟩
 | _=>cases l
end
end
section
section
variable {X:Cx}
noncomputable def vX (M:Mem):D->Option Bool
 | .non=>some false
 | .bl b=>some b
 | .int i=>some (i != 0)
 | .tup ds=>some (!ds.isEmpty)
 | .con ds=>some (!ds.isEmpty)
 | .ref a=>match M a with
  | some (.lst ds)=>some (!ds.isEmpty)
  | _=>none
 | _=>none
noncomputable def mJ (t:TEd):TTd:=fun ρ M Q=>t ρ M fun x M1 => ∃ b,vX M1 x=some b/\Q b M1
theorem vY {t:TEd} (h:ad t):aA (mJ t):=fun ρ M Q Q' i q=>h _ _ _ _ (fun x z ⟨k,e,j⟩=>⟨k,e,i _ _ j⟩) q
theorem AF {K:Frag} {M:Mem} {H:Hp} {x:D} {b:Bool} {v:V} (rm:RM K M H) (r:RD K H x v) (e:vX M x=some b):vh K v H b:=by
 have emp:∀ {ds:List D} {vs:List V},RDs K H ds vs->(!ds.isEmpty) = !vs.isEmpty:=fun {ds vs} h=>by
  have l:=h.length
  cases ds <;> cases vs <;> first | rfl | (simp at l)
 cases x with
 | non=>cases e;cases OR.mp r;rfl
 | bl k=>cases e;cases ON.mp r;rfl
 | int i=>cases e;cases OK.mp r;rfl
 | tup ds =>
   cases e
   obtain ⟨a,vs,rfl,j,rs⟩:=OQ r;exact .inr (.inl ⟨vs,j,emp rs⟩)
 | con ds =>
   cases e
   obtain ⟨a,vs,rfl,j,rs⟩:=OP.mp r;exact .inl ⟨vs,j.sq,emp rs⟩
 | ref a =>
   cases OL.mp r
   simp only [vX] at e
   cases e0:M a with
   | none=>rw [e0] at e;cases e
   | some o =>
     rw [e0] at e
     cases o with
     | dct _ _=>cases e
     | fdc _=>cases e
     | lst ds =>
       cases e
       obtain ⟨vs,j,rs⟩:=rm _ _ e0;exact .inl ⟨vs,SqL.of j,emp rs⟩
 | str _=>cases e
 | fn _=>cases e
variable {a b:Expr} {ta tb:TEd} {pos:Pos}
theorem AG (m:ad ta) (B:PE X a (lE X.K ta)) (he:∀ whole,isTrue a X.env whole=(do let v <- whole;KG a.pos;holding [v] (truthy v))):PT X a (lT X.K (mJ ta)):=by
 refine PT.imp (vj B he) fun σ H Q h => ?_;obtain ⟨ρ,M,rs,rm,q⟩:=h;exact ⟨ρ,M,rs,rm,m _ _ _ _ (fun x J ⟨k,e,F⟩ v H1 G j z=>⟨k,AF j z e,F H1 G j⟩) q⟩
noncomputable def j3 (t:TTd):TTd:=fun ρ M Q=>t ρ M fun c M1=>Q (!c) M1
theorem t5 {t:TTd} (h:aA t):aA (j3 t):=fun ρ M Q Q' i q=>h _ _ _ _ (fun c z j=>i _ _ j) q
theorem AH {tA:TTd} (m:aA tA) (j:PT X a (lT X.K tA)):PT X (.UnaryOp .Not a pos) (lT X.K (j3 tA)):=by
 refine PT.imp (A2 j) fun σ H Q h => ?_;obtain ⟨ρ,M,rs,rm,q⟩:=h;exact ⟨ρ,M,rs,rm,m _ _ _ _ (fun c B z=>z) q⟩
noncomputable def j4 (t u:TTd):TTd:=fun ρ M Q=>t ρ M fun c M1=>if c=true then u ρ M1 Q else Q false M1
noncomputable def mK (t u:TTd):TTd:=fun ρ M Q=>t ρ M fun c M1=>if c=true then Q true M1 else u ρ M1 Q
theorem t6 {t u:TTd} (h:aA t) (k:aA u):aA (j4 t u):=fun ρ M Q Q' i q=>h _ _ _ _ (fun c z j=>by
 cases c with
 | true=>rw [if_pos rfl] at j ⊢;exact k _ _ _ _ i j
 | false=>rw [if_neg Fp] at j ⊢;exact i _ _ j) q
theorem vZ {t u:TTd} (h:aA t) (k:aA u):aA (mK t u):=fun ρ M Q Q' i q=>h _ _ _ _ (fun c z j=>by
 cases c with
 | true=>rw [if_pos rfl] at j ⊢;exact i _ _ j
 | false=>rw [if_neg Fp] at j ⊢;exact k _ _ _ _ i j) q
theorem yR {tA:TTd} (j:PT X a (lT X.K tA)):PW X (.BoolOp .And [a] pos) (lT X.K tA):=yg j
theorem AI {tA:TTd} (j:PT X a (lT X.K tA)):PW X (.BoolOp .Or [a] pos) (lT X.K tA):=A0 j
theorem AJ {tA tB:TTd} {rest:List Expr} (mA:aA tA) (mB:aA tB) (F:PT X a (lT X.K tA)) (G:PW X (.BoolOp .And (b::rest) pos) (lT X.K tB)):PW X (.BoolOp .And (a::b::rest) pos) (lT X.K (j4 tA tB)):=by
 refine PW.imp (A1 F G) fun σ H Q h => ?_;obtain ⟨ρ,M,rs,rm,q⟩:=h;refine ⟨ρ,M,rs,rm,mA _ _ _ _ (fun c J z H1 B j => ?_) q⟩
 cases c with
 | true=>rw [if_pos rfl] at z ⊢;exact ⟨ρ,J,rs.mono (B.stab rm),j,mB _ _ _ _ (fun d M2 k=>k.ext B) z⟩
 | false=>rw [if_neg Fp] at z ⊢;exact z H1 B j
theorem BZ {tA tB:TTd} {rest:List Expr} (mA:aA tA) (mB:aA tB) (F:PT X a (lT X.K tA)) (G:PW X (.BoolOp .Or (b::rest) pos) (lT X.K tB)):PW X (.BoolOp .Or (a::b::rest) pos) (lT X.K (mK tA tB)):=by
 refine PW.imp (By F G) fun σ H Q h => ?_;obtain ⟨ρ,M,rs,rm,q⟩:=h;refine ⟨ρ,M,rs,rm,mA _ _ _ _ (fun c J z H1 B j => ?_) q⟩
 cases c with
 | true=>rw [if_pos rfl] at z ⊢;exact z H1 B j
 | false=>rw [if_neg Fp] at z ⊢;exact ⟨ρ,J,rs.mono (B.stab rm),j,mB _ _ _ _ (fun d M2 k=>k.ext B) z⟩
noncomputable def j5 (ta tb:TEd):TEd:=fun ρ M Q=>ta ρ M fun x M1 => ∃ c,x = .bl c/\if c=true then tb ρ M1 Q else Q (.bl false) M1
noncomputable def mL (ta tb:TEd):TEd:=fun ρ M Q=>ta ρ M fun x M1 => ∃ c,x = .bl c/\if c=true then Q (.bl true) M1 else tb ρ M1 Q
noncomputable def j6 (ta:TEd):TEd:=fun ρ M Q=>ta ρ M fun x M1 => ∃ c,x = .bl c/\Q (.bl (!c)) M1
theorem t7 (h:ad ta) (k:ad tb):ad (j5 ta tb):=fun ρ M Q Q' i q=>h _ _ _ _ (fun x z ⟨c,e,j⟩=>⟨c,e,by
 cases c with
 | true=>rw [if_pos rfl] at j ⊢;exact k _ _ _ _ i j
 | false=>rw [if_neg Fp] at j ⊢;exact i _ _ j⟩) q
theorem w4 (h:ad ta) (k:ad tb):ad (mL ta tb):=fun ρ M Q Q' i q=>h _ _ _ _ (fun x z ⟨c,e,j⟩=>⟨c,e,by
 cases c with
 | true=>rw [if_pos rfl] at j ⊢;exact i _ _ j
 | false=>rw [if_neg Fp] at j ⊢;exact k _ _ _ _ i j⟩) q
theorem t8 (h:ad ta):ad (j6 ta):=fun ρ M Q Q' i q=>h _ _ _ _ (fun x z ⟨c,e,j⟩=>⟨c,e,i _ _ j⟩) q
theorem t9 {op:BoolOp} {t:TEd} (h:PE X a (lE X.K t)):PE X (.BoolOp op [a] pos) (lE X.K t):=A3 h
theorem AK {rest:List Expr} (ma:ad ta) (mb:ad tb) (G:PE X a (lE X.K ta)) (J:PE X (.BoolOp .And (b::rest) pos) (lE X.K tb)):PE X (.BoolOp .And (a::b::rest) pos) (lE X.K (j5 ta tb)):=by
 refine PE.imp (A4 G J) fun σ H Q h => ?_;obtain ⟨ρ,M,rs,rm,q⟩:=h;refine ⟨ρ,M,rs,rm,ma _ _ _ _ (fun x L ⟨c,e,z⟩ v H1 B j F => ?_) q⟩;subst e;refine ⟨c,ON.mp F, ?_⟩
 cases c with
 | true=>rw [if_pos rfl] at z ⊢;exact ⟨ρ,L,rs.mono (B.stab rm),j,mb _ _ _ _ (fun d M2 k=>k.ext B) z⟩
 | false=>rw [if_neg Fp] at z ⊢;exact z _ H1 B j (ON.mpr rfl)
theorem C1 {rest:List Expr} (ma:ad ta) (mb:ad tb) (G:PE X a (lE X.K ta)) (J:PE X (.BoolOp .Or (b::rest) pos) (lE X.K tb)):PE X (.BoolOp .Or (a::b::rest) pos) (lE X.K (mL ta tb)):=by
 refine PE.imp (BB G J) fun σ H Q h => ?_;obtain ⟨ρ,M,rs,rm,q⟩:=h;refine ⟨ρ,M,rs,rm,ma _ _ _ _ (fun x L ⟨c,e,z⟩ v H1 B j F => ?_) q⟩;subst e;refine ⟨c,ON.mp F, ?_⟩
 cases c with
 | true=>rw [if_pos rfl] at z ⊢;exact z _ H1 B j (ON.mpr rfl)
 | false=>rw [if_neg Fp] at z ⊢;exact ⟨ρ,L,rs.mono (B.stab rm),j,mb _ _ _ _ (fun d M2 k=>k.ext B) z⟩
theorem AL (ma:ad ta) (B:PE X a (lE X.K ta)):PE X (.UnaryOp .Not a pos) (lE X.K (j6 ta)):=by
 refine PE.imp (A5 B) fun σ H Q h => ?_;obtain ⟨ρ,M,rs,rm,q⟩:=h;refine ⟨ρ,M,rs,rm,ma _ _ _ _ (fun x J ⟨c,e,F⟩ v H1 G j z => ?_) q⟩;subst e;exact ⟨c,ON.mp z,F _ H1 G j (ON.mpr rfl)⟩
noncomputable def wIf (t:TTd) (ta tb:TEd):TEd:=fun ρ M Q=>t ρ M fun c M1=>if c=true then ta ρ M1 Q else tb ρ M1 Q
theorem yS {t:TTd} (h:aA t) (z:ad ta) (B:ad tb):ad (wIf t ta tb):=fun ρ M Q Q' i q=>h _ _ _ _ (fun c F j=>by
 cases c with
 | true=>rw [if_pos rfl] at j ⊢;exact z _ _ _ _ i j
 | false=>rw [if_neg Fp] at j ⊢;exact B _ _ _ _ i j) q
theorem C2 {c:Expr} {t:TTd} (mt:aA t) (ma:ad ta) (mb:ad tb) (G:PT X c (lT X.K t)) (J:PE X a (lE X.K ta)) (L:PE X b (lE X.K tb)):PE X (.IfExp c a b pos) (lE X.K (wIf t ta tb)):=by
 refine PE.imp (uZ G J L) fun σ H Q h => ?_;obtain ⟨ρ,M,rs,rm,q⟩:=h;refine ⟨ρ,M,rs,rm,mt _ _ _ _ (fun x F z H1 B j => ?_) q⟩
 cases x with
 | true=>rw [if_pos rfl] at z ⊢;exact ⟨ρ,F,rs.mono (B.stab rm),j,ma _ _ _ _ (fun d M2 k=>k.ext B) z⟩
 | false=>rw [if_neg Fp] at z ⊢;exact ⟨ρ,F,rs.mono (B.stab rm),j,mb _ _ _ _ (fun d M2 k=>k.ext B) z⟩
noncomputable def fE (xs:List D) (lo hi:Option Int):List D:=(xs.drop (HT.sIx xs.length 0 lo)).take (HT.sIx xs.length xs.length hi - HT.sIx xs.length 0 lo)
theorem mM {K:Frag} {H:Hp} {ds:List D} {vs:List V} (r:RDs K H ds vs) (lo hi:Option Int):RDs K H (fE ds lo hi) (fy vs lo hi):=by
 unfold fE fy;rw [r.length];exact (r.drop _).take _
noncomputable abbrev TOd:=al->Mem->(Option Int->Mem->Prop)->Prop
def eU (T:TOd):Prop := ∀ ρ M Q Q',(∀ d M',Q d M'->Q' d M')->T ρ M Q->T ρ M Q'
noncomputable def eD:TOd:=fun _ M Q=>Q none M
noncomputable def j7 (t:TEd):TOd:=fun ρ M Q=>t ρ M fun x M1 => ∃ i,x = .int i/\Q (some i) M1
theorem oM:eU eD:=fun _ _ _ _ h q=>h _ _ q
theorem tf (h:ad ta):eU (j7 ta):=fun ρ M Q Q' i q=>h _ _ _ _ (fun x z ⟨c,e,j⟩=>⟨c,e,i _ _ j⟩) q
noncomputable def lO (K:Frag) (T:TOd):TO:=fun σ H Q => ∃ ρ M,RS K H σ ρ /\ RM K M H/\T ρ M (fun o M' => ∀ H',Ext M H M' H'->RM K M' H'->Q o H')
theorem yT:PO X none (lO X.K eD):=fun pins s σ H Q I h=>by
 obtain ⟨ρ,M,rs,rm,q⟩:=h;exact yv pins s σ H Q I (q H Ext.refl rm)
theorem yU {e:Expr} (m:ad ta) (h:PE X e (lE X.K ta)):PO X (some e) (lO X.K (j7 ta)):=fun pins s σ H Q I hq=>by
 obtain ⟨ρ,M,rs,rm,q⟩:=hq;refine yw h pins s σ H Q I ⟨ρ,M,rs,rm,m _ _ _ _ (fun x G ⟨i,e,B⟩ v H1 F j z => ?_) q⟩;subst e;exact ⟨i,OK.mp z,B H1 F j⟩
noncomputable def eE:D->Option Int->Option Int->Mem->QD->Prop:=fun x lo hi M Q=>match x with
 | .tup ds=>Q (.tup (fE ds lo hi)) M
 | .ref a => ∃ ds,M a=some (.lst ds) /\ ∀ p,M p=none->Q (.ref p) (ag M p (.lst (fE ds lo hi)))
 | .con ds => ∀ p,M p=none->Q (.ref p) (ag M p (.lst (fE ds lo hi)))
 | _=>False
noncomputable def wSl (te:TEd) (tl th:TOd):TEd:=fun ρ M Q=>te ρ M fun x M1=>tl ρ M1 fun l M2=>th ρ M2 fun u M3=>eE x l u M3 Q
theorem qN {x:D} {lo hi:Option Int} {M:Mem} {Q Q':QD} (h:∀ d M',Q d M'->Q' d M') (q:eE x lo hi M Q):eE x lo hi M Q':=by
 cases x with
 | tup ds=>exact h _ _ q
 | ref a=>obtain ⟨ds,e,q⟩:=q;exact ⟨ds,e,fun p n=>h _ _ (q p n)⟩
 | con ds=>exact fun p n=>h _ _ (q p n)
 | _=>exact q.elim
theorem yV {tl th:TOd} (m:ad ta) (ml:eU tl) (mh:eU th):ad (wSl ta tl th):=fun ρ M Q Q' i q =>
 m _ _ _ _ (fun x F j=>ml _ _ _ _ (fun l M2 z=>mh _ _ _ _ (fun u G B=>qN i B) z) j) q
theorem C3 {e:Expr} {lo hi:Option Expr} {tl th:TOd} {p2:Pos} (m:ad ta) (ml:eU tl) (mh:eU th) (he:PE X e (lE X.K ta)) (hl:PO X lo (lO X.K tl)) (hu:PO X hi (lO X.K th)) :
 PE X (.Subscript e (.Slice lo hi none p2) pos) (lE X.K (wSl ta tl th)):=by
 refine PE.imp (vw (sl_tup.or (sl_list.or vA)) he hl hu) fun σ H Q h => ?_;obtain ⟨ρ,M,rs,rm,q⟩:=h;refine ⟨ρ,M,rs,rm,m _ _ _ _ (fun x M1 q1 v H1 O G U => ?_) q⟩;refine ⟨ρ,M1,rs.mono (O.stab rm),G,ml _ _ _ _ (fun l M2 q2 H2 Y L => ?_) q1⟩;refine ⟨ρ,M2,(rs.mono (O.stab rm)).mono (Y.stab G),L,mh _ _ _ _ (fun u M3 z H3 Z j => ?_) q2⟩;have B:=O.trans (Y.trans Z);have F:=(U.mono (Y.stab G)).mono (Z.stab L)
 cases x with
 | tup ds =>
   obtain ⟨a,vs,rfl,J,r⟩:=OQ F
   by_cases hw:HT.sIx vs.length 0 l=0/\HT.sIx vs.length vs.length u=vs.length
   ·refine .inr (.inr ⟨a,vs,rfl,J,hw, ?_⟩);have e:fE ds l u=ds:=by
     unfold fE;rw [<- r.length,hw.1,hw.2,r.length];simp
    simp only [eE] at z;rw [e] at z;exact z.ext B _ H3 Ext.refl j F
   ·simp only [eE] at z;exact .inl ⟨a,vs,rfl,J,hw,fun p n=>dj j (mM r l u) (z.ext B) n⟩
 | ref a =>
   cases OL.mp F
   obtain ⟨ds,e,z⟩:=z;obtain ⟨vs,J,r⟩:=j _ _ e;exact .inr (.inl ⟨a,vs,rfl,SqL.of J,fun p n=>cC j (mM r l u) (fun p' n'=>(z p' n').ext B) n⟩)
 | con ds =>
   obtain ⟨a,vs,rfl,J,r⟩:=OP.mp F;exact .inr (.inl ⟨a,vs,rfl,J.sq,fun p n=>cC j (mM r l u) (fun p' n'=>(z p' n').ext B) n⟩)
 | _=>exact z.elim
end
end
section
section
variable {X:Cx}
noncomputable def tyN (M:Mem):D->Option String
 | .non=>some "NoneType"
 | .bl _=>some "bool"
 | .int _=>some "int"
 | .str _=>some "str"
 | .tup _=>some "tuple"
 | .ref a=>match M a with
  | some (.lst _)=>some "list"
  | some (.dct _ _)=>some "dict"
  | _=>none
 | .con _=>none
 | .fn _=>none
noncomputable def dw (T t:String):Bool:=t==T || (t == "bool" && T == "int")
theorem xD {K:Frag} {M:Mem} {H:Hp} {x:D} {t:String} {v:V} (rm:RM K M H) (r:RD K H x v) (e:tyN M x=some t):bT K H v (.type t):=by
 cases x with
 | non=>cases e;cases OR.mp r;exact .non
 | bl k=>cases e;cases ON.mp r;exact .bl k
 | int i=>cases e;cases OK.mp r;exact .int i
 | str i=>cases e;cases OS.mp r;exact .str i
 | tup ds =>
   cases e
   obtain ⟨a,vs,rfl,j,rs⟩:=OQ r;exact .tup j
 | con ds=>cases e
 | fn _=>cases e
 | ref a =>
   cases OL.mp r
   simp only [tyN] at e
   cases e0:M a with
   | none=>rw [e0] at e;cases e
   | some o =>
     rw [e0] at e
     cases o with
     | lst ds =>
       cases e
       obtain ⟨vs,j,rs⟩:=rm _ _ e0;exact .lst j
     | dct t kvs =>
       cases e
       have ro:=rm _ _ e0
       cases t with
       | false=>obtain ⟨ps,j,_⟩:=ro;exact .dK j
       | true=>obtain ⟨ps,j,_⟩:=ro;exact .dT j
     | fdc kvs=>cases e
noncomputable def cg:List String := ["NoneType", "bool", "int", "str", "tuple", "list", "dict"]
theorem jU (K:Frag):∀ T∈["bool", "int", "str", "tuple", "list", "dict"], ∀ t∈cg,PySem.W.kitOne K (.type t) (.type T)=some (dw T t):=by
 intro T j t q;simp only [cg,Fo,Gn,or_false] at j q
 rcases j with rfl | rfl | rfl | rfl | rfl | rfl <;> rcases q with rfl | rfl | rfl | rfl | rfl | rfl | rfl <;> rfl
noncomputable def j8 (T:String) (ta:TEd):TEd:=fun ρ M Q=>ta ρ M fun x M1 => ∃ t,tyN M1 x=some t/\Q (.bl (dw T t)) M1
theorem tj {T:String} {ta:TEd} (h:ad ta):ad (j8 T ta):=fun ρ M Q Q' i q=>h _ _ _ _ (fun x z ⟨t,e,j⟩=>⟨t,e,i _ _ j⟩) q
theorem pA {M:Mem} {x:D} {t:String} (e:tyN M x=some t):t∈cg:=by
 cases x with
 | ref a =>
   simp only [tyN] at e
   cases e0:M a with
   | none=>rw [e0] at e;cases e
   | some o=>rw [e0] at e;cases o <;> cases e <;> simp [cg]
 | con _=>cases e
 | fn _=>cases e
 | _=>cases e;simp [cg]
theorem tm (T:String) (j:T∈["bool", "int", "str", "tuple", "list", "dict"]):CallR X (.builtin "isinstance") (fun vs H Q => ∃ v t,vs=[v, .ty T]/\bT X.K H v (.type t)/\t∈cg/\Q (.bl (dw T t)) H):=by
 intro pins s σ H xs us Q I r h;obtain ⟨v,t,rfl,ty,z,q⟩:=h;obtain ⟨u,c,rfl,ru,rc⟩:=qv r
 cases rc
 exact sy I ru ty (jU X.K T j t z) fun tk=>⟨.bl _,H,I.tok tk,rfl,q⟩
theorem yW {e:Expr} {ta:TEd} {T:String} {y:Str} {p p2 pos:Pos} (L:T∈["bool", "int", "str", "tuple", "list", "dict"]) (m:ad ta) (he:PE X e (lE X.K ta)) (O:Gl X "isinstance") (hm:X.mg "isinstance" = none)
 (z:Gl X y) (B:X.mg y=none) (U:HI y=some (.type T)) (Y:y ≠ "__name__") (F:(y==("__debug__":Str))=false)
 (hs:FO [e, .Name y p2] X.env=(false,eval e X.env)::FO [.Name y p2] X.env) (G:(J0 pos (FO [.Name y p2] X.env)).any (·.1)=false) :
 PE X (.Call (.Name "isinstance" p) [e, .Name y p2] [] pos) (lE X.K (j8 T ta)):=by
 have h2:PE X (.Name y p2) (tC (.ty T)):=jG z B U rfl Y F;refine PE.imp (ca (tm T L) O hm (by decide +kernel) (cB he (cB h2 iL rfl) hs) (by decide) (by decide) hs G) fun σ H Q h => ?_
 obtain ⟨ρ,M,rs,rm,q⟩:=h;exact ⟨ρ,M,rs,rm,m _ _ _ _ (fun x M1 ⟨t,e,Z⟩ v H1 x1 j J=>⟨v,t,rfl,xD j J e,pA e,Z _ H1 x1 j (ON.mpr rfl)⟩) q⟩
noncomputable def wBM (rd:D->List D->Mem->QD->Prop) (to:TEd) (t:TAd):TEd:=fun ρ M Q=>to ρ M fun x M1=>(∃ a xs,x = .ref a/\M1 a=some (.lst xs))/\t ρ M1 fun ds M2=>rd x ds M2 Q
def eV (rd:D->List D->Mem->QD->Prop):Prop := ∀ x ds M Q Q',(∀ d M',Q d M'->Q' d M')->rd x ds M Q->rd x ds M Q'
theorem pB {rd:D->List D->Mem->QD->Prop} {to:TEd} {t:TAd} (j:eV rd) (mo:ad to) (mt:aW t):ad (wBM rd to t):=fun ρ M Q Q' i q =>
 mo _ _ _ _ (fun x F ⟨e,z⟩=>⟨e,mt _ _ _ _ (fun ds M2 B=>j _ _ _ _ _ i B) z⟩) q
theorem xE {K:Frag} {M:Mem} {H:Hp} {x:D} {v:V} (rm:RM K M H) (r:RD K H x v) (h:∃ a xs,x = .ref a/\M a=some (.lst xs)):tyV K "list" v H:=by
 obtain ⟨a,xs,rfl,e⟩:=h
 cases OL.mp r
 obtain ⟨vs,j,_⟩:=rm _ _ e;exact .inl ⟨rfl,vs,SqL.of j⟩
theorem yX {K:Frag} {rd:D->List D->Mem->QD->Prop} {r:V->List V->Hp->VK->Prop} {to:TEd} {t:TAd} (L:eV rd) (mo:ad to) (mt:aW t)
 (O:∀ v vs H Q,lMt K rd v vs H Q->r v vs H Q) (σ:St) (H:Hp) (Q:VK) (h:lE K (wBM rd to t) σ H Q):tBM K "list" r (lE K to) (lA K t) σ H Q:=by
 obtain ⟨ρ,M,rs,rm,q⟩:=h;refine ⟨ρ,M,rs,rm,mo _ _ _ _ (fun x U ⟨e,Y⟩ v H1 G j z=>⟨xE j z e, ?_⟩) q⟩;refine ⟨ρ,U,rs.mono (G.stab rm),j,mt _ _ _ _ (fun ds M2 Z vs H2 J B F => ?_) Y⟩;exact O v vs H2 Q ⟨x,ds,M2,B,z.mono (J.stab j),F,L _ _ _ _ _ (fun d M' k=>k.ext (G.trans J)) Z⟩
theorem w5 {K:Frag} {rd:D->List D->Mem->QD->Prop} {r:V->List V->Hp->VK->Prop} {to:TEd} (B:eV rd) (mo:ad to)
 (F:∀ v vs H Q,lMt K rd v vs H Q->r v vs H Q) (σ:St) (H:Hp) (Q:VK) (h:lE K (wBM rd to cb) σ H Q):Ap K "list" r (lE K to) σ H Q:=by
 obtain ⟨ρ,M,rs,rm,q⟩:=h;refine ⟨ρ,M,rs,rm,mo _ _ _ _ (fun x G ⟨e,J⟩ v H1 L j z=>⟨xE j z e, ?_⟩) q⟩;exact F v [] H1 Q ⟨x,[],G,j,z,RDs.nil,B _ _ _ _ _ (fun d M' k=>k.ext L) J⟩
noncomputable def jV:D->List D->Mem->QD->Prop:=fun x ds M Q => ∃ a xs y,x = .ref a/\ds=[y]/\M a=some (.lst xs)/\xs.length < Fj/\Q .non (ag M a (.lst (xs++[y])))
noncomputable def mN:D->List D->Mem->QD->Prop:=fun x ds M Q => ∃ a xs,x = .ref a/\ds=[]/\M a=some (.lst xs)/\Q .non (ag M a (.lst []))
theorem hJ:eV jV:=fun _ _ _ _ _ h ⟨a,xs,y,e1,e2,j,z,q⟩=>⟨a,xs,y,e1,e2,j,z,h _ _ q⟩
theorem j9:eV mN:=fun _ _ _ _ _ h ⟨a,xs,e1,e2,j,q⟩=>⟨a,xs,e1,e2,j,h _ _ q⟩
theorem pC {K:Frag} {M:Mem} {H:Hp} {Q:VK} {d:D} {v:V} {a:Addr} {o0:O} {ds:List D} {vs:List V} (rm:RM K M H) (m:M a=some o0) (rd:RDs K H ds vs) (r:RD K H d v) (q:KE' K M H Q d (ag M a (.lst ds))) (w:fz (some o0)=false:=by rfl) :
 Q v (upd H a (.lst vs)):=by
 have st:Stab H (upd H a (.lst vs)):=rm.stabPut m w;exact q v _ (Ext.put m w) (rm.put m ⟨vs,ar,rd.mono st⟩ w) (r.mono st)
theorem w6 {K:Frag} (v:V) (vs:List V) (H:Hp) (Q:VK) (h:lMt K jV v vs H Q):pc v vs H Q:=by
 obtain ⟨x,ds,M,rm,rx,rs,a,xs,y,rfl,rfl,e,z,q⟩:=h
 cases OL.mp rx
 obtain ⟨w,rfl,rw'⟩:=rs.one;obtain ⟨us,j,ru⟩:=rm _ _ e;exact ⟨a,us,w,rfl,rfl,j,by rw [ru.length];exact z,pC rm e (ru.append (RDs.cons rw' RDs.nil)) (OR.mpr rfl) q⟩
theorem yY {K:Frag} (v:V) (vs:List V) (H:Hp) (Q:VK) (h:lMt K mN v vs H Q):sH v vs H Q:=by
 obtain ⟨x,ds,M,rm,rx,rs,a,xs,rfl,rfl,e,q⟩:=h
 cases OL.mp rx
 obtain ⟨us,j,ru⟩:=rm _ _ e;exact ⟨a,us,rfl,RDs.nil_iff.mp rs,j,pC rm e RDs.nil (OR.mpr rfl) q⟩
noncomputable abbrev BT:=D->al->Option al
noncomputable abbrev BTs:=List D->al->Option al
noncomputable def bg (i:Nat):BT:=fun d ρ => some (ρ.set i (some d))
noncomputable def eX:BTs:=fun ds ρ => match ds with | [] => some ρ | _=>none
noncomputable def bw (b:BT) (bs:BTs):BTs:=fun ds ρ => match ds with | d::r=>(b d ρ).bind fun ρ'=>bs r ρ' | [] => none
noncomputable def jW (bs:BTs):BT:=fun d ρ => match d with | .tup ds=>bs ds ρ | _=>none
noncomputable def lG (K:Frag) (b:BT):TG:=fun v σ H Q => ∃ d ρ ρ',RD K H d v/\RS K H σ ρ /\ b d ρ = some ρ' /\ ∀ σ',RS K H σ' ρ'->Q σ' H
noncomputable def lGs (K:Frag) (b:BTs):TGs:=fun vs σ H Q => ∃ ds ρ ρ',RDs K H ds vs/\RS K H σ ρ /\ b ds ρ = some ρ' /\ ∀ σ',RS K H σ' ρ'->Q σ' H
theorem PG.imp {e:Expr} {t t':TG} (h:PG X e t) (i:∀ v σ H Q,t' v σ H Q->t v σ H Q):PG X e t':=fun pins s σ H v u Q I r q=>h pins s σ H v u Q I r (i _ _ _ _ q)
theorem PGs.imp {e:List Expr} {t t':TGs} (h:PGs X e t) (i:∀ v σ H Q,t' v σ H Q->t v σ H Q):PGs X e t':=fun pins s σ H v u Q I r q=>h pins s σ H v u Q I r (i _ _ _ _ q)
theorem yZ {i:Nat} {x:Str} {pos:Pos} (j:X.N.Nodup) (hi:X.N[i]? = some x) (hx:Loc X.env.scope x) (hf:X.fn x=true∨X.env.scope.names.lookup x=some .local):PG X (.Name x pos) (lG X.K (bg i)) :=
 PG.imp (p7 j hi hx hf) fun v σ H Q ⟨d, ρ, ρ',r,rs,e,q⟩=>by
  cases e
  exact q _ (rs.set i r)
theorem z4:PGs X [] (lGs X.K eX):=PGs.imp yk fun vs σ H Q ⟨ds, ρ, ρ',r,rs,e,q⟩=>by
 cases ds with
 | nil=>cases e;exact ⟨RDs.nil_iff.mp r,q σ rs⟩
 | cons _ _=>cases e
theorem w8 {e:Expr} {es:List Expr} {b:BT} {bs:BTs} (h1:PG X e (lG X.K b)) (h2:PGs X es (lGs X.K bs)) (hs:(Hl (e::es) X.env).map (·.2)=assign e X.env::(Hl es X.env).map (·.2)) :
 PGs X (e::es) (lGs X.K (bw b bs)):=PGs.imp (vc h1 h2 hs) fun vs σ H Q ⟨ds, ρ, ρ',r,rs,e,q⟩=>by
 cases ds with
 | nil=>cases e
 | cons d ds =>
   obtain ⟨v,vr,rfl,j,z⟩:=OM.mp r;simp only [bw] at e
   cases e1:b d ρ with
   | none=>rw [e1] at e;cases e
   | some ρ1 =>
     rw [e1] at e;exact ⟨v,vr,rfl,d, ρ, ρ1,j,rs,e1,fun σ' rs'=>⟨ds, ρ1, ρ',z,rs',e,q⟩⟩
theorem AM {es:List Expr} {k:Nat} {bs:BTs} {n:Nat} {pos:Pos} (z:X.calm=true) (hlen:∀ ds ρ ρ',bs ds ρ = some ρ'->ds.length=n) (h:PGs X es (lGs X.K bs)) (B:(Hl es X.env).length=n) (j:(Hl es X.env).findIdx? (·.1)=none) :
 PG X (.Tuple es k pos) (lG X.K (jW bs)):=PG.imp (Aa z h B j) fun v σ H Q ⟨d, ρ, ρ',r,rs,e,q⟩=>by
 cases d with
 | tup ds =>
   obtain ⟨a,vs,rfl,F,rv⟩:=OQ r;exact ⟨a,vs,rfl,F,by rw [rv.length];exact hlen _ _ _ e,ds, ρ, ρ',rv,rs,e,q⟩
 | _=>cases e
noncomputable abbrev TId:=al->Mem->(List D->(Mem->Prop)->Mem->Prop)->Prop
def bY (T:TId):Prop := ∀ ρ M Q Q',(∀ xs c M',Q xs c M'->Q' xs c M')->T ρ M Q->T ρ M Q'
def Yl (H H':Hp):Prop:=H'=H ∨ ∃ q vs,H q=none/\H'=upd H q (.tup vs)
def fF (K:Frag) (H1:Hp) (xs:List D) (chk:Mem->Prop) (J:It):Prop := ∀ M H,Stab H1 H->RM K M H->chk M -> ∀ i,(xs.length<=i->J.stop i H)/\(i < xs.length->J.go i H /\
 ∀ x H',J.yld i H x H'->Yl H H' /\ ∃ d,xs[i]? = some d/\RD K H' d x)
noncomputable def lI (K:Frag) (T:TId):TI:=fun σ H R => ∃ ρ M,RS K H σ ρ /\ RM K M H/\T ρ M (fun xs chk M1 => ∀ J H1,Ext M H M1 H1->RM K M1 H1->fF K H1 xs chk J->R J H1)
theorem PI.imp {tg e:Expr} {t t':TI} (h:PI X tg e t) (i:∀ σ H Q,t' σ H Q->t σ H Q):PI X tg e t':=fun pins s σ H Q I q=>h pins s σ H Q I (i _ _ _ q)
theorem Yl.ext {K:Frag} {M:Mem} {H H':Hp} (rm:RM K M H) (y:Yl H H'):Ext M H M H'/\RM K M H':=by
 rcases y with rfl | ⟨q,vs,n,rfl⟩
 ·exact ⟨Ext.refl,rm⟩
 ·exact ⟨OT n,rm.new n⟩
noncomputable def CN (K:Frag) (tl:TE):TI:=fun σ H R=>tl σ H fun x H1 => ∃ a,x = .ref a/\(((∃ xs,SqL K H1 a xs)/\R (Itl K a) H1)∨((∃ xs,SqT K H1 a xs)/\R (Itt K a) H1))
theorem AN {tg l:Expr} {tl:TE} (F:PE X l tl):PI X tg l (CN X.K tl):=by
 intro pins s σ H R I h;refine thn (F pins s σ H _ I h) fun v s1 ⟨x,H1,j,G,J⟩ => ?_;obtain ⟨a,e,q⟩:=J;subst e
 cases G
 rcases q with ⟨⟨xs,z⟩,q⟩ | ⟨⟨xs,z⟩,q⟩
 ·obtain ⟨its,rv,p,L⟩:=j.list z;refine KL p.isList ?_;refine ⟨s1.heap.objs.size,[s1.heap.objs.size],_,_,H1,rfl,j.kept (t':=s1.toks) fun b o e=>q7 _ e,sj a _,⟨_,Fh _ rfl,rfl,rfl⟩,fun b B => ?_,q⟩;have e:b=s1.heap.objs.size:=by simpa using B
  subst e;exact j.fpOk (Fl _) (j.hok.fresh (Fl _))
 ·obtain ⟨its,rv,p,L⟩:=j.tuple z;refine Jg (show s1.heap.IsTuple a its.toArray from p) ?_;refine ⟨s1.heap.objs.size,[s1.heap.objs.size],_,_,H1,rfl,j.kept (t':=s1.toks) fun b o e=>q7 _ e,qp a _,⟨_,Fh _ rfl,rfl,rfl⟩,fun b B => ?_,q⟩;have e:b=s1.heap.objs.size:=by simpa using B
  subst e;exact j.fpOk (Fl _) (j.hok.fresh (Fl _))
noncomputable def mQ (ta:TEd):TId:=fun ρ M R=>ta ρ M fun x M1 => ∃ ds,aC M1 x=some ds/\R ds (fun M=>aC M x=some ds) M1
theorem w9 {ta:TEd} (h:ad ta):bY (mQ ta):=fun ρ M Q Q' i q=>h _ _ _ _ (fun x z ⟨ds,e,j⟩=>⟨ds,e,i _ _ _ j⟩) q
theorem tq {K:Frag} {H1:Hp} {a:Addr} {ds:List D} {chk:Mem->Prop} (h:∀ M H,Stab H1 H->RM K M H->chk M -> ∃ vs,SqL K H a vs/\RDs K H ds vs):fF K H1 ds chk (Itl K a):=fun M H st rm c i=>by
 obtain ⟨vs,sq,r⟩:=h M H st rm c;have l:=r.length;refine ⟨fun hi=>⟨vs,sq,by lia⟩,fun hi=>⟨⟨vs,vs[i]'(by lia),sq,Fe (by lia)⟩,fun x H' y => ?_⟩⟩
 obtain ⟨e,y⟩:=y;subst e;exact ⟨.inl rfl,r.getV (y vs sq)⟩
theorem AO {K:Frag} {H1:Hp} {a:Addr} {ds:List D} {chk:Mem->Prop} (h:∀ M H,Stab H1 H->RM K M H->chk M -> ∃ vs,SqT K H a vs/\RDs K H ds vs):fF K H1 ds chk (Itt K a):=fun M H st rm c i=>by
 obtain ⟨vs,sq,r⟩:=h M H st rm c;have l:=r.length;refine ⟨fun hi=>⟨vs,sq,by lia⟩,fun hi=>⟨⟨vs,vs[i]'(by lia),sq,Fe (by lia)⟩,fun x H' y => ?_⟩⟩
 obtain ⟨e,y⟩:=y;subst e;exact ⟨.inl rfl,r.getV (y vs sq)⟩
theorem AQ {tg l:Expr} {ta:TEd} (m:ad ta) (G:PE X l (lE X.K ta)):PI X tg l (lI X.K (mQ ta)):=by
 refine PI.imp (AN G) fun σ H R h => ?_;obtain ⟨ρ,M,rs,rm,q⟩:=h;refine ⟨ρ,M,rs,rm,m _ _ _ _ (fun x L ⟨ds,e,B⟩ v H1 F j rd1 => ?_) q⟩
 cases x with
 | tup es =>
   cases e
   obtain ⟨a,vs,rfl,z,rv⟩:=OQ rd1;exact ⟨a,rfl, .inr ⟨⟨vs,z⟩,B _ H1 F j (AO fun M' H' st _ _=>⟨vs,st.sqT z,rv.mono st⟩)⟩⟩
 | con es =>
   cases e
   obtain ⟨a,vs,rfl,z,rv⟩:=OP.mp rd1;exact ⟨a,rfl, .inl ⟨⟨vs,z.sq⟩,B _ H1 F j (tq fun M' H' st _ _=>⟨vs,(st.sqF z).sq,rv.mono st⟩)⟩⟩
 | ref a =>
   cases OL.mp rd1
   have get:∀ {M':Mem} {es:List D},aC M' (.ref a)=some es->M' a=some (.lst es):=fun {M' es} e=>by
    simp only [aC] at e
    cases e0:M' a with
    | none=>rw [e0] at e;cases e
    | some o =>
      rw [e0] at e
      cases o with
      | dct _ _=>cases e
      | fdc _=>cases e
      | lst es'=>cases e;rfl
   obtain ⟨vs,z,rv⟩:=j _ _ (get e);exact ⟨a,rfl, .inl ⟨⟨vs,SqL.of z⟩,B _ H1 F j (tq fun M' H' st rm' c=>by
    obtain ⟨us,J,ru⟩:=rm' _ _ (get c);exact ⟨us,SqL.of J,ru⟩)⟩⟩
 | _=>cases e
noncomputable def bW (lo:Int) (n:Nat):List D:=(Hf n).map fun i => .int (lo+(i:Nat))
theorem AR {K:Frag} {H1:Hp} {lo:Int} {n:Nat}:fF K H1 (bW lo n) (fun _=>True) (Itr lo n):=fun M H st rm c i=>by
 have l:(bW lo n).length=n:=by simp [bW]
 refine ⟨fun hi=>by show n<=i;lia,fun hi=>⟨by show i < n;lia,fun x H' y => ?_⟩⟩
 obtain ⟨e,y⟩:=y;subst e y;refine ⟨.inl rfl, .int (lo+i), ?_,OK.mpr rfl⟩;simp only [bW,FX,List.getElem?_range (show i < n by lia),Jc]
noncomputable def ja (ta:TAd):TId:=fun ρ M R=>ta ρ M fun ds M1 => ∃ j:Int,ds=[.int j] /\ -(2 ^ 62)<=j/\j < 2 ^ 62/\R (bW 0 j.toNat) (fun _=>True) M1
theorem tu {ta:TAd} (h:aW ta):bY (ja ta):=fun ρ M Q Q' i q=>h _ _ _ _ (fun x B ⟨j,e,a,b,z⟩=>⟨j,e,a,b,i _ _ _ z⟩) q
theorem z8 {tg a:Expr} {ta:TAd} {p pos:Pos} (m:aW ta) (B:Gl X "range") (hm:X.mg "range" = none) (F:PA X [a] (lA X.K ta)) (hs:FO [a] X.env=[(false,eval a X.env)]):PI X tg (.Call (.Name "range" p) [a] [] pos) (lI X.K (ja ta)):=by
 refine PI.imp (sn B hm F hs) fun σ H R h => ?_;obtain ⟨ρ,M,rs,rm,q⟩:=h;refine ⟨ρ,M,rs,rm,m _ _ _ _ (fun ds U ⟨j,e,G,J,L⟩ vs H1 O z rd1 => ?_) q⟩;subst e;obtain ⟨v,rfl,r⟩:=rd1.one
 cases OK.mp r
 exact ⟨j,rfl,G,J,L _ H1 O z AR⟩
end
end
section
section
variable {X:Cx}
noncomputable def isT:D->Bool | .tup _=>true | _=>false
theorem tw {K:Frag} {M:Mem} {H:Hp} {x:D} {ds:List D} {v:V} (rm:RM K M H) (r:RD K H x v) (e:aC M x=some ds):∃ p vs,v = .ref p/\SqV K (isT x) H p vs/\RDs K H ds vs:=by
 cases x with
 | tup es =>
   cases e
   obtain ⟨a,vs,rfl,j,rv⟩:=OQ r;exact ⟨a,vs,rfl,j,rv⟩
 | con es =>
   cases e
   obtain ⟨a,vs,rfl,j,rv⟩:=OP.mp r;exact ⟨a,vs,rfl,j.sq,rv⟩
 | ref a =>
   cases OL.mp r
   simp only [aC] at e
   cases e0:M a with
   | none=>rw [e0] at e;cases e
   | some o =>
     rw [e0] at e
     cases o with
     | dct _ _=>cases e
     | fdc _=>cases e
     | lst es =>
       cases e
       obtain ⟨vs,j,rv⟩:=rm _ _ e0;exact ⟨a,vs,rfl,SqL.of j,rv⟩
 | _=>cases e
theorem wa {H:Hp} {p:Addr} {o:HO} (n:H p=none):Stab H (upd H p o):=⟨fun a xs e=>by rw [ai (fun z=>by rw [z,n] at e;cases e)];exact e,fun a o u e=>by rw [ai (fun z=>by rw [z,n] at e;cases e)];exact e⟩
end
end
section
section
variable {X:Cx}
noncomputable def eY (xs:List D):List D:=xs.mapIdx fun i x => .tup [.int (i:Nat),x]
noncomputable def jb (ta:TEd):TId:=fun ρ M R=>ta ρ M fun x M1 => ∃ xs,aC M1 x=some xs/\R (eY xs) (fun M=>aC M x=some xs) M1
theorem tz {ta:TEd} (h:ad ta):bY (jb ta):=fun ρ M Q Q' i q=>h _ _ _ _ (fun x z ⟨ds,e,j⟩=>⟨ds,e,i _ _ _ j⟩) q
theorem AS {K:Frag} {H1:Hp} {x:D} {xs:List D} {a:Addr} (rx:RD K H1 x (.ref a)):fF K H1 (eY xs) (fun M=>aC M x=some xs) (Ite K (isT x) a):=fun M H st rm c i=>by
 obtain ⟨G,vs,e1,j,B⟩:=tw rm (rx.mono st) c
 cases e1
 have l1:=B.length;have lz:(eY xs).length=xs.length:=by simp [eY]
 refine ⟨fun hi=>⟨vs,j,by lia⟩,fun hi=>⟨⟨vs,vs[i]'(by lia),j,Fe (by lia)⟩,fun v H' F => ?_⟩⟩
 obtain ⟨p,v1,n,rfl,rfl,g⟩:=F;obtain ⟨d1,q,z⟩:=B.getV (g vs j);have sb:=wa (o := .tup [.int (i:Nat),v1]) n;refine ⟨.inr ⟨p,[.int (i:Nat),v1],n,rfl⟩, .tup [.int (i:Nat),d1], ?_,OU ⟨p,[.int (i:Nat),v1],rfl,ar,RDs.cons (OK.mpr rfl) (RDs.cons (z.mono sb) RDs.nil)⟩⟩;simp [eY,LU,q]
theorem z9 {elts:List Expr} {cx} {pos p pos':Pos} {a:Expr} {ta:TEd} (ma:ad ta) (B:Gl X "enumerate") (hm:X.mg "enumerate" = none) (F:PA X [a] (lA X.K (bv ta cb))) (hs:FO [a] X.env=[(false,eval a X.env)]) :
 PI X (.Tuple elts cx pos) (.Call (.Name "enumerate" p) [a] [] pos') (lI X.K (jb ta)):=by
 refine PI.imp (yC B hm F hs) fun σ H R h => ?_;obtain ⟨ρ,M,rs,rm,q⟩:=h;refine ⟨ρ,M,rs,rm,ma _ _ _ _ (fun x O ⟨xs,e1,G⟩ vs H1 J j rd1 => ?_) q⟩;obtain ⟨v,rfl,z⟩:=rd1.one;obtain ⟨L,us,rfl,s1,_⟩:=tw j z e1;exact ⟨L,isT x,us,rfl,s1,G _ H1 J j (AS z)⟩
end
end
section
noncomputable abbrev NC:=al->Mem->List D->Prop
noncomputable abbrev TCd:=al->Mem->List D->NC->Prop
def bQ (T:TCd):Prop := ∀ ρ M acc N N',(∀ ρ' M' acc',N ρ' M' acc'->N' ρ' M' acc')->T ρ M acc N->T ρ M acc N'
structure ExtP (p:Addr) (M:Mem) (H:Hp) (M':Mem) (H':Hp):Prop where
 kp:∀ a o,a≠p->fz (M a)=true->H a=some o->H' a=some o
 nw:∀ a o,fz (M a)=true->H a=some o->M' a=M a
section
variable {K:Frag} {M M' M'':Mem} {H H' H'':Hp} {p:Addr}
theorem ExtP.new (x:ExtP p M H M' H') (a:Addr) (o:HO) (n:M a=none) (e:H a=some o):M' a=none:=(x.nw a o (by rw [n];rfl) e).trans n
theorem Ext.toP (x:Ext M H M' H'):ExtP p M H M' H':=⟨fun a o _=>x.kp a o,x.nw⟩
theorem ExtP.refl:ExtP p M H M H:=⟨fun _ _ _ _ h=>h,fun _ _ _ _=>rfl⟩
theorem ExtP.trans {vs:List V} (a:ExtP p M H M' H') (q:H p=some (.lst vs)) (j:∃ vs',H' p=some (.lst vs')) (b:ExtP p M' H' M'' H''):ExtP p M H M'' H'' :=
 ⟨fun c o ne n h=>b.kp c o ne (by rw [a.nw c o n h];exact n) (a.kp c o ne n h),fun c o n h=>by
   have n':fz (M' c)=true:=by rw [a.nw c o n h];exact n
   refine Eq.trans ?_ (a.nw c o n h)
   by_cases z:c=p
   ·subst z;obtain ⟨vs',e⟩:=j;exact b.nw c _ n' e
   ·exact b.nw c o n' (a.kp c o z n h)⟩
theorem ExtP.stab {vs:List V} (r:RM K M H) (j:H p=some (.lst vs)) (x:ExtP p M H M' H'):Stab H H' where
 tup:=fun a xs e=>x.kp a _ (fun z=>by subst z;rw [j] at e;cases e) (by rw [r.fzT e];rfl) e
 frz:=fun a o u e=>x.kp a _ (fun z=>by subst z;rw [j] at e;cases e) (r.fzF e) e
theorem mR {vs:List V} {ho:HO} (j:H p=some (.lst vs)):Stab H (upd H p ho) :=
 ⟨fun a xs e=>by rw [ai (fun z=>by subst z;rw [j] at e;cases e)];exact e,fun a o u e=>by rw [ai (fun z=>by subst z;rw [j] at e;cases e)];exact e⟩
theorem RM.side {vs:List V} {ho:HO} (r:RM K M H) (n:M p=none) (j:H p=some (.lst vs)):RM K M (upd H p ho):=fun a o e=>by
 have ne:a≠p:=fun z=>by subst z;rw [n] at e;cases e
 exact (r a o e).mono (mR j) fun B q=>by rw [ai ne];exact q
end
def gy (K:Frag) (H:Hp) (p:Addr) (acc:List D):Prop := ∃ vs,H p=some (.lst vs)/\RDs K H acc vs
noncomputable def KC (K:Frag) (p:Addr) (M:Mem) (H:Hp) (N:St->Hp->Prop):NC:=fun ρ' M' acc' => ∀ σ' H',ExtP p M H M' H'->RS K H' σ' ρ'->RM K M' H'->gy K H' p acc'->N σ' H'
noncomputable def lC (K:Frag) (p:Addr) (T:TCd):TC:=fun σ H N => ∃ ρ M acc,RS K H σ ρ /\ RM K M H/\M p=none/\gy K H p acc/\T ρ M acc (KC K p M H N)
theorem KC.ext {K:Frag} {p:Addr} {M M2 M':Mem} {H H2:Hp} {N:St->Hp->Prop} {ρ:al} {acc:List D} {vs:List V} (q:H p=some (.lst vs)) (j:∃ vs',H2 p=some (.lst vs')) (x:ExtP p M H M2 H2) (h:KC K p M H N ρ M' acc):KC K p M2 H2 N ρ M' acc :=
 fun σ' H' y=>h σ' H' (x.trans q j y)
noncomputable def cq (te:TEd):TCd:=fun ρ M acc N=>te ρ M fun x M1=>acc.length < Fj/\N ρ M1 (acc++[x])
noncomputable def bh:List TTd->TCd->TCd
 | [],tb=>tb
 | t::r,tb=>fun ρ M acc N=>t ρ M fun b M1=>if b=true then bh r tb ρ M1 acc N else N ρ M1 acc
noncomputable def bp (b:BT) (tb:TCd) (chk:Mem->Prop) (N:NC):List D->NC
 | [] => fun ρ M acc=>chk M/\N ρ M acc
 | x::xs=>fun ρ M acc=>chk M /\ ∃ ρ',b x ρ = some ρ'/\tb ρ' M acc (bp b tb chk N xs)
noncomputable def dl (src:TId) (b:BT) (tb:TCd):TCd:=fun ρ M acc N=>src ρ M fun xs chk M1=>bp b tb chk N xs ρ M1 acc
noncomputable def gB (fr:List (Option Nat)) (src:TId) (b:BT) (tb:TCd):TEd:=fun ρ M Q=>src ρ M fun xs chk M1=>bp b tb chk (fun _ M' acc => ∀ p,M' p=none->Q (.ref p) (ag M' p (.lst acc))) xs (jO fr ρ) M1 []
theorem br {te:TEd} (h:ad te):bQ (cq te):=fun ρ M acc N N' i q=>h _ _ _ _ (fun x B ⟨z,j⟩=>⟨z,i _ _ _ j⟩) q
theorem aH {tb:TCd} (z:bQ tb):∀ {ts:List TTd},(∀ t∈ts,aA t)->bQ (bh ts tb)
 | [],_=>z
 | t::r,h=>fun ρ M acc N N' i q=>h t Gd _ _ _ _ (fun b F j=>by
   cases b with
   | true=>rw [if_pos rfl] at j ⊢;exact aH z (fun t' B=>h t' (FN _ B)) _ _ _ _ _ i j
   | false=>rw [if_neg Fp] at j ⊢;exact i _ _ _ j) q
theorem fG {b:BT} {tb:TCd} (z:bQ tb) {chk:Mem->Prop} {N N':NC} (i:∀ ρ' M' acc',N ρ' M' acc'->N' ρ' M' acc'):∀ (xs:List D) (ρ:al) (M:Mem) (acc:List D),bp b tb chk N xs ρ M acc->bp b tb chk N' xs ρ M acc
 | [], ρ,M,acc,h=>⟨h.1,i _ _ _ h.2⟩
 | x::xs, ρ,M,acc,⟨c, ρ',e,q⟩=>⟨c, ρ',e,z _ _ _ _ _ (fun ρ2 M2 j B=>fG z i xs ρ2 M2 j B) q⟩
theorem hW {src:TId} {b:BT} {tb:TCd} (hs:bY src) (j:bQ tb):bQ (dl src b tb):=fun ρ M acc N N' i q=>hs _ _ _ _ (fun xs c B z=>fG j i xs _ _ _ z) q
theorem kK {fr:List (Option Nat)} {src:TId} {b:BT} {tb:TCd} (hs:bY src) (j:bQ tb):ad (gB fr src b tb):=fun ρ M Q Q' i q =>
 hs _ _ _ _ (fun xs c F z=>fG j (fun _ M' acc B p n=>i _ _ (B p n)) xs _ _ _ z) q
section
variable {K:Frag} {p:Addr}
theorem fH {te:TEd} (m:ad te) (σ:St) (H:Hp) (N:St->Hp->Prop) (h:lC K p (cq te) σ H N):xB p (lE K te) σ H N:=by
 obtain ⟨ρ,M,acc,rs,rm,n,⟨vs,L,ra⟩,q⟩:=h;refine ⟨ρ,M,rs,rm,m _ _ _ _ (fun x Y ⟨z,O⟩ v H1 F G J => ?_) q⟩;have j:=F.keep p _ n L;have U:=F.new p _ n L;have st:=F.stab rm;have B:Stab H1 (upd H1 p (.lst (vs++[v]))):=mR j;refine ⟨vs,j,by rw [ra.length];exact z,O σ _ ⟨fun a o ne m' e => ?_,F.nw⟩ ((rs.mono st).mono B) (G.side U j) ⟨vs++[v],ar,((ra.mono st).mono B).append (RDs.cons (J.mono B) RDs.nil)⟩⟩
 rw [ai ne];exact F.kp a o m' e
theorem jc {tb:TCd} (mb:bQ tb):∀ {ts:List TTd},(∀ t∈ts,aA t) -> ∀ (σ:St) (H:Hp) (N:St->Hp->Prop),lC K p (bh ts tb) σ H N->iT (ts.map (lT K)) (lC K p tb) σ H N
 | [],_, σ,H,N,h=>h
 | t::r,hm, σ,H,N,h=>by
   obtain ⟨ρ,M,acc,rs,rm,n,⟨vs,G,ra⟩,q⟩:=h;refine ⟨ρ,M,rs,rm,hm t Gd _ _ _ _ (fun b L F H1 z B => ?_) q⟩;have j:=z.keep p _ n G;have O:=z.new p _ n G;have st:=z.stab rm
   cases b with
   | false =>
     rw [if_neg Fp] at F;dsimp only;rw [if_neg Fp];exact F σ H1 z.toP (rs.mono st) B ⟨vs,j,ra.mono st⟩
   | true =>
     rw [if_pos rfl] at F;dsimp only;rw [if_pos rfl];exact jc mb (fun t' J=>hm t' (FN _ J)) σ H1 N ⟨ρ,L,acc,rs.mono st,B,O,⟨vs,j,ra.mono st⟩,
      aH mb (fun t' J=>hm t' (FN _ J)) _ _ _ _ _ (fun ρ' M' acc' k=>k.ext G ⟨vs,j⟩ z.toP) F⟩
theorem kL {b:BT} {tb:TCd} (mb:bQ tb) {xs:List D} {chk:Mem->Prop} {J:It} {H1:Hp} {B:Mem} {Nd:NC} {N:St->Hp->Prop} {σ:St} {ρ:al} {acc:List D} (it:fF K H1 xs chk J) (rs:RS K H1 σ ρ) (rm:RM K B H1) (n:B p=none)
 (ac:gy K H1 p acc) (q:bp b tb chk Nd xs ρ B acc) (hN:∀ ρ' M' acc' σ' H',ExtP p B H1 M' H'->RS K H' σ' ρ'->RM K M' H'->gy K H' p acc'->Nd ρ' M' acc'->N σ' H') :
 cm J (lG K b) (lC K p tb) N σ H1:=by
 obtain ⟨D4,F,_⟩:=id ac;refine ⟨fun i m σ H=>m=xs.length - i/\i<=xs.length /\ ∃ ρ M acc,RS K H σ ρ /\ RM K M H/\M p=none/\gy K H p acc/\ExtP p B H1 M H/\bp b tb chk Nd (xs.drop i) ρ M acc,⟨xs.length,by simp,Ha _, ρ,B,acc,rs,rm,n,ac,ExtP.refl,q⟩, ?_⟩
 rintro i m σ H ⟨rfl,hi, ρ,M,acc,rs,j,n,ac,x,q⟩;have st:=x.stab rm F;obtain ⟨vs,hp,ra⟩:=id ac
 by_cases z:i < xs.length
 ·rw [GS z] at q;obtain ⟨c, ρ',hb,q⟩:=q;obtain ⟨go,yl⟩:=(it M H st j c i).2 z;refine .inr ⟨go,fun σ' H' => ∃ m',m' < xs.length - i/\(m'=xs.length - (i+1)/\i+1<=xs.length /\ ∃ ρ M acc,RS K H' σ' ρ /\ RM K M H'/\M p=none/\gy K H' p acc/\ExtP p B H1 M H'/\bp b tb chk Nd (xs.drop (i+1)) ρ M acc),fun σ' H' h=>h,fun x' H' y => ?_⟩;obtain ⟨yy,d,hd,rd⟩:=yl x' H' y;rw [Fe z] at hd
  cases hd
  obtain ⟨xy,rmy⟩:=yy.ext j;have sty:=xy.stab j;have G:=xy.keep p _ n hp;refine ⟨_, ρ, ρ',rd,rs.mono sty,hb,fun σ2 O => ?_⟩;refine ⟨ρ',M,acc,O,rmy,n,⟨vs,G,ra.mono sty⟩,mb _ _ _ _ _ (fun ρ3 M3 L q3 σ3 H3 x3 U Y Z => ?_) q⟩;have n3:M3 p=none:=x3.new p _ n G;exact ⟨xs.length - (i+1),by lia,rfl,z, ρ3,M3,L,U,Y,n3,Z,(x.trans F ⟨vs,hp⟩ xy.toP).trans F ⟨vs,G⟩ x3,q3⟩
 ·have e:i=xs.length:=by lia
  subst e;rw [NL] at q;exact .inl ⟨(it M H st j q.1 _).1 (Fl _),hN ρ M acc σ H x rs j ac q.2⟩
theorem i3 {src:TId} {b:BT} {tb:TCd} (ms:bY src) (mb:bQ tb) (σ:St) (H:Hp) (N:St->Hp->Prop) (h:lC K p (dl src b tb) σ H N):(lI K src) σ H fun J H1=>cm J (lG K b) (lC K p tb) N σ H1:=by
 obtain ⟨ρ,M,acc,rs,rm,n,⟨vs,B,ra⟩,q⟩:=h;refine ⟨ρ,M,rs,rm,ms _ _ _ _ (fun xs chk O G J H1 z F it => ?_) q⟩;have j:=z.keep p _ n B;have L:=z.new p _ n B;have st:=z.stab rm;exact kL mb it (rs.mono st) F L ⟨vs,j,ra.mono st⟩ G fun ρ' M' acc' σ' H' x2 rs' rm' ac' k=>k σ' H' (z.toP.trans B ⟨vs,j⟩ x2) rs' rm' ac'
theorem dM {fr:List (Option Nat)} {src:TId} {b:BT} {tb:TCd} (ms:bY src) (mb:bQ tb) (σ:St) (H:Hp) (Q:VK) (h:lE K (gB fr src b tb) σ H Q):qD (lI K src) (lG K b) (fun p=>lC K p tb) fr σ H Q:=by
 obtain ⟨ρ,M,rs,rm,q⟩:=h;refine ⟨ρ,M,rs,rm,ms _ _ _ _ (fun xs chk F O J H1 B j it p n => ?_) q⟩;have st:=B.stab rm;have xn:Ext F H1 F (upd H1 p (.lst [])):=OT n;have stn:=xn.stab j;have L:F p=none:=j.out n;refine kL (p:=p) mb (xs:=xs) (chk:=chk) (fun M' H' st'=>it M' H' ⟨fun a xs e=>st'.tup _ _ (stn.tup _ _ e),fun a o u e=>st'.frz _ _ _ (stn.frz _ _ _ e)⟩) (((rs.mono st).mono stn).inh fr) (j.new n) L ⟨[],ar,RDs.nil⟩ O fun ρ' M' acc' σ' H' G rs' rm' ac' k => ?_;obtain ⟨vs,U,ra⟩:=ac';have n':M' p=none:=G.new p _ L ar;refine k p n' (.ref p) H' ⟨fun a o m e => ?_,fun a o m e => ?_⟩ (fun a o e => ?_) (OL.mpr rfl)
 ·have e1:=B.kp a o m e;have ne:a≠p:=fun z=>by subst z;rw [n] at e1;cases e1
  exact G.kp a o ne (by rw [B.nw a o m e];exact m) (by rw [ai ne];exact e1)
 ·have e1:=B.kp a o m e;have ne:a≠p:=fun z=>by subst z;rw [n] at e1;cases e1
  rw [ak ne];exact (G.nw a o (by rw [B.nw a o m e];exact m) (by rw [ai ne];exact e1)).trans (B.nw a o m e)
 ·by_cases z:a=p
  ·subst z;rw [ab] at e;cases e;exact ⟨vs,U,ra⟩
  ·rw [ak z] at e;exact rm' a o e
end
end
section
noncomputable def gC:TSd:=fun D ρ M=>D.nx ρ M
noncomputable def mU (t u:TSd):TSd:=fun D ρ M=>t { D with nx:=u D } ρ M
noncomputable def fI:TSd:=fun D ρ M=>D.bk ρ M
noncomputable def jd:TSd:=fun D ρ M=>D.ct ρ M
noncomputable def je (te:TEd):TSd:=fun D ρ M=>te ρ M fun _ M1=>D.nx ρ M1
noncomputable def mV (te:TEd):TSd:=fun D ρ M=>te ρ M D.rt
noncomputable def sIf (c:TTd) (t u:TSd):TSd:=fun D ρ M=>c ρ M fun b M1=>if b=true then t D ρ M1 else u D ρ M1
noncomputable def ie (te:TEd) (b:BT):TSd:=fun D ρ M=>te ρ M fun x M1 => ∃ ρ',b x ρ = some ρ'/\D.nx ρ' M1
noncomputable def mW (ta:TAd) (bs:BTs):TSd:=fun D ρ M=>ta ρ M fun xs M1 => ∃ ρ',bs xs ρ = some ρ'/\D.nx ρ' M1
noncomputable def bn (b:BT) (tb:TSd) (chk:Mem->Prop) (D:aS):List Mi.D->al->Mem->Prop
 | [] => fun ρ M=>chk M/\D.nx ρ M
 | x::xs=>fun ρ M=>chk M /\ ∃ ρ',b x ρ = some ρ'/\tb { D with nx:=bn b tb chk D xs,ct:=bn b tb chk D xs,bk:=D.nx } ρ' M
noncomputable def mX (src:TId) (b:BT) (tb:TSd):TSd:=fun D ρ M=>src ρ M fun xs chk M1=>bn b tb chk D xs ρ M1
noncomputable def b8 (c:TTd) (tb:TSd) (D:aS):Nat->al->Mem->Prop
 | 0=>fun _ _=>False
 | n+1=>fun ρ M=>c ρ M fun b M1=>if b=true then tb { D with nx:=b8 c tb D n,ct:=b8 c tb D n,bk:=D.nx } ρ M1 else D.nx ρ M1
noncomputable def fJ (c:TTd) (tb:TSd):TSd:=fun D ρ M => ∃ n,b8 c tb D n ρ M
theorem kM:aB gC:=fun _ _ _ _ h q=>h.nx _ _ q
theorem qO:aB fI:=fun _ _ _ _ h q=>h.bk _ _ q
theorem tD:aB jd:=fun _ _ _ _ h q=>h.ct _ _ q
theorem tE {t u:TSd} (j:aB t) (z:aB u):aB (mU t u):=fun a b ρ M h q=>j { a with nx:=u a } { b with nx:=u b } _ _ ⟨fun ρ' M' q'=>z _ _ _ _ h q',h.rt,h.bk,h.ct⟩ q
theorem tF {te:TEd} (h:ad te):aB (je te):=fun a b ρ M i q=>h _ _ _ _ (fun _ z j=>i.nx _ _ j) q
theorem wb {te:TEd} (h:ad te):aB (mV te):=fun a b ρ M i q=>h _ _ _ _ (fun d z j=>i.rt _ _ j) q
theorem wc {c:TTd} {t u:TSd} (z:aA c) (B:aB t) (F:aB u):aB (sIf c t u):=fun a b ρ M i q=>z _ _ _ _ (fun k G j=>by
 cases k with
 | true=>rw [if_pos rfl] at j ⊢;exact B _ _ _ _ i j
 | false=>rw [if_neg Fp] at j ⊢;exact F _ _ _ _ i j) q
theorem wd {te:TEd} {bt:BT} (h:ad te):aB (ie te bt):=fun a b ρ M i q=>h _ _ _ _ (fun d z ⟨ρ',e,j⟩=>⟨ρ',e,i.nx _ _ j⟩) q
theorem we {ta:TAd} {bs:BTs} (h:aW ta):aB (mW ta bs):=fun a b ρ M i q=>h _ _ _ _ (fun d z ⟨ρ',e,j⟩=>⟨ρ',e,i.nx _ _ j⟩) q
theorem fK {bt:BT} {tb:TSd} (j:aB tb) {chk:Mem->Prop} {a b:aS} (i:LeD a b):∀ (xs:List D) (ρ:al) (M:Mem),bn bt tb chk a xs ρ M->bn bt tb chk b xs ρ M
 | [], ρ,M,h=>⟨h.1,i.nx _ _ h.2⟩
 | x::xs, ρ,M,⟨c, ρ',e,q⟩=>⟨c, ρ',e,j { a with nx:=bn bt tb chk a xs,ct:=bn bt tb chk a xs,bk:=a.nx } { b with nx:=bn bt tb chk b xs,ct:=bn bt tb chk b xs,bk:=b.nx } _ _ ⟨fun ρ2 M2 z=>fK j i xs ρ2 M2 z,i.rt,i.nx,fun ρ2 M2 z=>fK j i xs ρ2 M2 z⟩ q⟩
theorem wf {src:TId} {bt:BT} {tb:TSd} (hs:bY src) (j:aB tb):aB (mX src bt tb):=fun a b ρ M i q=>hs _ _ _ _ (fun xs c B z=>fK j i xs _ _ z) q
theorem dY {c:TTd} {tb:TSd} (q:aA c) (z:aB tb) {a b:aS} (i:LeD a b):∀ (n:Nat) (ρ:al) (M:Mem),b8 c tb a n ρ M->b8 c tb b n ρ M
 | 0, ρ,M,h=>h
 | n+1, ρ,M,h=>q _ _ _ _ (fun k F j=>by
   cases k with
   | true=>rw [if_pos rfl] at j ⊢;exact z { a with nx:=b8 c tb a n,ct:=b8 c tb a n,bk:=a.nx } { b with nx:=b8 c tb b n,ct:=b8 c tb b n,bk:=b.nx } _ _ ⟨fun ρ2 M2 B=>dY q z i n ρ2 M2 B,i.rt,i.nx,fun ρ2 M2 B=>dY q z i n ρ2 M2 B⟩ j
   | false=>rw [if_neg Fp] at j ⊢;exact i.nx _ _ j) h
theorem qP {c:TTd} {tb:TSd} (j:aA c) (z:aB tb):aB (fJ c tb):=fun a b ρ M i ⟨n,q⟩=>⟨n,dY j z i n _ _ q⟩
section
variable {K:Frag}
theorem kN (D:bu) (σ:St) (H:Hp) (h:lS K gC D σ H):qm D σ H:=by
 obtain ⟨ρ,M,A,rs,rm,l,q⟩:=h;exact l.nx ρ M σ H Ext.refl rs rm q
theorem qQ (D:bu) (σ:St) (H:Hp) (h:lS K fI D σ H):se D σ H:=by
 obtain ⟨ρ,M,A,rs,rm,l,q⟩:=h;exact l.bk ρ M σ H Ext.refl rs rm q
theorem tG (D:bu) (σ:St) (H:Hp) (h:lS K jd D σ H):xq D σ H:=by
 obtain ⟨ρ,M,A,rs,rm,l,q⟩:=h;exact l.ct ρ M σ H Ext.refl rs rm q
theorem wg {t u:TSd} (mt:aB t) (mu:aB u) (D:bu) (σ:St) (H:Hp) (h:lS K (mU t u) D σ H):A6 (lS K t) (lS K u) D σ H:=by
 obtain ⟨ρ,M,A,rs,rm,l,q⟩:=h;exact ⟨ρ,M, { A with nx:=u A },rs,rm,⟨fun ρ' M' σ' H' x rs' rm' q'=>⟨ρ',M',A,rs',rm',l.ext x,q'⟩,l.rt,l.bk,l.ct⟩,q⟩
theorem tH {te:TEd} (m:ad te) (D:bu) (σ:St) (H:Hp) (h:lS K (je te) D σ H):xr (lE K te) D σ H:=by
 obtain ⟨ρ,M,A,rs,rm,l,q⟩:=h;exact ⟨ρ,M,rs,rm,m _ _ _ _ (fun d B F v H1 z j G=>l.nx ρ B σ H1 z (rs.mono (z.stab rm)) j F) q⟩
theorem wj {te:TEd} (m:ad te) (D:bu) (σ:St) (H:Hp) (h:lS K (mV te) D σ H):A7 (lE K te) D σ H:=by
 obtain ⟨ρ,M,A,rs,rm,l,q⟩:=h;exact ⟨ρ,M,rs,rm,m _ _ _ _ (fun d B F v H1 G j z=>l.rt d B v H1 G j z F) q⟩
theorem za {c:TTd} {t u:TSd} (mc:aA c) (D:bu) (σ:St) (H:Hp) (h:lS K (sIf c t u) D σ H):A9 (lT K c) (lS K t) (lS K u) D σ H:=by
 obtain ⟨ρ,M,A,rs,rm,l,q⟩:=h;refine ⟨ρ,M,rs,rm,mc _ _ _ _ (fun k F z H1 B j => ?_) q⟩
 cases k with
 | true=>rw [if_pos rfl] at z ⊢;exact ⟨ρ,F,A,rs.mono (B.stab rm),j,l.ext B,z⟩
 | false=>rw [if_neg Fp] at z ⊢;exact ⟨ρ,F,A,rs.mono (B.stab rm),j,l.ext B,z⟩
theorem wk {te:TEd} {b:BT} (m:ad te) (D:bu) (σ:St) (H:Hp) (h:lS K (ie te b) D σ H):qo (lE K te) (lG K b) D σ H:=by
 obtain ⟨ρ,M,A,rs,rm,l,q⟩:=h;refine ⟨ρ,M,rs,rm,m _ _ _ _ (fun d F ⟨ρ',e,G⟩ v H1 B j z => ?_) q⟩;exact ⟨d, ρ, ρ',z,rs.mono (B.stab rm),e,fun σ' rs'=>l.nx ρ' F σ' H1 B rs' j G⟩
theorem kP {te:TEd} {i:Nat} (m:ad te) (D:bu) (σ:St) (H:Hp) (h:lS K (ie te (bg i)) D σ H):qo (lE K te) (iI i) D σ H:=by
 obtain ⟨ρ,M,A,rs,rm,l,q⟩:=h;refine ⟨ρ,M,rs,rm,m _ _ _ _ (fun d z ⟨ρ',e,B⟩ v H1 j rm1 rd1 => ?_) q⟩
 cases e
 exact l.nx _ z _ H1 j ((rs.mono (j.stab rm)).set i rd1) rm1 B
theorem wl {src:TId} {b:BT} {tb:TSd} (ms:bY src) (mb:aB tb) (D:bu) (σ:St) (H:Hp) (h:lS K (mX src b tb) D σ H):Af (lI K src) (lG K b) (lS K tb) D σ H:=by
 obtain ⟨ρ,M,A,rs,rm,l,q⟩:=h;refine ⟨ρ,M,rs,rm,ms _ _ _ _ (fun xs chk M1 q1 J H1 x1 G it => ?_) q⟩;refine ⟨fun i m σ H'=>m=xs.length - i/\i<=xs.length /\ ∃ ρ M2,RS K H' σ ρ /\ RM K M2 H'/\Ext M1 H1 M2 H'/\bn b tb chk A (xs.drop i) ρ M2,⟨xs.length,by simp,Ha _, ρ,M1,rs.mono (x1.stab rm),G,Ext.refl,q1⟩, ?_⟩
 rintro i m σ2 H2 ⟨rfl,hi, ρ2,M2,L,j,x2,O⟩;have U:=x2.stab G
 by_cases B:i < xs.length
 ·rw [GS B] at O;obtain ⟨c, ρ',hb,q3⟩:=O;obtain ⟨go,yl⟩:=(it M2 H2 U j c i).2 B;refine .inr ⟨go,fun σ' H' => ∃ m',m' < xs.length - i/\(m'=xs.length - (i+1)/\i+1<=xs.length /\ ∃ ρ M,RS K H' σ' ρ /\ RM K M H'/\Ext M1 H1 M H'/\bn b tb chk A (xs.drop (i+1)) ρ M),fun σ' H' h=>h,fun x' H' y => ?_⟩;obtain ⟨yy,d,hd,rd⟩:=yl x' H' y;rw [Fe B] at hd
  cases hd
  obtain ⟨xy,rmy⟩:=yy.ext j;have Y:=x1.trans (x2.trans xy);refine ⟨_, ρ2, ρ',rd,L.mono (xy.stab j),hb,fun σ3 D4 => ?_⟩;have nx:∀ ρ5 F σ5 z,Ext M2 H' F z->RS K z σ5 ρ5->RM K F z->bn b tb chk A (xs.drop (i+1)) ρ5 F -> ∃ m',m' < xs.length - i/\(m'=xs.length - (i+1)/\i+1<=xs.length /\ ∃ ρ M,RS K z σ5 ρ /\ RM K M z/\Ext M1 H1 M z/\bn b tb chk A (xs.drop (i+1)) ρ M) :=
   fun ρ5 F σ5 z Z D5 D6 q5=>⟨xs.length - (i+1),by lia,rfl,B, ρ5,F,D5,D6,(x2.trans xy).trans Z,q5⟩
  refine ⟨ρ',M2, { A with nx:=bn b tb chk A (xs.drop (i+1)),ct:=bn b tb chk A (xs.drop (i+1)),bk:=A.nx },D4,rmy,⟨nx,fun d F v z Z=>l.rt d F v z (Y.trans Z),fun ρ5 F σ5 z Z=>l.nx ρ5 F σ5 z (Y.trans Z),nx⟩,q3⟩
 ·have e:i=xs.length:=by lia
  subst e;rw [NL] at O;exact .inl ⟨(it M2 H2 U j O.1 _).1 (Fl _),l.nx ρ2 M2 σ2 H2 (x1.trans x2) L j O.2⟩
theorem qR {c:TTd} {tb:TSd} (mc:aA c) (mb:aB tb) (D:bu) (σ:St) (H:Hp) (h:lS K (fJ c tb) D σ H):si (lT K c) (lS K tb) D σ H:=by
 obtain ⟨ρ,M,A,rs,rm,l,n,q⟩:=h;refine ⟨fun m σ' H' => ∃ ρ' M',RS K H' σ' ρ'/\RM K M' H'/\Ext M H M' H'/\b8 c tb A m ρ' M',⟨n, ρ,M,rs,rm,Ext.refl,q⟩, ?_⟩;rintro m σ1 H1 ⟨ρ1,M1,J,L,x1,q1⟩
 cases m with
 | zero=>exact q1.elim
 | succ m =>
   refine ⟨ρ1,M1,J,L,mc _ _ _ _ (fun k M2 Z H2 x2 O => ?_) q1⟩;have j:=x1.trans x2;have U:=J.mono (x2.stab L)
   cases k with
   | false=>rw [if_neg Fp] at Z;dsimp only;rw [if_neg Fp];exact l.nx ρ1 M2 σ1 H2 j U O Z
   | true =>
     rw [if_pos rfl] at Z;dsimp only;rw [if_pos rfl];refine ⟨fun σ' H' => ∃ ρ' M',RS K H' σ' ρ'/\RM K M' H'/\Ext M H M' H'/\b8 c tb A m ρ' M',fun σ' H' h=>⟨m,Nat.lt_succ_self m,h⟩, ρ1,M2, { A with nx:=b8 c tb A m,ct:=b8 c tb A m,bk:=A.nx },U,O,⟨?_,fun d z v Y B=>l.rt d z v Y (j.trans B),fun ρ5 z σ5 Y B=>l.nx ρ5 z σ5 Y (j.trans B), ?_⟩,Z⟩
     ·exact fun ρ5 z σ5 Y B F G q5=>⟨ρ5,z,F,G,j.trans B,q5⟩
     ·exact fun ρ5 z σ5 Y B F G q5=>⟨ρ5,z,F,G,j.trans B,q5⟩
end
noncomputable def eZ:D->D->D->Mem->(Mem->Prop)->Prop:=fun o i v M Q => ∃ a,o = .ref a /\
 ((∃ xs k j,i = .int k/\M a=some (.lst xs)/\ixN xs.length k=some j/\Q (ag M a (.lst (xs.set j v)))) ∨
  ∃ t kvs,M a=some (.dct t kvs)/\dL t i=true/\kvs.length < Fj/\Q (ag M a (.dct t (bJ kvs i v))))
noncomputable def mY (te to ti:TEd):TSd:=fun D ρ M=>te ρ M fun v M1=>to ρ M1 fun o M2=>ti ρ M2 fun i M3=>eZ o i v M3 fun M4=>D.nx ρ M4
theorem kQ {o i v:D} {M:Mem} {Q Q':Mem->Prop} (h:∀ M',Q M'->Q' M') (q:eZ o i v M Q):eZ o i v M Q':=by
 obtain ⟨a,e,⟨xs,k,j,e1,e2,z,q⟩ | ⟨t,kvs,e1,e2,z,q⟩⟩:=q
 ·exact ⟨a,e, .inl ⟨xs,k,j,e1,e2,z,h _ q⟩⟩
 ·exact ⟨a,e, .inr ⟨t,kvs,e1,e2,z,h _ q⟩⟩
theorem wm {te to ti:TEd} (he:ad te) (ho:ad to) (hi:ad ti):aB (mY te to ti):=fun a b ρ M i q =>
 he _ _ _ _ (fun v F j=>ho _ _ _ _ (fun o M2 z=>hi _ _ _ _ (fun k G B=>kQ (fun M' q'=>i.nx _ _ q') B) z) j) q
section
variable {X:Cx} {K:Frag}
theorem mZ (j:X.A.units+1 < HQ):PSet X (fun o i v H Q => ∃ a H',o = .ref a/\DPut H a i v H'/\Q H'):=by
 intro pins s σ H o i v ov iv u Q I ro ri rv h;obtain ⟨a,H',rfl,g,q⟩:=h
 cases ro
 exact sM j I g ri rv fun s' I'=>⟨H',I',q⟩
theorem PSet.or {t t':jH} (h:PSet X t) (h':PSet X t'):PSet X (fun o i v H Q=>t o i v H Q∨t' o i v H Q):=by
 intro pins s σ H o i v ov iv u Q I ro ri rv q
 rcases q with q | q
 ·exact h pins s σ H o i v ov iv u Q I ro ri rv q
 ·exact h' pins s σ H o i v ov iv u Q I ro ri rv q
section
variable {κ:Type} [DecidableEq κ] {H:Hp} {RK:D -> κ -> Prop} (inj:∀ {d e:D} {k : κ},RK d k->RK e k->d=e) (fn:∀ {d:D} {k k' : κ},RK d k->RK d k'->k=k')
include inj fn
theorem pE {k:D} {q : κ} (j:RK k q):∀ {kvs:List (D×D)} {ps:List (κ × V)},G5 (fun p r=>RK p.1 r.1/\RD K H p.2 r.2) kvs ps ->
 (kvs.any fun p=>decide (p.1=k))=(ps.any fun p=>decide (p.1=q))
 | _,_, .nil=>rfl
 | _,_, .cons (a:=p) (b:=r) hr t=>by
   rw [IF,IF,pE j t];congr 1
   by_cases e:p.1=k
   ·have e':r.1=q:=by have h1:=hr.1;rw [e] at h1;exact fn h1 j
    rw [decide_eq_true e,decide_eq_true e']
   ·have e' : ¬ r.1=q:=fun z=>e (by have h1:=hr.1;rw [z] at h1;exact inj h1 j)
    rw [decide_eq_false e,decide_eq_false e']
theorem pF {k:D} {q : κ} (B:RK k q) {d:D} {v:V} (F:RD K H d v):∀ {kvs:List (D×D)} {ps:List (κ × V)},G5 (fun p r=>RK p.1 r.1/\RD K H p.2 r.2) kvs ps ->
 G5 (fun p r=>RK p.1 r.1/\RD K H p.2 r.2) (kvs.map fun p=>if p.1=k then (p.1,d) else p) (ps.map fun p=>if p.1=q then (p.1,v) else p)
 | _,_, .nil => .nil
 | _,_, .cons (a:=p) (b:=r) j t=>by
   refine .cons ?_ (pF B F t)
   by_cases e:p.1=k
   ·have e':r.1=q:=by have h1:=j.1;rw [e] at h1;exact fn h1 B
    dsimp only;rw [if_pos e,if_pos e'];exact ⟨j.1,F⟩
   ·have e' : ¬ r.1=q:=fun z=>e (by have h1:=j.1;rw [z] at h1;exact inj h1 B)
    dsimp only;rw [if_neg e,if_neg e'];exact j
theorem ig {k:D} {q : κ} (j:RK k q) {d:D} {v:V} (z:RD K H d v) {kvs:List (D×D)} {ps:List (κ × V)} (r:G5 (fun p r=>RK p.1 r.1/\RD K H p.2 r.2) kvs ps) :
 G5 (fun p r=>RK p.1 r.1/\RD K H p.2 r.2) (bJ kvs k d) (be ps q v):=by
 unfold bJ be;rw [pE (K:=K) (H:=H) (RK:=RK) inj fn j r]
 by_cases e:(ps.any fun p=>decide (p.1=q))=true
 ·rw [if_pos e,if_pos e];exact pF (RK:=RK) inj fn j z r
 ·rw [if_neg e,if_neg e];exact r.snoc ⟨j,z⟩
end
theorem n6 {M:Mem} {H:Hp} {o i v:D} {ov iv vv:V} {Qd:Mem->Prop} {Q:Hp->Prop} (rm:RM K M H) (ro:RD K H o ov) (ri:RD K H i iv) (rv:RD K H v vv) (h:eZ o i v M Qd) (J:∀ M' H',Ext M H M' H'->RM K M' H'->Qd M'->Q H') :
 xx ov iv vv H Q ∨ ∃ a H',ov = .ref a/\DPut H a iv vv H'/\Q H':=by
 obtain ⟨a,rfl,⟨xs,k,j,rfl,e2,G,q⟩ | ⟨t,kvs,e1,e2,G,q⟩⟩:=h
 ·cases OL.mp ro
  cases OK.mp ri
  obtain ⟨vs,U,rs⟩:=rm _ _ e2;have st:Stab H (upd H a (.lst (vs.set j vv))):=rm.stabPut e2;exact .inl ⟨a,vs,k,j,rfl,rfl,U,by rw [rs.length];exact G,J _ _ (Ext.put e2) (rm.put (o := .lst (xs.set j v)) e2 ⟨_,ar,(rs.set j rv).mono st⟩) q⟩
 ·cases OL.mp ro
  have ro':=rm _ _ e1
  cases t with
  | false =>
    obtain ⟨ps,L,pr⟩:=ro';obtain ⟨kq,F⟩:=mj (show eQ i=true from e2);have st:Stab H (upd H a (.dK (be ps kq vv))):=rm.stabPut e1;have B:=ig (RK:=RKey) RKey.inj RKey.fun F rv pr;rw [jS F ri];refine .inr ⟨a,_,rfl,DPut.k L (by rw [<- Ih pr];exact G),J _ _ (Ext.put e1) (rm.put (o := .dct false (bJ kvs i v)) e1 ⟨_,ar,OO B fun _ _ z=>⟨z.1,z.2.mono st⟩⟩) q⟩
  | true =>
    obtain ⟨ps,L,pr⟩:=ro';obtain ⟨kq,F⟩:=jM (show bK i=true from e2);have st:Stab H (upd H a (.dT (be ps kq vv))):=rm.stabPut e1;have B:=ig (RK:=RKeys) RKeys.inj RKeys.fun F rv pr
    cases i <;> first
     | exact F.elim
     | (obtain ⟨b,us,rfl,O,ru⟩:=OZ (jN e2) ri
        rw [eR F ru] at O;exact .inr ⟨a,_,rfl,DPut.t L O (by rw [<- Ih pr];exact G),J _ _ (Ext.put e1) (rm.put (o := .dct true (bJ kvs _ v)) e1 ⟨_,ar,OO B fun _ _ z=>⟨z.1,z.2.mono st⟩⟩) q⟩)
theorem AT {o i e:Expr} {te to ti:TEd} {pos tpos:Pos} (hu:X.A.units+1 < HQ) (me:ad te) (mo:ad to) (mi:ad ti) (he:PE X e (lE X.K te)) (ho:PE X o (lE X.K to)) (hi:PE X i (lE X.K ti))
 (hs:J1 [.Subscript o i tpos] e pos.line X.env=pure false) (hw:Ii [.Subscript o i tpos] e X.env=pure none)
 (ha:∀ v,assign (.Subscript o i tpos) X.env v=(do
   let ov <- holding [v] (eval o X.env)
   let iv <- holding [v,ov] (eval i X.env)
   KG tpos
   holding [v,ov,iv] (Mm ov iv v)
   release [v,ov,iv] [])):PS X (.Assign [.Subscript o i tpos] e pos) (lS X.K (mY te to ti)):=by
 refine PS.imp (sg he (Ab ho hi (PSet.or lU (mZ hu)) ha) hs hw rfl) fun D σ H h => ?_;obtain ⟨ρ,M,A,rs,rm,l,q⟩:=h;refine ⟨ρ,M,rs,rm,me _ _ _ _ (fun v M1 q1 vv H1 F j G => ?_) q⟩;refine ⟨ρ,M1,rs.mono (F.stab rm),j,mo _ _ _ _ (fun ov M2 q2 vo H2 J z L => ?_) q1⟩;refine ⟨ρ,M2,(rs.mono (F.stab rm)).mono (J.stab j),z,mi _ _ _ _ (fun iv M3 q3 vi H3 O U Y => ?_) q2⟩;have B:=F.trans (J.trans O);exact n6 U (L.mono (O.stab z)) Y ((G.mono (J.stab j)).mono (O.stab z)) q3 fun M' H' x4 Z q4=>l.nx ρ M' σ H' (B.trans x4) (rs.mono ((B.trans x4).stab rm)) Z q4
noncomputable def lF:R2d
 | .int i, .int j,M,Q=>Q (.int (i+j)) M
 | _,_,_,_=>False
noncomputable def lH:R2d
 | .int i, .int j,M,Q=>Q (.int (i - j)) M
 | _,_,_,_=>False
noncomputable def lJ:R2d
 | .int i, .int j,M,Q=>MulOk i j/\Q (.int (i*j)) M
 | _,_,_,_=>False
theorem kR:aF lF:=by
 intro x y M Q Q' h q
 cases x <;> cases y <;> first | exact q.elim | exact h _ _ q
theorem kS:aF lH:=by
 intro x y M Q Q' h q
 cases x <;> cases y <;> first | exact q.elim | exact h _ _ q
theorem kT:aF lJ:=by
 intro x y M Q Q' h q
 cases x <;> cases y <;> first | exact q.elim | exact ⟨q.1,h _ _ q.2⟩
theorem tI:OpR X (JJ .Add) (l2 X.K lF):=by
 refine OpR.of yn fun v u H Q h => ?_;obtain ⟨x,y,M,rm,rx,ry,q⟩:=h
 cases x <;> cases y <;> first
  | exact q.elim
  | (cases OK.mp rx;cases OK.mp ry;exact ⟨_,_,rfl,rfl,q _ H Ext.refl rm (OK.mpr rfl)⟩)
theorem tJ:OpR X (JJ .Sub) (l2 X.K lH):=by
 refine OpR.of yo fun v u H Q h => ?_;obtain ⟨x,y,M,rm,rx,ry,q⟩:=h
 cases x <;> cases y <;> first
  | exact q.elim
  | (cases OK.mp rx;cases OK.mp ry;exact ⟨_,_,rfl,rfl,q _ H Ext.refl rm (OK.mpr rfl)⟩)
theorem tK:OpR X (JJ .Mult) (rI MulOk fun i j => .int (i*j)):=opI fun _ _ _ _ _ _ _ z q=>imul_int q z.ok
theorem tL:OpR X (JJ .Mult) (l2 X.K lJ):=by
 refine OpR.of tK fun v u H Q h => ?_;obtain ⟨x,y,M,rm,rx,ry,q⟩:=h
 cases x <;> cases y <;> first
  | exact q.elim
  | (cases OK.mp rx;cases OK.mp ry;exact ⟨_,_,rfl,rfl,q.1,q.2 _ H Ext.refl rm (OK.mpr rfl)⟩)
end
end
end Mi
end L2
namespace L2
open PySem PySem.Spec PyProof.Rows
namespace Mi
variable {K:Frag}
theorem tM {ta:TAd} {i j:Nat} (m:aW ta) (D:bu) (σ:St) (H:Hp) (h:lS K (mW ta (bw (bg i) (bw (bg j) eX))) D σ H):Ac i j (lA K ta) D σ H:=by
 obtain ⟨ρ,M,A,rs,rm,l,q⟩:=h;refine ⟨ρ,M,rs,rm,m _ _ _ _ (fun ds G ⟨ρ',e,J⟩ vs H1 F B z => ?_) q⟩
 match ds,e,z with
 | [d1,d2],e,z =>
  obtain ⟨v,u,rfl,L,O⟩:=z.two;simp only [bw,bg,eX,JP,Nm] at e;subst e;exact ⟨v,u,rfl,l.nx _ G _ H1 F (((rs.mono (F.stab rm)).set i L).set j O) B J⟩
end Mi
end L2
namespace L2
open PySem PySem.Spec PyProof.Rows
section
section
variable {X:Cx}
theorem ax:Ae X (fun o i H Q => ∃ a xs k x,o = .ref a/\i = .int k/\SqL X.K H a xs/\atI xs k=some x/\Q x H):=by
 intro pins s σ H o i ov iv Q I ro ri h;obtain ⟨a,xs,k,x,rfl,rfl,sq,he,q⟩:=h
 cases ro
 obtain ⟨t,rfl⟩:=ri;obtain ⟨its,r,pl,J⟩:=I.list sq;obtain ⟨j,h1,h2,L,B,F⟩:=jI he;obtain ⟨w,ew,rw'⟩:=r.get h2;have G:=r.length;have O:=e9;have fin:EP X pins σ Q w s:=⟨x,H,I,rw',q⟩
 by_cases h0 : 0<=k
 ·have z:k.toNat=j:=Hu.inj (by rw [<- h1,LK h0 F])
  exact wpAny_getItem_list pl.isList h0 (by lia) (by rw [z];simpa using ew) fin
 ·have z:(k+(its.toArray.size:Int)).toNat=j:=by
   rw [Fn, <- G];exact Hu.inj (by rw [<- h1,Lk (by lia) B])
  exact Lm pl.isList (by lia) (by rw [Fn];lia) (by lia) (by rw [z];simpa using ew) fin
end
namespace Mi
section
variable {X:Cx}
noncomputable def xF:R2d:=fun x y M Q => ∃ a ds k d,x = .ref a/\y = .int k/\M a=some (.lst ds)/\atI ds k=some d/\Q d M
theorem tN:aF xF:=fun _ _ _ _ _ h ⟨a,ds,k,d,e1,e2,j,z,q⟩=>⟨a,ds,k,d,e1,e2,j,z,h _ _ q⟩
noncomputable def jf (to ti te:TEd) (rd:R2d):TSd:=fun D ρ M=>to ρ M fun o M1=>ti ρ M1 fun i M2=>xF o i M2 fun x M3=>te ρ M3 fun y M4=>rd x y M4 fun z M5=>eZ o i z M5 fun M6=>D.nx ρ M6
theorem tO {to ti te:TEd} {rd:R2d} (ho:ad to) (hi:ad ti) (he:ad te) (j:aF rd):aB (jf to ti te rd):=fun a b ρ M l q =>
 ho _ _ _ _ (fun o U B=>hi _ _ _ _ (fun i M2 F=>tN _ _ _ _ _ (fun x Y G=>he _ _ _ _ (fun y Z J=>j _ _ _ _ _ (fun z M5 L=>kQ (fun M6 O=>l.nx _ _ O) L) J) G) F) B) q
theorem jX {o i e:Expr} {to ti te:TEd} {op:Jr} {rd:R2d} {pos tpos:Pos} (hu:X.A.units+1 < HQ) (mo:ad to) (mi:ad ti) (me:ad te) (hr:aF rd) (ho:PE X o (lE X.K to)) (hi:PE X i (lE X.K ti)) (he:PE X e (lE X.K te)) (J:OpR X (JJ op) (l2 X.K rd))
 (ha:∀ ov iv new,augStore i ov iv new=(do holding [new,ov,iv] (Mm ov iv new);release [new,ov,iv] [];pure .next)):PS X (.AugAssign (.Subscript o i tpos) op e pos) (lS X.K (jf to ti te rd)):=by
 refine PS.imp (ym ho hi ax he (tip:=l2 X.K rd) J (PSet.or lU (mZ hu)) ha) fun D σ H h => ?_;obtain ⟨ρ,M,A,rs,rm,l,q⟩:=h;refine ⟨ρ,M,rs,rm,mo _ _ _ _ (fun d1 M1 q1 v1 H1 x1 j L => ?_) q⟩;have B:=rs.mono (x1.stab rm);refine ⟨ρ,M1,B,j,mi _ _ _ _ (fun d2 M2 q2 v2 H2 O z U => ?_) q1⟩;have Y:=B.mono (O.stab j);have F:=L.mono (O.stab j);obtain ⟨a,ds,k,d,rfl,rfl,e3,e4,q3⟩:=q2
 cases OL.mp F
 cases OK.mp U
 obtain ⟨vs,Z,rv⟩:=z _ _ e3;obtain ⟨v3,D4,D5⟩:=iZ rv e4;refine ⟨a,vs,k,v3,rfl,rfl,SqL.of Z,D4, ?_⟩;refine ⟨ρ,M2,Y,z,me _ _ _ _ (fun d4 M4 q4 v4 H4 x4 D6 D7 => ?_) q3⟩;refine ⟨d,d4,M4,D6,D5.mono (x4.stab z),D7,hr _ _ _ _ _ (fun d5 M5 q5 v5 H5 x5 D8 D9 => ?_) q4⟩;have G:=((x1.trans O).trans x4).trans x5;exact n6 D8 (OL.mpr rfl) (OK.mpr rfl) D9 q5 fun M' H' x6 Da q6=>l.nx ρ M' σ H' (G.trans x6) (rs.mono ((G.trans x6).stab rm)) Da q6
end
section
section
variable {X:Cx}
noncomputable def n8:D->Option Bool
 | .bl b=>some b
 | .int i=>some (i != 0)
 | _=>none
noncomputable def qS:RAd:=fun xs M Q => ∃ x ds ts,xs=[x]/\aC M x=some ds/\au n8 ds=some ts/\Q (.bl (ts.all id)) M
theorem n9:aO qS:=fun _ _ _ _ h ⟨x,ds,ts,e,e1,e2,q⟩=>⟨x,ds,ts,e,e1,e2,h _ _ q⟩
theorem nc {α β:Type} {f : α -> Option β}:∀ {xs:List α} {ys:List β},au f xs=some ys->ys.length=xs.length /\ ∀ (i:Nat) x,xs[i]? = some x -> ∃ y,ys[i]? = some y/\f x=some y
 | [],ys,h=>by cases h;exact ⟨rfl,fun i x e=>by simp at e⟩
 | x::xs,ys,h=>by
   simp only [au] at h
   cases e1:f x with
   | none=>rw [e1] at h;cases h
   | some y =>
     rw [e1] at h;simp only [JP] at h
     cases e2:au f xs with
     | none=>rw [e2] at h;cases h
     | some r =>
       rw [e2] at h;cases h;obtain ⟨l,g⟩:=nc e2;refine ⟨by simp [l],fun i z e => ?_⟩
       cases i with
       | zero=>simp at e;subst e;exact ⟨y,rfl,e1⟩
       | succ i=>simp at e;simpa using g i z e
theorem zb {P:FI} {w:G2} {A:G8} {E:gV->tv->Prop} {s:tv} {K:Frag} {H:Hp} {d:D} {v:V} {u:gV} {b:Bool} {Q:Bool->tv->Prop} (e:n8 d=some b) (rd:RD K H d v) (ru:RelV v u) (q:Q b s):Fq (model P w) A (truthy u) Q E s:=by
 cases d with
 | bl c=>cases ON.mp rd;cases ru;cases e;exact Ib q
 | int i=>cases OK.mp rd;obtain ⟨t,rfl⟩:=ru;cases e;exact PyProof.Rows.truthy_int q
 | _=>cases e
theorem range_all {ts:List Bool}:(Hf ts.length).all (fun i=>ts.getD i false)=ts.all id/\(Hf ts.length).any (fun i=>ts.getD i false)=ts.any id:=by
 have e:(Hf ts.length).map (fun i=>ts.getD i false)=ts:=by
  apply List.ext_getElem
  ·simp
  ·intro i h1 h2;simp [Gx,Fe h2]
 constructor
 ·conv=>rhs;rw [<- e]
  rw [List.all_map];rfl
 ·conv=>rhs;rw [<- e]
  rw [List.any_map];rfl
theorem wn (J:X.calm=true) {pins:List (Addr×Obj)} {s:tv} {σ:St} {H:Hp} {M:Mem} {x:D} {ds:List D} {ts:List Bool} {v:V} {u:gV} {Q:gV->tv->Prop} {g:List Bool->Bool} (I:Inv X pins σ H s) (rm:RM X.K M H) (rd:RD X.K H x v) (ru:RelV v u) (e1:aC M x=some ds) (e2:au n8 ds=some ts)
 (fin:∀ h' tk,Inv X pins σ H { s with heap:=h',toks:=tk }->Q (.bool (g ts)) { s with heap:=h',toks:=tk })
 (gg:Nat->(Nat->Bool)->Bool) (L:gg ts.length (fun i=>ts.getD i false)=g ts) :
 Fq (model X.prog X.w) X.A.in1 (Lh u) (fun it s₂ => ∃ I fp wr n P St tr,it = .ref I/\Walks X.prog X.w X.A.in1 I fp wr n P St/\St 0 s₂.heap/\TruthOf X.prog X.w X.A.in1 P tr /\
  ∀ h' tk,(∀ b o,b∉wr->s₂.heap.get? b=some o->h'.get? b=some o)->Q (.bool (gg n tr)) { s₂ with heap:=h',toks:=tk }) X.xe s:=by
 obtain ⟨p,vs,rfl,sq,O⟩:=sZ rm rd e1
 cases ru
 obtain ⟨lt,get⟩:=nc e2;have lv:=O.length;have tr:∀ (its:List gV),Vals vs its->TruthOf X.prog X.w X.A.in1 (fun i w=>its.toArray[i]? = some w) (fun i=>ts.getD i false):=by
  intro its rv i w s' Q' E' U B;have q:its[i]? = some w:=by simpa using U
  have li:=rv.length;have hi:i < its.length:=(FC.mp q).1;obtain ⟨d,hd⟩:∃ d,ds[i]? = some d:=⟨ds[i]'(by lia),Fe (by lia)⟩
  obtain ⟨v',F,rd'⟩:=O.get hd;obtain ⟨u',z,ru'⟩:=rv.get F;rw [q] at z;cases z;obtain ⟨b,Y,eb⟩:=get i d hd;have:ts.getD i false=b:=by rw [Gx,Y];rfl
  have B:Q' (ts.getD i false) s':=B;rw [this] at B;exact zb eb rd' ru' B
 rcases sq with sq | sq
 ·obtain ⟨its,rv,pl,Z⟩:=I.list sq;have li:=rv.length;have j:p < s.heap.objs.size:=by obtain ⟨o,n,e,_⟩:=pl;exact Fg e
  refine KL pl.isList ⟨s.heap.objs.size,_,_,_,_,_,_,rfl,Walks.list (by rw [MZ];exact I.ok.hd J) s.heap.objs.size p (FR j) its.toArray,⟨⟨_,Fh _ rfl,rfl,rfl⟩,pl.isList.at fun o e=>q7 _ e⟩,tr its rv,fun h' tk k => ?_⟩
  have G:its.toArray.size=ts.length:=by rw [Fn];lia
  rw [G,L];exact fin h' tk (I.kept (t':=tk) fun b o e=>k b o (by simp;exact FR (Fg e)) (q7 _ e))
 ·obtain ⟨its,rv,pl,Z⟩:=I.tuple sq;have li:=rv.length;have j:p < s.heap.objs.size:=by obtain ⟨o,e,_⟩:=pl;exact Fg e
  have pt:s.heap.IsTuple p its.toArray:=pl;refine Jg pt ⟨s.heap.objs.size,_,_,_,_,_,_,rfl,Walks.tuple (by rw [MZ];exact I.ok.hd J) s.heap.objs.size p (FR j) its.toArray,⟨⟨_,Fh _ rfl,rfl,rfl⟩,pt.push _⟩,tr its rv,fun h' tk k => ?_⟩
  have G:its.toArray.size=ts.length:=by rw [Fn];lia
  rw [G,L];exact fin h' tk (I.kept (t':=tk) fun b o e=>k b o (by simp;exact FR (Fg e)) (q7 _ e))
theorem qT (j:X.calm=true):CallR X (.builtin "all") (lR X.K qS):=by
 intro pins s σ H xs us Q I rv h;obtain ⟨ds,M,rm,rs,x,es,ts,rfl,e1,e2,q⟩:=h;obtain ⟨v,rfl,r⟩:=rs.one;obtain ⟨u,rfl,ru⟩:=dI rv;exact call_all_walk (wn j I rm r ru e1 e2 (g:=fun ts=>ts.all id) (fun h' tk I'=>⟨.bl _,H,I',rfl,q _ H Ext.refl rm (ON.mpr rfl)⟩) (fun n tr=>(Hf n).all tr) range_all.1)
noncomputable def jg (t:Bool):TEd:=fun _ M Q => ∀ p,M p=none->Q (.ref p) (ag M p (.dct t []))
theorem tQ {t:Bool}:ad (jg t):=fun _ _ _ _ i q p n=>i _ _ (q p n)
theorem zc {t:Bool} {pos:Pos}:PE X (.Dict [] [] pos) (lE X.K (jg t)):=by
 cases t with
 | false =>
   refine PE.imp vC fun σ H Q ⟨ρ,M,rs,rm,q⟩ p n => ?_;exact q p (rm.out n) (.ref p) _ (Ext.lay n) (rm.lay n ⟨[],ar, .nil⟩) (OL.mpr rfl)
 | true =>
   refine PE.imp vD fun σ H Q ⟨ρ,M,rs,rm,q⟩ p n => ?_;exact q p (rm.out n) (.ref p) _ (Ext.lay n) (rm.lay n ⟨[],ar, .nil⟩) (OL.mpr rfl)
end
end
end Mi
end
end L2
namespace L2
namespace Srt
open PySem PySem.Spec PyProof.Rows
structure Cm (prog:FI) (w:G2) (A:G8) (s:tv) (kd:J9) (P:Fi->Prop) (lt:Fi->Fi->Bool):Prop where
 asym:∀ x y,lt x y=true->lt y x=false
 neg:∀ x y z,lt x z=true->lt x y=true∨lt y z=true
 run:∀ (x y:Fi) (E:gV->tv->Prop) (Q:Bool->tv->Prop),P x->P y->Q (lt x y) s->Fq (Fz prog w) A (keyLt' kd x.1 y.1) Q E s
section
variable {prog:FI} {w:G2} {A:G8} {E:gV->tv->Prop} {s:tv} {kd:J9} {P:Fi->Prop} {lt:Fi->Fi->Bool}
theorem aa {σ α:Type} {M:JH} {x : α} {st : σ} {Q : α -> σ -> Prop} (q:Q x st):wpS M A E s (pure x) Q st :=
 fun _ _ _=>⟨rfl,q⟩
theorem cD {σ:Type} {M:JH} {tag:String} {st : σ} {Q:Unit -> σ -> Prop} (q:Q () st):wpS M A E s (liftM (PySem.rule tag)) Q st :=
 wpS_lift (Hz ⟨rfl,q⟩)
theorem ze {σ:Type} {M:JH} {st st' : σ} {Q:PUnit -> σ -> Prop} (q:Q PUnit.unit st'):wpS M A E s (set st') Q st :=
 fun _ _ _=>⟨rfl,q⟩
theorem jh (c:Cm prog w A s kd P lt) {x y:Fi} {st:Gj} {Q:Option Bool->Gj->Prop} (j:GU st=kd) (hx:P x) (z:P y) (q:Q (some (lt x y)) st):wpS (Fz prog w) A E s (lt' x y) Q st:=by
 rw [lt'_eq];refine Ff (Jd ?_);refine Ff (wpS_lift ?_);rw [j];intro Γ p hp;rw [Sem.wp_attempt];exact c.run x y (fun e s'=>s'=s/\wpS (Fz prog w) A E s (do modify fun s=>JQ (GU s) (G4 s) (Fx s) (gallopOf s) (some e);pure none) Q st) (fun b s'=>s'=s/\wpS (Fz prog w) A E s (pure (some b)) Q st) hx z ⟨rfl,aa q⟩ Γ p hp
theorem ay {arr:Array Fi} {i:Nat} {x:Fi} {st:Gj} {Q:Fi->Gj->Prop} (h:arr[i]? = some x) (q:Q x st):wpS (Fz prog w) A E s (elem' arr i) Q st:=by
 rw [elem'_eq,h];exact aa q
theorem Cm.le_trans (c:Cm prog w A s kd P lt) {x y z:Fi} (h:lt y x=false) (h2:lt z y=false):lt z x=false:=by
 cases e:lt z x with
 | false=>rfl
 | true=>rcases c.neg z y x e with q | q <;> simp_all
theorem Cm.irr (c:Cm prog w A s kd P lt) {x:Fi}:lt x x=false:=by
 cases e:lt x x with
 | false=>rfl
 | true=>have:=c.asym x x e;rw [e] at this;exact this
theorem az {σ α:Type} {M:JH} {m:StateT σ Sem α} {st : σ} {Q Q' : α -> σ -> Prop} (h:wpS M A E s m Q st) (q:∀ a st',Q a st'->Q' a st'):wpS M A E s m Q' st :=
 Gw h (fun a s' z=>⟨z.1,q _ _ z.2⟩) fun _ _ z=>z
end
noncomputable abbrev AU:=Bool->Fi->Array Fi->Nat->Nat->Nat->StateT Gj Sem (Option Nat)
noncomputable abbrev AV:=Array Fi->Array Fi->StateT Gj Sem (Array Fi)
noncomputable def bey (lt:Fi->Fi->Bool) (left:Bool) (key x:Fi):Bool:=if left=true then lt x key else !(lt key x)
structure Same (st st':Gj):Prop where
 arr:G4 st'=G4 st
 kind:GU st'=GU st
 pend:Fx st'=Fx st
 fail:HF st'=HF st
def gD (prog:FI) (w:G2) (A:G8) (E:gV->tv->Prop) (s:tv) (kd:J9) (P:Fi->Prop) (lt:Fi->Fi->Bool) (g:AU):Prop :=
 ∀ (left:Bool) (key:Fi) (arr:Array Fi) (L xs R:List Fi) (base n hint:Nat) (st:Gj) (Q:Option Nat->Gj->Prop),GU st=kd->P key->arr.toList=L++xs++R->base=L.length->n=xs.length->(∀ x∈xs,P x)->hint < n ->
  xs.Pairwise (fun x y=>lt y x=false) ->
  (∀ X Y,xs=X++Y->(∀ x∈X,bey lt left key x=true)->(∀ x∈Y,bey lt left key x=false)->Q (some X.length) st) ->
  wpS (Fz prog w) A E s (g left key arr base n hint) Q st
def gE (prog:FI) (w:G2) (A:G8) (E:gV->tv->Prop) (s:tv) (kd:J9) (P:Fi->Prop) (lt:Fi->Fi->Bool) (m:AV):Prop :=
 ∀ (a b:Array Fi) (st:Gj) (Q:Array Fi->Gj->Prop),GU st=kd->(∀ x∈a.toList,P x)->(∀ x∈b.toList,P x)->0 < a.size->0 < b.size ->
  a.toList.Pairwise (fun x y=>lt y x=false)->b.toList.Pairwise (fun x y=>lt y x=false)->(∀ x y,a[0]? = some x->b[0]? = some y->lt x y=false)->(∀ x y,a[a.size - 1]? = some x->b[b.size - 1]? = some y->lt x y=false) ->
  (∀ r st',r.toList.Perm (a.toList++b.toList)->r.toList.Pairwise (fun x y=>lt y x=false)->Same st st'->Q r st') ->
  wpS (Fz prog w) A E s (m a b) Q st
section
variable {prog:FI} {w:G2} {A:G8} {E:gV->tv->Prop} {s:tv} {kd:J9} {P:Fi->Prop} {lt:Fi->Fi->Bool}
theorem fL (c:Cm prog w A s kd P lt) {left:Bool} {key x:Fi} {arr:Array Fi} {j:Nat} {st:Gj} {Q:Option Bool->Gj->Prop} (z:GU st=kd) (hx:P key) (B:P x) (e:arr[j]? = some x) (q:Q (some (bey lt left key x)) st) :
 wpS (Fz prog w) A E s (do
  let x <- elem' arr j
  if left=true then lt' x key else do
   let r <- lt' key x
   pure (Ou (fun x => !x) r)) Q st:=by
 refine Ff (ay e ?_)
 cases left with
 | true=>exact jh c z B hx q
 | false=>exact Ff (jh c z hx B (aa q))
theorem ng (c:Cm prog w A s kd P lt) {left:Bool} {key x y:Fi} (h:lt y x=false) (j:bey lt left key y=true):bey lt left key x=true:=by
 unfold bey at j ⊢
 cases left with
 | true =>
   rw [if_pos rfl] at j ⊢
   rcases c.neg y x key j with q | q
   ·rw [h] at q;cases q
   ·exact q
 | false =>
   simp at j ⊢
   cases e:lt key x with
   | false=>rfl
   | true =>
     rcases c.neg key y x e with q | q
     ·rw [j] at q;cases q
     ·rw [h] at q;cases q
structure Gal (lt:Fi->Fi->Bool) (left:Bool) (key:Fi) (xs:List Fi) (lo hi:Nat):Prop where
 le:lo<=hi
 len:hi<=xs.length
 up:∀ i x,i < lo->xs[i]? = some x->bey lt left key x=true
 dn:∀ i x,hi<=i->xs[i]? = some x->bey lt left key x=false
theorem eF {xs:List Fi} {R:Fi->Fi->Prop} (h:xs.Pairwise R) {i j:Nat} {x y:Fi} (q:i < j) (hx:xs[i]? = some x) (z:xs[j]? = some y):R x y:=by
 obtain ⟨h1,e1⟩:=FC.mp hx;obtain ⟨h2,e2⟩:=FC.mp z;rw [<- e1, <- e2];exact List.pairwise_iff_getElem.mp h i j h1 h2 q
theorem gF (c:Cm prog w A s kd P lt) {left:Bool} {key:Fi} {xs:List Fi} (h:xs.Pairwise (fun x y=>lt y x=false)) {j:Nat} {y:Fi} (q:xs[j]? = some y) (z:bey lt left key y=true):∀ i x,i < j+1->xs[i]? = some x->bey lt left key x=true:=by
 intro i x hi hx
 by_cases e:i=j
 ·subst e;rw [hx] at q;cases q;exact z
 ·exact ng c (eF h (by lia) hx q) z
theorem gG (c:Cm prog w A s kd P lt) {left:Bool} {key:Fi} {xs:List Fi} (h:xs.Pairwise (fun x y=>lt y x=false)) {j:Nat} {y:Fi} (z:xs[j]? = some y) (B:bey lt left key y=false):∀ i x,j<=i->xs[i]? = some x->bey lt left key x=false:=by
 intro i x hi hx
 by_cases e:i=j
 ·subst e;rw [hx] at z;cases z;exact B
 ·cases q:bey lt left key x with
  | false=>rfl
  | true=>have:=ng c (eF h (by lia) z hx) q;rw [B] at this;cases this
theorem Gal.out {left:Bool} {key:Fi} {xs:List Fi} {k:Nat} (g:Gal lt left key xs k k):∃ X Y,xs=X++Y/\X.length=k/\(∀ x∈X,bey lt left key x=true)/\(∀ x∈Y,bey lt left key x=false):=by
 refine ⟨xs.take k,xs.drop k,(Hk k xs).symm,by rw [FU];exact Je g.len,fun x hx => ?_,fun x hx => ?_⟩
 ·obtain ⟨i,hi,e⟩:=Hb.mp hx;rw [FU] at hi;exact g.up i x (by lia) (by rw [List.getElem_take] at e;rw [<- e];exact Fe _)
 ·obtain ⟨i,hi,e⟩:=Hb.mp hx;rw [JL] at hi;refine g.dn (k+i) x (by lia) ?_
  rw [List.getElem_drop] at e;rw [<- e];exact Fe _
noncomputable abbrev Ord (lt:Fi->Fi->Bool) (l:List Fi):Prop:=l.Pairwise fun x y=>lt y x=false
theorem nh {out X A' B:List Fi} (h1:Ord lt (out++(X++A'))) (h2:Ord lt (out++B)) (h:∀ x∈X, ∀ y∈B,lt y x=false):Ord lt ((out++X)++A')/\Ord lt ((out++X)++B):=by
 refine ⟨by rw [Ft];exact h1, ?_⟩
 rw [Ft];obtain ⟨j,q,F⟩:=Fc.mp h1;obtain ⟨O,p2,G⟩:=Fc.mp h2;obtain ⟨J,U,Y⟩:=Fc.mp q;refine Fc.mpr ⟨j,Fc.mpr ⟨J,p2,h⟩,fun x hx y L => ?_⟩
 rcases FE.mp L with z | z
 ·exact F x hx y (Gb _ z)
 ·exact G x hx y z
structure ML (lt:Fi->Fi->Bool) (la lb out:List Fi) (ia ib:Nat):Prop where
 pa:Ord lt (out++la.drop ia)
 pb:Ord lt (out++lb.drop ib)
 pm:(out++(la.drop ia++lb.drop ib)).Perm (la++lb)
theorem pG (c:Cm prog w A s kd P lt) {l:List Fi} {i:Nat} {x y:Fi} (h:Ord lt (l.drop i)) (j:l[i]? = some y) (hx:lt y x=false):∀ z∈l.drop i,lt z x=false:=by
 obtain ⟨hi,e⟩:=FC.mp j;rw [GS hi,e] at h ⊢;intro z B
 rcases Fo.mp B with q | q
 ·rw [q];exact hx
 ·exact c.le_trans hx ((Jh.mp h).1 z q)
theorem dy {l X Y:List Fi} {i:Nat} (e:l.drop i=X++Y):l.drop (i+X.length)=Y:=by
 rw [<- Kt,e,List.drop_left]
theorem ML.galA (c:Cm prog w A s kd P lt) {la lb out X Y:List Fi} {ia ib:Nat} {y:Fi} (m:ML lt la lb out ia ib) (e:la.drop ia=X++Y) (j:lb[ib]? = some y) (h:∀ x∈X,lt y x=false):ML lt la lb (out++X) (ia+X.length) ib:=by
 have p2:=(Fc.mp m.pb).2.1;have q:=nh (X:=X) (A':=Y) (by rw [<- e];exact m.pa) m.pb fun x hx=>pG c p2 j (h x hx)
 refine ⟨by rw [dy e];exact q.1,q.2, ?_⟩
 rw [dy e];refine HV.trans (ID ?_) m.pm;rw [e];simp
theorem ML.galB (c:Cm prog w A s kd P lt) {la lb out X Y:List Fi} {ia ib:Nat} {y:Fi} (m:ML lt la lb out ia ib) (e:lb.drop ib=X++Y) (j:la[ia]? = some y) (h:∀ x∈X,lt y x=false):ML lt la lb (out++X) ia (ib+X.length):=by
 have p2:=(Fc.mp m.pa).2.1;have q:=nh (X:=X) (A':=Y) (by rw [<- e];exact m.pb) m.pa fun x hx=>pG c p2 j (h x hx)
 refine ⟨q.2,by rw [dy e];exact q.1, ?_⟩
 rw [dy e];refine HV.trans ?_ m.pm;rw [e,Ft];refine Gg _ ?_;rw [<- Ft, <- Ft];exact Gs _ IH
theorem dz {l:List Fi} {i:Nat} {x:Fi} (h:l[i]? = some x):l.drop i=[x]++l.drop (i+1):=by
 obtain ⟨hi,e⟩:=FC.mp h;rw [GS hi,e];rfl
theorem ML.pushA (c:Cm prog w A s kd P lt) {la lb out:List Fi} {ia ib:Nat} {x y:Fi} (m:ML lt la lb out ia ib) (hx:la[ia]? = some x) (j:lb[ib]? = some y) (h:lt y x=false):ML lt la lb (out++[x]) (ia+1) ib :=
 m.galA c (dz hx) j (by simpa using h)
theorem ML.pushB (c:Cm prog w A s kd P lt) {la lb out:List Fi} {ia ib:Nat} {x y:Fi} (m:ML lt la lb out ia ib) (hx:la[ia]? = some x) (j:lb[ib]? = some y) (h:lt x y=false):ML lt la lb (out++[y]) ia (ib+1) :=
 m.galB c (dz j) hx (by simpa using h)
def Res (lt:Fi->Fi->Bool) (la lb r:List Fi):Prop:=r.Perm (la++lb)/\Ord lt r
theorem ML.fin {la lb out:List Fi} {ia ib:Nat} (m:ML lt la lb out ia ib) (h:lb.length<=ib):Res lt la lb (out++la.drop ia++lb.drop ib):=by
 rw [HM h,GB];refine ⟨?_,m.pa⟩;have:=m.pm;rw [HM h,GB] at this;exact this
theorem ML.finE {la lb out:List Fi} {ia ib:Nat} (m:ML lt la lb out ia ib) (h:la.length<=ia):Res lt la lb (out++la.drop ia++lb.drop ib):=by
 rw [HM h,GB];refine ⟨?_,m.pb⟩;have:=m.pm;rw [HM h,K0] at this;exact this
theorem ML.finA {la lb out:List Fi} {ia ib:Nat} (m:ML lt la lb out ia ib) (h:∀ x∈lb, ∀ y∈la.drop ia,lt y x=false):Res lt la lb (out++lb.drop ib++la.drop ia):=by
 refine ⟨?_, ?_⟩
 ·refine HV.trans ?_ m.pm;rw [Ft];exact Gg _ IH
 ·obtain ⟨F,q,B⟩:=Fc.mp m.pa;refine Fc.mpr ⟨m.pb,q,fun x hx y j => ?_⟩
  rcases FE.mp hx with z | z
  ·exact B x z y j
  ·exact h x (JX z) y j
theorem ML.size {la lb out:List Fi} {ia ib:Nat} (m:ML lt la lb out ia ib) (j:ia<=la.length) (q:ib<=lb.length):out.length=ia+ib:=by
 have:=m.pm.length_eq;simp only [Fk,JL] at this;lia
theorem ax {a:Array Fi} {i:Nat} (h:i < a.size):∃ x,a[i]? = some x/\a.toList[i]? = some x/\x∈a.toList:=by
 refine ⟨a[i],FH h, ?_,Array.getElem_mem_toList h⟩;rw [FG];exact FH h
theorem bA {a:Array Fi} {i:Nat}:(a.extract i).toList=a.toList.drop i:=by
 rw [Hv];simp only [Jz];exact JA (by simp)
theorem zf {a:Array Fi} {i:Nat} {X Y:List Fi} (e:a.toList.drop i=X++Y):(a.extract i (i+X.length)).toList=X:=by
 rw [Hv];simp [Jz,e]
theorem Same.refl {st:Gj}:Same st st:=⟨rfl,rfl,rfl,rfl⟩
theorem Same.trans {a b c:Gj} (h:Same a b) (g:Same b c):Same a c:=⟨g.arr.trans h.arr,g.kind.trans h.kind,g.pend.trans h.pend,g.fail.trans h.fail⟩
theorem kU {O Y A' B:List Fi} (h1:Ord lt (A'++(Y++O))) (h2:Ord lt (B++O)) (h:∀ y∈Y, ∀ x∈B,lt y x=false):Ord lt (B++(Y++O)):=by
 obtain ⟨J,j,L⟩:=Fc.mp h1;obtain ⟨q,p2,F⟩:=Fc.mp h2;refine Fc.mpr ⟨q,j,fun x hx y G => ?_⟩
 rcases FE.mp G with z | z
 ·exact h y z x hx
 ·exact F x hx y z
structure MH (lt:Fi->Fi->Bool) (la lb out:List Fi) (na nb:Nat):Prop where
 pa:Ord lt (la.take na++out.reverse)
 pb:Ord lt (lb.take nb++out.reverse)
 pm:(la.take na++lb.take nb++out.reverse).Perm (la++lb)
theorem gH (c:Cm prog w A s kd P lt) {l:List Fi} {n:Nat} {x y:Fi} (h:Ord lt (l.take n)) (G : 0 < n) (B:l[n - 1]? = some y) (hx:lt x y=false):∀ z∈l.take n,lt x z=false:=by
 intro z F;obtain ⟨i,hi,e⟩:=Hb.mp F;have j:(l.take n)[i]? = some z:=by rw [<- e];exact Fe hi
 have q:(l.take n)[n - 1]? = some y:=by rw [J3 (by lia)];exact B
 rw [FU] at hi
 by_cases hin:i=n - 1
 ·subst hin;rw [q] at j;cases j;exact hx
 ·exact c.le_trans (eF h (by lia) j q) hx
theorem dA {l X Y:List Fi} {n:Nat} (e:l.take n=X++Y):l.take X.length=X:=by
 have h:X.length<=n:=by
  have:=congrArg JW e;simp only [FU,Fk] at this;lia
 have h2:(l.take n).take X.length=X:=by rw [e,List.take_left]
 rw [List.take_take,Je h] at h2;exact h2
theorem MH.galA (c:Cm prog w A s kd P lt) {la lb out X Y:List Fi} {na nb:Nat} {y:Fi} (m:MH lt la lb out na nb) (e:la.take na=X++Y) (j : 0 < nb) (z:lb[nb - 1]? = some y) (h:∀ x∈Y,lt x y=false):MH lt la lb (out++Y.reverse) X.length nb:=by
 have p2:=(Fc.mp m.pb).1;have h1:Ord lt (X++(Y++out.reverse)):=by rw [<- Ft, <- e];exact m.pa
 have q:=kU h1 m.pb fun x hx=>gH c p2 j z (h x hx);refine ⟨by rw [dA e];simpa using h1,by simpa using q, ?_⟩
 rw [dA e];refine HV.trans ?_ m.pm;rw [e];simp only [List.reverse_append,LV,Ft];refine Gg _ ?_;rw [<- Ft, <- Ft];exact Gs _ IH
theorem MH.galB (c:Cm prog w A s kd P lt) {la lb out X Y:List Fi} {na nb:Nat} {y:Fi} (m:MH lt la lb out na nb) (e:lb.take nb=X++Y) (j : 0 < na) (z:la[na - 1]? = some y) (h:∀ x∈Y,lt x y=false):MH lt la lb (out++Y.reverse) na X.length:=by
 have p2:=(Fc.mp m.pa).1;have h1:Ord lt (X++(Y++out.reverse)):=by rw [<- Ft, <- e];exact m.pb
 have q:=kU h1 m.pa fun x hx=>gH c p2 j z (h x hx);refine ⟨by simpa using q,by rw [dA e];simpa using h1, ?_⟩
 rw [dA e];refine HV.trans (ID ?_) m.pm;rw [e];simp
theorem cE {l:List Fi} {n:Nat} {x:Fi} (j : 0 < n) (h:l[n - 1]? = some x):l.take n=l.take (n - 1)++[x]:=by
 obtain ⟨k,rfl⟩:∃ k,n=k+1:=⟨n - 1,by lia⟩
 rw [Nat.add_sub_cancel] at h ⊢;rw [Np,h];rfl
theorem pH {l:List Fi} {n:Nat} {x:Fi} (j : 0 < n) (h:l[n - 1]? = some x):(l.take (n - 1)).length=n - 1:=by
 obtain ⟨hi,_⟩:=FC.mp h;rw [FU];lia
theorem MH.pushA (c:Cm prog w A s kd P lt) {la lb out:List Fi} {na nb:Nat} {x y:Fi} (m:MH lt la lb out na nb) (j : 0 < na) (z : 0 < nb) (hx:la[na - 1]? = some x) (B:lb[nb - 1]? = some y) (h:lt x y=false):MH lt la lb (out++[x]) (na - 1) nb:=by
 have q:=m.galA c (cE j hx) z B (by simpa using h)
 rw [pH j hx] at q;simpa using q
theorem MH.pushB (c:Cm prog w A s kd P lt) {la lb out:List Fi} {na nb:Nat} {x y:Fi} (m:MH lt la lb out na nb) (B : 0 < na) (j : 0 < nb) (hx:la[na - 1]? = some x) (z:lb[nb - 1]? = some y) (h:lt y x=false):MH lt la lb (out++[y]) na (nb - 1):=by
 have q:=m.galB c (cE j z) B hx (by simpa using h)
 rw [pH j z] at q;simpa using q
theorem MH.fin {la lb out:List Fi} {na nb:Nat} (m:MH lt la lb out na nb) (h:na=0∨nb=0):Res lt la lb (la.take na++lb.take nb++out.reverse):=by
 refine ⟨m.pm, ?_⟩
 rcases h with rfl | rfl
 ·simpa using m.pb
 ·simpa using m.pa
theorem MH.finB {la lb out:List Fi} {na nb:Nat} (m:MH lt la lb out na nb) (h:∀ x∈lb.take nb, ∀ y∈la,lt y x=false):Res lt la lb (lb.take nb++la.take na++out.reverse):=by
 refine ⟨HV.trans (Gs _ IH) m.pm, ?_⟩;obtain ⟨j,F,q⟩:=Fc.mp m.pb;rw [Ft];refine Fc.mpr ⟨j,m.pa,fun x hx y B => ?_⟩
 rcases FE.mp B with z | z
 ·exact h x hx y (JY z)
 ·exact q x hx y z
theorem MH.size {la lb out:List Fi} {na nb:Nat} (m:MH lt la lb out na nb) (j:na<=la.length) (q:nb<=lb.length):out.length+na+nb=la.length+lb.length:=by
 have:=m.pm.length_eq;simp only [Fk,FU,Mt] at this;lia
theorem dN {a:Array Fi}:a.toList.take a.size=a.toList:=JA (by simp)
theorem b7 {a:Array Fi} {i:Nat}:(a.extract 0 i).toList=a.toList.take i:=by
 rw [Hv];simp [Jz]
theorem wo {a:Array Fi} {n:Nat} {X Y:List Fi} (e:a.toList.take n=X++Y):(a.extract X.length n).toList=Y:=by
 rw [Hv];simp only [Jz];rw [<- List.drop_take,e,List.drop_left]
theorem wq:∀ (m old L R:List Fi) (a:Array Fi),a.toList=L++old++R->m.length=old.length->(JM (fun a x=>a.setIfInBounds (L.length+x.snd) x.fst) a m.zipIdx).toList=L++m++R:=by
 have g:∀ (m old L R:List Fi) (k:Nat) (a:Array Fi),a.toList=L++old++R->m.length=old.length -> ∀ b:Nat,b+k=L.length->(JM (fun a x=>a.setIfInBounds (b+x.snd) x.fst) a (m.zipIdx k)).toList=L++m++R:=by
  intro m
  induction m with
  | nil =>
    intro old L R k a e h b j;have:old=[]:=G6.mp h.symm;subst this;simpa using e
  | cons x m ih =>
    intro old L R k a e h b j
    cases old with
    | nil=>simp at h
    | cons y old =>
      rw [List.zipIdx_cons,Jb];have e2:(a.setIfInBounds (b+k) x).toList=(L++[x])++old++R:=by
       rw [Ku,e,j];simp
      have:=ih old (L++[x]) R (k+1) _ e2 (by simpa using h) b (by simp;lia)
      rw [this];simp
 exact fun m old L R a e h=>g m old L R 0 a e h L.length (by lia)
theorem af {σ α:Type} {M:JH} {p:Prop} [Decidable p] {j q:StateT σ Sem α} {st : σ} {Q : α -> σ -> Prop} (h1:p->wpS M A E s j Q st) (h2 : ¬p->wpS M A E s q Q st):wpS M A E s (if p then j else q) Q st:=by
 split
 ·next h=>exact h1 h
 ·next h=>exact h2 h
theorem ML.cut {a out:Array Fi} {la lb X Y:List Fi} {i j n:Nat} (m:ML lt la lb (out.toList++X) i j) (e:a.toList.drop n=X++Y):ML lt la lb (out++a.extract n (n+X.length)).toList i j:=by
 rw [Fs,zf e];exact m
theorem MH.cut {a out:Array Fi} {la lb X Y:List Fi} {i j n:Nat} (m:MH lt la lb (out.toList++Y.reverse) i j) (e:a.toList.take n=X++Y):MH lt la lb (out++(a.extract X.length n).reverse).toList i j:=by
 rw [Fs,G1,wo e];exact m
theorem tR {σ α:Type} {M:JH} {m:StateT σ Sem α} {st : σ} {Q : α -> σ -> Prop} {P : σ -> Prop} (j:P st) (h:∀ st',P st'->wpS M A E s m Q st'):wpS M A E s m Q st:=h st j
theorem xG {σ α:Type} {M:JH} {m:StateT σ Sem α} {st : σ} {Q : α -> σ -> Prop} (h:∀ Q' : α -> σ -> Prop,(∀ a st',Q a st'->Q' a st')->wpS M A E s m Q' st):wpS M A E s m Q st:=h Q fun _ _ h=>h
theorem xH {key x:Fi} (h:bey lt false key x=true):lt key x=false:=by simpa [bey] using h
theorem tS {key x:Fi} (h:bey lt false key x=false):lt key x=true:=by simpa [bey] using h
theorem xI {key x:Fi} (h:bey lt true key x=true):lt x key=true:=by simpa [bey] using h
theorem tT {key x:Fi} (h:bey lt true key x=false):lt x key=false:=by simpa [bey] using h
theorem ni {l X Y:List Fi} {i:Nat} {x:Fi} (e:l.drop i=X++Y) (h:l[i+X.length]? = some x):x∈Y:=by
 rw [<- dy e,dz h];simp
theorem nj {l X Y:List Fi} {n:Nat} {x:Fi} (e:l.take n=X++Y) (h0 : 0 < X.length) (h:l[X.length - 1]? = some x):x∈X:=by
 have:=cE h0 h;rw [dA e] at this;rw [this];simp
theorem no {a:Array Fi} {X Y:List Fi} {i:Nat} (e:a.toList.drop i=X++Y):X.length<=a.size - i:=by
 have:=congrArg JW e;simp at this;lia
theorem kW {a:Array Fi} {X Y:List Fi} {n:Nat} (e:a.toList.take n=X++Y) (h:n<=a.size):X.length+Y.length=n:=by
 have:=congrArg JW e;simp at this;lia
theorem fb {a:Array Fi} {n:Nat} (h:n<=a.size):n=(a.toList.take n).length:=by simp;lia
theorem ML.finR {a b out:Array Fi} {ia ib:Nat} (m:ML lt a.toList b.toList out.toList ia ib) (h:b.size<=ib):Res lt a.toList b.toList (out++a.extract ia++b.extract ib).toList:=by
 have:=m.fin (by simpa using h)
 simpa only [Fs,bA] using this
theorem ML.finS {a b out:Array Fi} {ia ib:Nat} (m:ML lt a.toList b.toList out.toList ia ib) (h:a.size<=ia):Res lt a.toList b.toList (out++a.extract ia++b.extract ib).toList:=by
 have:=m.finE (by simpa using h)
 simpa only [Fs,bA] using this
theorem ML.finL {a b out:Array Fi} {ia ib:Nat} (m:ML lt a.toList b.toList out.toList ia ib) (h:∀ x∈b.toList, ∀ y∈a.toList.drop ia,lt y x=false):Res lt a.toList b.toList (out++b.extract ib++a.extract ia).toList:=by
 have:=m.finA h;simpa only [Fs,bA] using this
theorem MH.finR {a b out:Array Fi} {na nb:Nat} (m:MH lt a.toList b.toList out.toList na nb) (h:∀ x∈b.toList.take nb, ∀ y∈a.toList,lt y x=false):Res lt a.toList b.toList (b.extract 0 nb++a.extract 0 na++out.reverse).toList:=by
 have:=m.finB h;simpa only [Fs,G1,b7] using this
theorem MH.finL {a b out:Array Fi} {na nb:Nat} (m:MH lt a.toList b.toList out.toList na nb) (h:na=0∨nb=0):Res lt a.toList b.toList (a.extract 0 na++b.extract 0 nb++out.reverse).toList:=by
 have:=m.fin h;simpa only [Fs,G1,b7] using this
theorem C4 (c:Cm prog w A s kd P lt) :
 ∃ (g:AU) (lo hi:AV),(gD prog w A E s kd P lt g/\(gD prog w A E s kd P lt g->gE prog w A E s kd P lt lo)/\(gD prog w A E s kd P lt g->gE prog w A E s kd P lt hi))/\(gD prog w A E s kd P lt g->gE prog w A E s kd P lt lo->gE prog w A E s kd P lt hi ->
  ∀ (i sa na pa sb nb pb:Nat) (L r1 r2 R:List Fi) (st:Gj) (Q:Bool->Gj->Prop),GU st=kd->HF st=none->(Fx st)[i]? = some (sa,na,pa)->(Fx st)[i+1]? = some (sb,nb,pb) ->
   (G4 st).toList=L++(r1++r2)++R->sa=L.length->na=r1.length->sb=L.length+r1.length->nb=r2.length->r1≠[]->r2≠[]->(∀ x∈r1,P x)->(∀ x∈r2,P x)->Ord lt r1->Ord lt r2 ->
   (∀ m st',(G4 st').toList=L++m++R->m.Perm (r1++r2)->Ord lt m->GU st'=kd->HF st'=none->Fx st'=((Fx st).setIfInBounds i (sa,na+nb,pa)).eraseIdxIfInBounds (i+1)->Q true st') ->
   wpS (Fz prog w) A E s (Ov i) Q st):=by
 apply Nq;apply Nq;apply Nq;apply JN
 rotate_left
 ·intro hg ER ES i sa na pa sb nb pb L r1 r2 R st Q hk hf h1 h2 Z Ei DI Ej DX ET EU Eu Ev o1 o2 q;unfold Ov;refine Ff (Jd ?_);rw [h1,h2];dsimp only;refine Ff (ze ?_);obtain ⟨y0,t2,rfl⟩:∃ y t,r2=y::t:=by cases r2 with | nil=>exact absurd rfl EU | cons y t=>exact ⟨y,t,rfl⟩
  have hz:(G4 st)[sb]? = some y0:=by
   rw [<- FG,Z,Ej];simp
  refine Ff (ay hz ?_);refine Ff (hg false y0 (G4 st) L r1 (y0::t2++R) sa na 0 _ _ hk (Ev _ (by simp)) (by rw [Z];simp) Ei DI Eu (by rw [DI];exact Gm.mpr ET) o1 fun X Y e hX hY => ?_)
  dsimp only;have lX:∀ x∈X,lt y0 x=false:=fun x hx=>by have:=hX x hx;simpa [bey] using this
  have lY:∀ x∈Y,lt x y0=false:=fun x hx=>c.asym _ _ (by have:=hY x hx;simpa [bey] using this)
  have hlen:na - X.length=Y.length:=by rw [DI,e];simp
  subst e;obtain ⟨oX,oY,oXY⟩:=Fc.mp o1;have oy:=Jh.mp o2;have Ek:∀ x∈X, ∀ z∈y0::t2,lt z x=false:=fun x hx z hz=>by
   rcases Fo.mp hz with h | h
   ·rw [h];exact lX x hx
   ·exact c.le_trans (lX x hx) (oy.1 z h)
  refine af (fun h => ?_) (fun h => ?_)
  ·have El:Y=[]:=G6.mp (by rw [<- hlen];simpa using h)
   subst El;refine aa (q (X++(y0::t2)) _ (by simpa using Z) (by simp) ?_ hk hf rfl)
   exact Fc.mpr ⟨oX,o2,Ek⟩
  ·have El : 0 < Y.length:=by
    have:na - X.length≠0:=by simpa using h
    lia
   obtain ⟨Y0,xl,rfl⟩:∃ Y0 xl,Y=Y0++[xl]:=⟨Y.dropLast,Y.getLast (by intro z;rw [z] at El;simp at El),(HB _).symm⟩
   have EV:(G4 st)[sa+X.length+(na - X.length) - 1]? = some xl:=by
    rw [<- FG,Z,hlen,Ei];simp only [Ft,Fk,I7];rw [D2 (by lia),D2 (by lia),D2 (by lia)]
    rw [show L.length+X.length+(Y0.length+1) - 1 - L.length - X.length - Y0.length=0 by lia];rfl
   refine Ff (ay EV ?_);refine Ff (hg true xl (G4 st) (L++(X++(Y0++[xl]))) (y0::t2) R sb nb (nb - 1) _ _ hk (Eu _ (by simp)) (by rw [Z];simp) (by rw [Ej];simp) DX Ev (by rw [DX];simp) o2 fun X2 Y2 e2 DJ DK => ?_)
   dsimp only;have EW:∀ x∈X2,lt xl x=false:=fun x hx=>c.asym _ _ (by have:=DJ x hx;simpa [bey] using this)
   have EE:∀ x∈Y2,lt x xl=false:=fun x hx=>by have:=DK x hx;simpa [bey] using this
   have EX:Ord lt (X2++Y2):=by rw [<- e2];exact o2
   obtain ⟨EY,EZ,EF⟩:=Fc.mp EX;obtain ⟨F9,_,oYl⟩:=Fc.mp oY;have lYY:∀ x∈Y0++[xl], ∀ z∈Y2,lt z x=false:=fun x hx z hz=>by
    rcases FE.mp hx with h | h
    ·exact c.le_trans (oYl x h xl (by simp)) (EE z hz)
    ·simp at h;subst h;exact EE z hz
   refine af (fun h => ?_) (fun h => ?_)
   ·have DC:X2=[]:=G6.mp (by simpa using h)
    subst DC;have e2:y0::t2=Y2:=by simpa using e2
    refine aa (q (X++(Y0++[xl])++(y0::t2)) _ (by simpa using Z) (LW _) ?_ hk hf rfl)
    refine Fc.mpr ⟨o1,o2,fun x hx z hz => ?_⟩
    rcases FE.mp hx with g | g
    ·exact Ek x g z hz
    ·exact lYY x g z (by rw [<- e2];exact hz)
   ·have DC:X2≠[]:=fun z=>h (by rw [z];rfl)
    have hx:((G4 st).extract (sa+X.length) sb).toList=Y0++[xl]:=by
     rw [Hv,Z,Ei,Ej];simp only [Jz];have e1:(L++(X++(Y0++[xl])++y0::t2)++R).drop (L.length+X.length)=(Y0++[xl])++(y0::t2++R):=by
      rw [<- Kt];simp
     rw [e1,show L.length+(X++(Y0++[xl])).length - (L.length+X.length)=(Y0++[xl]).length by simp only [Fk];lia,List.take_left]
    have hy:((G4 st).extract sb (sb+X2.length)).toList=X2:=by
     rw [Hv,Z,Ej];simp only [Jz];have e1:(L++(X++(Y0++[xl])++y0::t2)++R).drop (L.length+(X++(Y0++[xl])).length)=(y0::t2)++R:=by
      rw [<- Kt];simp
     rw [e1,e2];simp
    have G:∀ (r:Array Fi) (D7:Gj),r.toList.Perm ((Y0++[xl])++X2)->Ord lt r.toList->Same (PyProof.Rows.SortSt.mk' (GU st) (G4 st) (((Fx st).setIfInBounds i (sa,na+nb,pa)).eraseIdxIfInBounds (i+1)) (gallopOf st) (HF st)) D7 -> ∀ D4:Gj,G4 D4=JM (fun a x=>a.setIfInBounds (sa+X.length+x.snd) x.fst) (G4 D7) r.toList.zipIdx->GU D4=GU D7->HF D4=HF D7->Fx D4=Fx D7->Q (HF D4).isNone D4:=by
     intro r D7 hp ho hs D4 g1 g2 g3 g4;have EG:HF D4=none:=g3.trans (hs.fail.trans hf);rw [EG];refine q (X++r.toList++Y2) D4 ?_ ?_ ?_ (g2.trans (hs.kind.trans hk)) EG (g4.trans hs.pend)
     ·rw [g1,hs.arr];have e3:(G4 st).toList=(L++X)++((Y0++[xl])++X2)++(Y2++R):=by
       rw [Z,e2];simp
      rw [show sa+X.length=(L++X).length by rw [Ei];simp]
      rw [wq _ _ _ _ _ e3 (hp.length_eq)];simp
     ·rw [e2];refine HV.trans (Gs _ (Gg _ hp)) ?_;simp
     ·refine Fc.mpr ⟨Fc.mpr ⟨oX,ho,fun x hx z hz => ?_⟩,EZ,fun x hx z hz => ?_⟩
      ·rcases FE.mp (hp.mem_iff.mp hz) with g | g
       ·exact oXY x hx z g
       ·exact Ek x hx z (by rw [e2];exact Gb _ g)
      ·rcases FE.mp hx with g | g
       ·exact Ek x g z (by rw [e2];exact FF _ hz)
       ·rcases FE.mp (hp.mem_iff.mp g) with g | g
        ·exact lYY x g z hz
        ·exact EF x g z hz
    have Es:∀ x y,((G4 st).extract (sa+X.length) sb)[0]? = some x->((G4 st).extract sb (sb+X2.length))[0]? = some y->lt x y=false:=by
     intro x y Du DY;rw [<- FG,hx] at Du;rw [<- FG,hy] at DY;have DZ:=FT Du;have:y=y0:=by
      cases X2 with
      | nil=>exact absurd rfl DC
      | cons z t=>simp at e2 DY;rw [<- DY, <- e2.1]
     subst this;exact lY x DZ
    have preL:∀ x y,((G4 st).extract (sa+X.length) sb)[((G4 st).extract (sa+X.length) sb).size - 1]? = some x->((G4 st).extract sb (sb+X2.length))[((G4 st).extract sb (sb+X2.length)).size - 1]? = some y->lt x y=false:=by
     intro x y Du DY;rw [<- FG, <- FL,hx] at Du;rw [<- FG, <- FL,hy] at DY;have Dv:=FT DY;have:x=xl:=by simp at Du;exact Du.symm
     subst this;exact EW y Dv
    have EH : 0 < ((G4 st).extract (sa+X.length) sb).size:=by rw [<- FL,hx];simp
    have EI : 0 < ((G4 st).extract sb (sb+X2.length)).size:=by rw [<- FL,hy];exact Gm.mpr DC
    have EJ:∀ x∈((G4 st).extract (sa+X.length) sb).toList,P x:=by rw [hx];exact fun x hx=>Eu x (FF _ hx)
    have EK:∀ x∈((G4 st).extract sb (sb+X2.length)).toList,P x:=by rw [hy];exact fun x hx=>Ev x (by rw [e2];exact Gb _ hx)
    have EL:Ord lt ((G4 st).extract (sa+X.length) sb).toList:=by rw [hx];exact oY
    have EM:Ord lt ((G4 st).extract sb (sb+X2.length)).toList:=by rw [hy];exact EY
    refine af (fun h => ?_) (fun h => ?_)
    ·refine Ff (ER _ _ _ _ hk EJ EK EH EI EL EM Es preL fun r D7 hp ho hs => ?_);rw [hx,hy] at hp;refine Ff (Hn ?_);refine Ff (Jd ?_);exact aa (G r D7 hp ho hs _ rfl rfl rfl rfl)
    ·refine Ff (ES _ _ _ _ hk EJ EK EH EI EL EM Es preL fun r D7 hp ho hs => ?_);rw [hx,hy] at hp;refine Ff (Hn ?_);refine Ff (Jd ?_);exact aa (G r D7 hp ho hs _ rfl rfl rfl rfl)
 apply JN
 ·intro left key arr L xs R base n hint st Q hk DD Z Ew hn hP hh hs q;subst Ew hn;have at_:∀ i,i < xs.length -> ∃ x,xs[i]? = some x/\arr[L.length+i]? = some x/\P x:=by
   intro i hi;refine ⟨xs[i],Fe hi, ?_,hP _ (L8 _)⟩;rw [<- FG,Z,Ft,D2 (by lia),Fu (by lia)]
   rw [show L.length+i - L.length=i by lia]
   exact Fe hi
  obtain ⟨x0,Du,E1,F1⟩:=at_ hint hh;refine Ff (fL c hk DD F1 E1 ?_)
  try dsimp only
  refine af (fun hb => ?_) (fun hb => ?_)
  ·skip
   refine Ff (az (Q:=fun r st'=>st'=st /\ ∃ la ofs,r=(none,la,ofs)/\hint+la < xs.length/\la < ofs/\(∀ j x,j < hint+la+1->xs[j]? = some x->bey lt left key x=true)/\(xs.length<=hint+ofs ∨ ∀ j x,hint+ofs<=j->xs[j]? = some x->bey lt left key x=false))
    (Gh (fun i r st'=>st'=st /\ ∃ la ofs,r=(none,la,ofs)/\hint+la < xs.length/\la < ofs/\i+1<=ofs/\(∀ j x,j < hint+la+1->xs[j]? = some x->bey lt left key x=true)) ?_ ?_ ⟨rfl,0,1,rfl,hh,by lia,by lia,gF c hs Du hb⟩) ?_)
   ·rintro i r st' _ hi ⟨rfl,la,ofs,rfl,h1,h2,h3,h4⟩
    try dsimp only
    refine af (fun DL => ?_) (fun DL => ?_)
    ·exact aa ⟨rfl,la,ofs,rfl,h1,h2,h4, .inl (by lia)⟩
    ·skip
     obtain ⟨x1,Dp,DM,DN⟩:=at_ (hint+ofs) (by lia)
     refine Ff (fL c hk DD DN DM ?_)
     try dsimp only
     refine af (fun hf => ?_) (fun hf => ?_)
     ·exact aa ⟨rfl,la,ofs,rfl,h1,h2,h4, .inr (gG c hs Dp (by simpa using hf))⟩
     ·exact aa ⟨rfl,ofs,2*ofs+1,rfl,by lia,by lia,by lia,gF c hs Dp (by simpa using hf)⟩
   ·rintro r st' ⟨rfl,la,ofs,rfl,h1,h2,h3,h4⟩;exact ⟨rfl,la,ofs,rfl,h1,h2,h4, .inl (by lia)⟩
   ·rintro r st' ⟨rfl,la,ofs,rfl,h1,h2,h3,h4⟩
    try dsimp only
    have hG:Gal lt left key xs (hint+la+1) (hint+min ofs (xs.length - hint)):=by
     refine ⟨by lia,by lia,h3,fun i x hi hx => ?_⟩
     have Fa:i < xs.length:=(FC.mp hx).1
     rcases h4 with h4 | h4
     ·lia
     ·exact h4 i x (by lia) hx
    generalize hint+la+1=lo at hG;generalize hint+min ofs (xs.length - hint)=hi at hG;refine Ff (az (Q:=fun r st''=>st''=st' /\ ∃ k,r=(none,k,k)/\Gal lt left key xs k k)
     (Gh (fun i r st''=>st''=st' /\ ∃ lo hi,r=(none,lo,hi)/\Gal lt left key xs lo hi/\hi - lo+i<=xs.length) ?_ ?_ ⟨rfl,lo,hi,rfl,hG,by have:=hG.len;lia⟩) ?_)
    ·rintro i r st'' _ hi ⟨rfl,lo,hi,rfl,hG,hm⟩
     try dsimp only
     have hl:=hG.le;have E2:=hG.len;refine af (fun DL => ?_) (fun DL => ?_)
     ·exact aa ⟨rfl,hi,by rw [show lo=hi by lia],by rw [show lo=hi by lia] at hG;exact hG⟩
     ·skip
      obtain ⟨x1,Dp,DM,DN⟩:=at_ (lo+(hi - lo) / 2) (by lia)
      refine Ff (fL c hk DD DN DM ?_)
      try dsimp only
      refine af (fun hf => ?_) (fun hf => ?_)
      ·exact aa ⟨rfl,_,_,rfl,⟨by lia,E2,gF c hs Dp hf,hG.dn⟩,by lia⟩
      ·exact aa ⟨rfl,_,_,rfl,⟨by lia,by lia,hG.up,gG c hs Dp (by simpa using hf)⟩,by lia⟩
    ·rintro r st'' ⟨rfl,lo,hi,rfl,hG,hm⟩;have hl:=hG.le;exact ⟨rfl,hi,by rw [show lo=hi by lia],by rw [show lo=hi by lia] at hG;exact hG⟩
    ·rintro r st'' ⟨rfl,k,rfl,hG⟩;obtain ⟨X,Y,e,hl,hX,hY⟩:=hG.out;subst hl;exact aa (q X Y e hX hY)
  ·skip
   refine Ff (az (Q:=fun r st'=>st'=st /\ ∃ la ofs,r=(none,la,ofs)/\la<=hint/\la < ofs/\(∀ j x,hint - la<=j->xs[j]? = some x->bey lt left key x=false)/\(hint < ofs ∨ ∀ j x,j < hint - ofs+1->xs[j]? = some x->bey lt left key x=true))
    (Gh (fun i r st'=>st'=st /\ ∃ la ofs,r=(none,la,ofs)/\la<=hint/\la < ofs/\i+1<=ofs/\(∀ j x,hint - la<=j->xs[j]? = some x->bey lt left key x=false)) ?_ ?_ ⟨rfl,0,1,rfl,by lia,by lia,by lia,gG c hs Du (by simpa using hb)⟩) ?_)
   ·rintro i r st' _ hi ⟨rfl,la,ofs,rfl,h1,h2,h3,h4⟩
    try dsimp only
    refine af (fun DL => ?_) (fun DL => ?_)
    ·exact aa ⟨rfl,la,ofs,rfl,h1,h2,h4, .inl (by lia)⟩
    ·skip
     obtain ⟨x1,Dp,DM,DN⟩:=at_ (hint - ofs) (by lia)
     refine Ff (fL c hk DD DN DM ?_)
     try dsimp only
     refine af (fun hf => ?_) (fun hf => ?_)
     ·exact aa ⟨rfl,la,ofs,rfl,h1,h2,h4, .inr (gF c hs Dp hf)⟩
     ·exact aa ⟨rfl,ofs,2*ofs+1,rfl,by lia,by lia,by lia,gG c hs Dp (by simpa using hf)⟩
   ·rintro r st' ⟨rfl,la,ofs,rfl,h1,h2,h3,h4⟩;exact ⟨rfl,la,ofs,rfl,h1,h2,h4, .inl (by lia)⟩
   ·rintro r st' ⟨rfl,la,ofs,rfl,h1,h2,h3,h4⟩
    try dsimp only
    have hG:Gal lt left key xs (hint+1 - min ofs (hint+1)) (hint - la):=by
     refine ⟨by lia,by lia,fun i x hi hx => ?_,h3⟩
     rcases h4 with h4 | h4
     ·lia
     ·exact h4 i x (by lia) hx
    generalize hint+1 - min ofs (hint+1)=lo at hG;generalize hint - la=hi at hG;refine Ff (az (Q:=fun r st''=>st''=st' /\ ∃ k,r=(none,k,k)/\Gal lt left key xs k k)
     (Gh (fun i r st''=>st''=st' /\ ∃ lo hi,r=(none,lo,hi)/\Gal lt left key xs lo hi/\hi - lo+i<=xs.length) ?_ ?_ ⟨rfl,lo,hi,rfl,hG,by have:=hG.len;lia⟩) ?_)
    ·rintro i r st'' _ hi ⟨rfl,lo,hi,rfl,hG,hm⟩
     try dsimp only
     have hl:=hG.le;have E2:=hG.len;refine af (fun DL => ?_) (fun DL => ?_)
     ·exact aa ⟨rfl,hi,by rw [show lo=hi by lia],by rw [show lo=hi by lia] at hG;exact hG⟩
     ·skip
      obtain ⟨x1,Dp,DM,DN⟩:=at_ (lo+(hi - lo) / 2) (by lia)
      refine Ff (fL c hk DD DN DM ?_)
      try dsimp only
      refine af (fun hf => ?_) (fun hf => ?_)
      ·exact aa ⟨rfl,_,_,rfl,⟨by lia,E2,gF c hs Dp hf,hG.dn⟩,by lia⟩
      ·exact aa ⟨rfl,_,_,rfl,⟨by lia,by lia,hG.up,gG c hs Dp (by simpa using hf)⟩,by lia⟩
    ·rintro r st'' ⟨rfl,lo,hi,rfl,hG,hm⟩;have hl:=hG.le;exact ⟨rfl,hi,by rw [show lo=hi by lia],by rw [show lo=hi by lia] at hG;exact hG⟩
    ·rintro r st'' ⟨rfl,k,rfl,hG⟩;obtain ⟨X,Y,e,hl,hX,hY⟩:=hG.out;subst hl;exact aa (q X Y e hX hY)
 apply JN
 ·intro hg a b st Q hk DO DP Em Eo sa sb E3 E4 q;refine Ff (cD ?_);obtain ⟨b0,Ep,E5,F4⟩:=ax Eo;obtain ⟨a0,E1,DV,F5⟩:=ax Em;refine Ff (ay Ep ?_);have m0:ML lt a.toList b.toList [] 0 0:=⟨sa,sb,by simp⟩
  have m1:ML lt a.toList b.toList [b0] 0 1:=m0.pushB c DV E5 (E3 a0 b0 E1 Ep);have Dw:∀ x∈b.toList, ∀ (i:Nat),i+1=a.size -> ∀ y∈a.toList.drop i,lt y x=false:=by
   intro x hx i hi y hy;obtain ⟨aL,Er,E6,_⟩:=ax (a:=a) (i:=i) (by lia)
   obtain ⟨bL,Ex,DW,_⟩:=ax (a:=b) (i:=b.size - 1) (by lia)
   have e:a.toList.drop i=[aL]:=by
    rw [dz E6,HM (by simp;lia)];rfl
   rw [e] at hy;simp at hy;subst hy;have hl:=E4 y bL (by rw [show a.size - 1=i by lia];exact Er) Ex
   obtain ⟨j,hj,e⟩:=Hb.mp hx;have DQ:b.toList[j]? = some x:=by rw [<- e];exact Fe hj
   by_cases hjb:j=b.size - 1
   ·subst hjb;rw [DW] at DQ;cases DQ;exact hl
   ·have:=eF sb (show j < b.size - 1 by simp at hj;lia) DQ DW
    exact c.le_trans this hl
  try dsimp -zeta -zetaHave -zetaUnused only
  refine af (fun h => ?_) (fun h => ?_)
  ·skip
   have h : 1=b.size:=by simpa using h
   refine aa ?_;have r:=m1.fin (by simp;lia)
   exact q _ _ (by simpa only [Fs,Fv,FQ,bA] using r.1) (by simpa only [Fs,Fv,FQ,bA] using r.2) Same.refl
  ·skip
   refine af (fun h2 => ?_) (fun h2 => ?_)
   ·skip
    have h2 : 0+1=a.size:=by simpa using h2
    refine aa ?_;have r:=m1.finA (Dw · · 0 h2);exact q _ _ (by simpa only [Fs,Fv,FQ,bA] using r.1) (by simpa only [Fs,Fv,FQ,bA] using r.2) Same.refl
   ·skip
    have h : 1≠b.size:=by simpa using h
    have h2 : 0+1≠a.size:=by simpa using h2
    refine Ff (Jd ?_)
    try dsimp -zeta -zetaHave -zetaUnused only
    refine Ff (az (Q:=fun r st'=>Same st st' /\ ∃ res t,r=(some res,t)/\Res lt a.toList b.toList res.toList)
     (Gh (fun i r st'=>Same st st' /\ ∃ out ia ib mg,r=(none,out,ia,ib,mg)/\ML lt a.toList b.toList out.toList ia ib/\ia+1 < a.size/\ib < b.size/\i+1<=out.size) ?_ ?_ ⟨Same.refl,_,_,_,_,rfl,m1,by lia,by lia,by simp⟩) ?_)
    ·rintro i r Dq _ hi ⟨sm,out,ia,ib,mg,rfl,m,Ey,Ez,hsz⟩
     try dsimp -zeta -zetaHave -zetaUnused only
     refine Ff (az (Q:=fun r st'=>st'=Dq/\((∃ B Dh Dm ac bc,r=(none,B,Dh,Dm,ac,bc)/\ML lt a.toList b.toList B.toList Dh Dm/\Dh+1 < a.size/\Dm < b.size/\i+2<=B.size) ∨ ∃ res t,r=(some res,t)/\Res lt a.toList b.toList res.toList))
      (Gh (fun j r st'=>st'=Dq /\ ∃ B Dh Dm ac bc,r=(none,B,Dh,Dm,ac,bc)/\ML lt a.toList b.toList B.toList Dh Dm/\Dh+1 < a.size/\Dm < b.size/\i+1+j<=B.size) ?_ ?_ ⟨rfl,_,_,_,_,_,rfl,m,Ey,Ez,by lia⟩) ?_)
     ·rintro j r D7 _ hj ⟨rfl,B,Dh,Dm,ac,bc,rfl,m2,h1,h2,h3⟩
      try dsimp only
      obtain ⟨y,hy,Dr,Dv⟩:=ax (a:=b) h2;obtain ⟨x,hx,E7,DZ⟩:=ax (a:=a) (i:=Dh) (by lia)
      refine Ff (ay hy (Ff (ay hx (Ff (jh c (sm.kind.trans hk) (DP _ Dv) (DO _ DZ) ?_)))))
      try dsimp only
      refine af (fun hl => ?_) (fun hl => ?_)
      ·skip
       refine Ff (ay hy ?_)
       try dsimp only
       have m3:=m2.pushB c E7 Dr (c.asym _ _ hl);refine af (fun h => ?_) (fun h => ?_)
       ·skip
        have h:Dm+1=b.size:=by simpa using h
        exact aa ⟨rfl, .inr ⟨_,_,rfl,by simpa only [Fs,Fv,FQ,bA] using m3.fin (by simp;lia)⟩⟩
       ·skip
        have h:Dm+1≠b.size:=by simpa using h
        refine af (fun _ => ?_) (fun _ => ?_)
        ·exact aa ⟨rfl, .inl ⟨_,_,_,_,_,rfl,by simpa only [Fs,Fv] using m3,h1,by lia,by simp;lia⟩⟩
        ·exact aa ⟨rfl,_,_,_,_,_,rfl,by simpa only [Fs,Fv] using m3,h1,by lia,by simp;lia⟩
      ·skip
       refine Ff (ay hx ?_)
       try dsimp only
       have m3:=m2.pushA c E7 Dr (by simpa using hl)
       refine af (fun h => ?_) (fun h => ?_)
       ·skip
        have h:Dh+1+1=a.size:=by simpa using h
        exact aa ⟨rfl, .inr ⟨_,_,rfl,by simpa only [Fs,Fv,FQ,bA] using m3.finA (Dw · · _ h)⟩⟩
       ·skip
        have h:Dh+1+1≠a.size:=by simpa using h
        refine af (fun _ => ?_) (fun _ => ?_)
        ·exact aa ⟨rfl, .inl ⟨_,_,_,_,_,rfl,by simpa only [Fs,Fv] using m3,by lia,h2,by simp;lia⟩⟩
        ·exact aa ⟨rfl,_,_,_,_,_,rfl,by simpa only [Fs,Fv] using m3,by lia,h2,by simp;lia⟩
     ·rintro r D7 ⟨rfl,B,Dh,Dm,ac,bc,rfl,m2,h1,h2,h3⟩;exact ⟨rfl, .inl ⟨_,_,_,_,_,rfl,m2,h1,h2,by lia⟩⟩
     ·rintro r D7 ⟨rfl,⟨B,Dh,Dm,ac,bc,rfl,m2,h1,h2,h3⟩ | ⟨res,t,rfl,J⟩⟩
      ·dsimp -zeta -zetaHave -zetaUnused only;refine Ff (cD ?_);refine Ff (az (Q:=fun r st'=>Same st st'/\((∃ F D9 D5 Di ac bc,r=(none,F,D9,D5,Di,ac,bc)/\ML lt a.toList b.toList F.toList D9 D5/\D9+1 < a.size/\D5 < b.size/\i+2<=F.size) ∨ ∃ res t,r=(some res,t)/\Res lt a.toList b.toList res.toList))
        (Gh (fun j r st'=>Same st st' /\ ∃ F D9 D5 Di ac bc,r=(none,F,D9,D5,Di,ac,bc)/\ML lt a.toList b.toList F.toList D9 D5/\D9+1 < a.size/\D5 < b.size/\i+2<=F.size) ?_ ?_ ⟨sm,_,_,_,_,_,_,rfl,m2,h1,h2,h3⟩) ?_)
       ·rintro j r D4 _ hj ⟨Dj,F,D9,D5,Di,E8,E9,rfl,m3,h1,h2,h5⟩;obtain ⟨y,hy,Dr,Dv⟩:=ax (a:=b) h2;refine xG fun QQ hQ => ?_;have G:∀ (st':Gj) (res:Array Fi) t,Same st st'->Res lt a.toList b.toList res.toList->QQ (.done (some res,t)) st':=fun st' res t hs hr=>hQ _ _ ⟨hs, .inr ⟨_,_,rfl,hr⟩⟩;have EA:∀ (st':Gj) (out:Array Fi) ia ib mg ac bc,Same st st'->ML lt a.toList b.toList out.toList ia ib->ia+1 < a.size->ib < b.size->i+2<=out.size->QQ (.done (none,out,ia,ib,mg,ac,bc)) st'/\QQ (.yield (none,out,ia,ib,mg,ac,bc)) st':=fun st' out ia ib mg ac bc hs p1 p2 p3 p4=>⟨hQ _ _ ⟨hs, .inl ⟨_,_,_,_,_,_,rfl,p1,p2,p3,p4⟩⟩,hQ _ _ ⟨hs,_,_,_,_,_,_,rfl,p1,p2,p3,p4⟩⟩;clear hQ hj
        extract_lets -underBinder s0 vout s1 via s2 vib s3 vmg s4 vac vbc jp vmx
        have Ea:∀ mg,wpS (Fz prog w) A E s (jp () mg) QQ D4:=by
         intro mg;dsimp -zeta -zetaHave -zetaUnused only [jp,s0,vout,s1,via,s2,vib,s3,vmg,s4,vac,vbc];clear vmx jp vbc vac s4 vmg s3 vib s2 via s1 vout s0;refine Ff (Hn ?_);refine tR (P:=Same st) (Dj.trans ⟨rfl,rfl,rfl,rfl⟩) fun DR Da => ?_;have Eb:=Da.kind.trans hk;refine Ff (ay hy ?_);refine Ff (hg false y a (a.toList.take D9) (a.toList.drop D9) [] _ _ _ _ _ Eb (DP _ Dv) (by simp) (fb (by lia)) (by simp) (fun x hx=>DO x (JX hx)) (by lia) ((Fc.mp m3.pa).2.1) fun X Y e hX hY => ?_)
         dsimp -zeta -zetaHave -zetaUnused only;have m4:=m3.galA c e Dr fun x hx=>xH (hX x hx);have Db:∀ x4,a.toList[D9+X.length]? = some x4->lt x4 y=false:=fun x4 Dx=>c.asym _ _ (tS (hY x4 (ni e Dx)));have DS:=no e
         extract_lets -underBinder +onlyGivenNames vac Dy
         clear_value vac
         have DE:∀ (O:Array Fi) (Ds:Nat),ML lt a.toList b.toList O.toList Ds D5->(∀ x4,a.toList[Ds]? = some x4->lt x4 y=false)->Ds+1 < a.size->i+2<=O.size->wpS (Fz prog w) A E s (Dy () O Ds) QQ DR:=by
          intro O Ds EB Dz F6 Ec;dsimp -zeta -zetaHave -zetaUnused only [Dy];clear Dy DS Db m4 hX hY;obtain ⟨x4,Dx,Df,Ed⟩:=ax (a:=a) (i:=Ds) (by lia)
          refine Ff (ay hy ?_);have m5:=EB.pushB c Df Dr (Dz x4 Df);rw [<- Fv] at m5;have Dg:i+2<=(O.push y).size:=by rw [K7];lia
          try dsimp -zeta -zetaHave -zetaUnused only
          extract_lets -underBinder +onlyGivenNames vo5 vi5
          dsimp -zeta -zetaHave -zetaUnused only [vo5];clear vo5;have e5:vi5=D5+1:=rfl
          clear_value vi5
          subst e5
          revert m5 Dg
          generalize O.push y=out5;intro m5 Dg;refine af (fun h => ?_) (fun h => ?_)
          ·exact aa (G _ _ _ Da (m5.finR (by have h:=Iq h;lia)))
          ·have h:D5+1≠b.size:=by simpa using h
           refine Ff (ay Dx ?_);refine Ff (hg true x4 b (b.toList.take (D5+1)) (b.toList.drop (D5+1)) [] _ _ _ _ _ Eb (DO _ Ed) (by simp) (fb (by lia)) (by simp) (fun x hx=>DP x (JX hx)) (by lia) ((Fc.mp m5.pb).2.1) fun X2 Y2 e2 DJ DK => ?_)
           dsimp -zeta -zetaHave -zetaUnused only;have m6:=m5.galB c e2 Df fun x hx=>c.asym _ _ (xI (DJ x hx));have Dc:∀ y6,b.toList[D5+1+X2.length]? = some y6->lt y6 x4=false:=fun y6 Ee=>tT (DK y6 (ni e2 Ee));have DT:=no e2
           extract_lets -underBinder +onlyGivenNames vbc DA
           clear_value vbc
           have DF:∀ (D6:Array Fi) (DU:Nat),ML lt a.toList b.toList D6.toList Ds DU->(∀ y6,b.toList[DU]? = some y6->lt y6 x4=false)->DU < b.size->i+2<=D6.size->wpS (Fz prog w) A E s (DA () D6 DU) QQ DR:=by
            intro D6 DU EC DB Et EN;dsimp -zeta -zetaHave -zetaUnused only [DA];clear DA DT Dc m6 DJ DK m5 Dg Ec h5 h1 h2 hsz Ez Ey h3;obtain ⟨y6,Ee,DG,EO⟩:=ax (a:=b) (i:=DU) Et;refine Ff (ay Dx ?_);have m7:=EC.pushA c Df DG (DB y6 DG);rw [<- Fv] at m7;dsimp only;refine af (fun h => ?_) (fun h => ?_)
            ·exact aa (G _ _ _ Da (m7.finL (Dw · · (Ds+1) (Iq h))))
            ·have h:Ds+1+1≠a.size:=by simpa using h
             have:=EA DR (D6.push x4) (Ds+1) DU mg vac vbc Da m7 (by lia) Et (by rw [K7];lia)
             exact af (fun _=>aa this.1) (fun _=>aa this.2)
           clear_value DA
           refine af (fun h0 => ?_) (fun h0 => ?_)
           ·dsimp only;have m6:=m6.cut (a:=b) e2;refine af (fun h => ?_) (fun h => ?_)
            ·exact aa (G _ _ _ Da (m6.finR (by have h:=Iq h;lia)))
            ·have h:D5+1+X2.length≠b.size:=by simpa using h
             exact DF _ _ m6 Dc (by lia) (by rw [IK];lia)
           ·have DC:X2=[]:=G6.mp (by lia)
            subst DC;exact DF _ _ m5 Dc (by lia) Dg
         clear_value Dy
         refine af (fun h0 => ?_) (fun h0 => ?_)
         ·dsimp only;have m4:=m4.cut (a:=a) e;refine af (fun h => ?_) (fun h => ?_)
          ·exact aa (G _ _ _ Da (m4.finL (Dw · · _ (Iq h))))
          ·have h:D9+X.length+1≠a.size:=by simpa using h
           refine af (fun h => ?_) (fun h9 => ?_)
           ·exact aa (G _ _ _ Da (m4.finS (by have h:=Iq h;lia)))
           ·have h9:D9+X.length≠a.size:=by simpa using h9
            exact DE _ _ m4 Db (by lia) (by rw [IK];lia)
         ·have DC:X=[]:=G6.mp (by lia)
          subst DC;exact DE _ _ m3 Db h1 h5
        clear_value jp
        exact af (fun _=>Ea _) (fun _=>Ea _)
       ·rintro r D4 ⟨Dj,F,D9,D5,Di,E8,E9,rfl,m3,h1,h2,h5⟩;exact ⟨Dj, .inl ⟨_,_,_,_,_,_,rfl,m3,h1,h2,h5⟩⟩
       ·rintro r D4 ⟨Dj,⟨F,D9,D5,Di,E8,E9,rfl,m3,h1,h2,h5⟩ | ⟨res,t,rfl,J⟩⟩
        ·dsimp -zeta -zetaHave -zetaUnused only;refine Ff (Hn ?_);exact aa ⟨Dj.trans ⟨rfl,rfl,rfl,rfl⟩,_,_,_,_,rfl,m3,h1,h2,by lia⟩
        ·exact aa ⟨Dj,_,_,rfl,J⟩
      ·exact aa ⟨sm,_,_,rfl,J⟩
    ·rintro r Dq ⟨sm,out,ia,ib,mg,rfl,m,Ey,Ez,hsz⟩;have:=m.size (by simp;lia) (by simp;lia)
     simp at this;lia
    ·rintro r Dq ⟨sm,res,t,rfl,J⟩;exact aa (q res Dq J.1 J.2 sm)
 ·intro hg a b st Q hk DO DP Em Eo sa sb E3 E4 q;refine Ff (cD ?_);obtain ⟨bL,Ex,DW,F7⟩:=ax (a:=b) (i:=b.size - 1) (by lia)
  obtain ⟨aL,Er,E6,F8⟩:=ax (a:=a) (i:=a.size - 1) (by lia)
  refine Ff (ay Er ?_);have m0:MH lt a.toList b.toList [] a.size b.size:=⟨by rw [dN];simpa using sa,by rw [dN];simpa using sb,by rw [dN,dN];simp⟩
  have m1:MH lt a.toList b.toList [aL] (a.size - 1) b.size:=m0.pushA c Em Eo E6 DW (E4 aL bL Er Ex);have Do:∀ x∈b.toList.take 1, ∀ y∈a.toList,lt y x=false:=by
   intro x hx y hy;obtain ⟨b0,Ep,E5,_⟩:=ax Eo;obtain ⟨a0,E1,DV,_⟩:=ax Em;have ex:x=b0:=by
    rw [cE (by lia) E5] at hx
    simpa using hx
   subst ex;have h:=E3 a0 x E1 Ep;obtain ⟨j,hj,e⟩:=Hb.mp hy;have DQ:a.toList[j]? = some y:=by rw [<- e];exact Fe hj
   by_cases hj0:j=0
   ·subst hj0;rw [DV] at DQ;cases DQ;exact h
   ·exact c.le_trans h (eF sa (by lia) DV DQ)
  try dsimp -zeta -zetaHave -zetaUnused only
  refine af (fun h => ?_) (fun h => ?_)
  ·skip
   have h:a.size - 1=0:=by simpa using h
   refine aa ?_;have r:=m1.fin (.inl h);exact q _ _ (by simpa only [Fs,Fv,G1,FQ,b7] using r.1) (by simpa only [Fs,Fv,G1,FQ,b7] using r.2) Same.refl
  ·skip
   refine af (fun h2 => ?_) (fun h2 => ?_)
   ·skip
    have h2:b.size=1:=by simpa using h2
    refine aa ?_;have r:=m1.finB (by rw [h2];exact Do)
    exact q _ _ (by simpa only [Fs,Fv,G1,FQ,b7] using r.1) (by simpa only [Fs,Fv,G1,FQ,b7] using r.2) Same.refl
   ·skip
    have h:a.size - 1≠0:=by simpa using h
    have h2:b.size≠1:=by simpa using h2
    refine Ff (Jd ?_)
    try dsimp -zeta -zetaHave -zetaUnused only
    refine Ff (az (Q:=fun r st'=>Same st st' /\ ∃ res t,r=(some res,t)/\Res lt a.toList b.toList res.toList)
     (Gh (fun i r st'=>Same st st' /\ ∃ na nb out mg,r=(none,na,nb,out,mg)/\MH lt a.toList b.toList out.toList na nb/\0 < na/\1 < nb/\na < a.size/\nb<=b.size/\i+1<=out.size) ?_ ?_ ⟨Same.refl,_,_,_,_,rfl,m1,by lia,by lia,by lia,by lia,by simp⟩) ?_)
    ·rintro i r Dq _ hi ⟨sm,na,nb,out,mg,rfl,m,DI,DX,Ef,Eg,hsz⟩
     try dsimp -zeta -zetaHave -zetaUnused only
     refine Ff (az (Q:=fun r st'=>st'=Dq/\((∃ Dd De B ac bc,r=(none,Dd,De,B,ac,bc)/\MH lt a.toList b.toList B.toList Dd De/\0 < Dd/\1 < De/\Dd < a.size/\De<=b.size/\i+2<=B.size) ∨ ∃ res t,r=(some res,t)/\Res lt a.toList b.toList res.toList))
      (Gh (fun j r st'=>st'=Dq /\ ∃ Dd De B ac bc,r=(none,Dd,De,B,ac,bc)/\MH lt a.toList b.toList B.toList Dd De/\0 < Dd/\1 < De/\Dd < a.size/\De<=b.size/\i+1+j<=B.size) ?_ ?_ ⟨rfl,_,_,_,_,_,rfl,m,DI,DX,Ef,Eg,by lia⟩) ?_)
     ·rintro j r D7 _ hj ⟨rfl,Dd,De,B,ac,bc,rfl,m2,h1,h2,Dl,Dn,h3⟩
      try dsimp only
      obtain ⟨y,hy,Dr,Dv⟩:=ax (a:=b) (i:=De - 1) (by lia)
      obtain ⟨x,hx,E7,DZ⟩:=ax (a:=a) (i:=Dd - 1) (by lia)
      refine Ff (ay hy (Ff (ay hx (Ff (jh c (sm.kind.trans hk) (DP _ Dv) (DO _ DZ) ?_)))))
      try dsimp only
      refine af (fun hl => ?_) (fun hl => ?_)
      ·skip
       refine Ff (ay hx ?_)
       try dsimp only
       have m3:=m2.pushA c h1 (by lia) E7 Dr (c.asym _ _ hl)
       refine af (fun h => ?_) (fun h => ?_)
       ·skip
        have h:Dd - 1=0:=by simpa using h
        exact aa ⟨rfl, .inr ⟨_,_,rfl,by have r:=m3.fin (.inl h);simpa only [Fs,Fv,G1,FQ,b7] using r⟩⟩
       ·skip
        have h:Dd - 1≠0:=by simpa using h
        refine af (fun _ => ?_) (fun _ => ?_)
        ·exact aa ⟨rfl, .inl ⟨_,_,_,_,_,rfl,by simpa only [Fs,Fv,G1,FQ,b7] using m3,by lia,h2,by lia,Dn,by simp;lia⟩⟩
        ·exact aa ⟨rfl,_,_,_,_,_,rfl,by simpa only [Fs,Fv,G1,FQ,b7] using m3,by lia,h2,by lia,Dn,by simp;lia⟩
      ·skip
       refine Ff (ay hy ?_)
       try dsimp only
       have m3:=m2.pushB c h1 (by lia) E7 Dr (by simpa using hl)
       refine af (fun h => ?_) (fun h => ?_)
       ·skip
        have h:De - 1=1:=by simpa using h
        exact aa ⟨rfl, .inr ⟨_,_,rfl,by have r:=m3.finB (by rw [h];exact Do);simpa only [Fs,Fv,G1,FQ,b7] using r⟩⟩
       ·skip
        have h:De - 1≠1:=by simpa using h
        refine af (fun _ => ?_) (fun _ => ?_)
        ·exact aa ⟨rfl, .inl ⟨_,_,_,_,_,rfl,by simpa only [Fs,Fv,G1,FQ,b7] using m3,h1,by lia,Dl,by lia,by simp;lia⟩⟩
        ·exact aa ⟨rfl,_,_,_,_,_,rfl,by simpa only [Fs,Fv,G1,FQ,b7] using m3,h1,by lia,Dl,by lia,by simp;lia⟩
     ·rintro r D7 ⟨rfl,Dd,De,B,ac,bc,rfl,m2,h1,h2,Dl,Dn,h3⟩;exact ⟨rfl, .inl ⟨_,_,_,_,_,rfl,m2,h1,h2,Dl,Dn,by lia⟩⟩
     ·rintro r D7 ⟨rfl,⟨Dd,De,B,ac,bc,rfl,m2,h1,h2,Dl,Dn,h3⟩ | ⟨res,t,rfl,J⟩⟩
      ·try dsimp -zeta -zetaHave -zetaUnused only
       refine Ff (cD ?_);refine Ff (az (Q:=fun r st'=>Same st st'/\((∃ D8 U F Di ac bc,r=(none,D8,U,F,Di,ac,bc)/\MH lt a.toList b.toList F.toList D8 U/\0 < D8/\1 < U/\D8 < a.size/\U<=b.size/\i+2<=F.size) ∨ ∃ res t,r=(some res,t)/\Res lt a.toList b.toList res.toList))
        (Gh (fun j r st'=>Same st st' /\ ∃ D8 U F Di ac bc,r=(none,D8,U,F,Di,ac,bc)/\MH lt a.toList b.toList F.toList D8 U/\0 < D8/\1 < U/\D8 < a.size/\U<=b.size/\i+2<=F.size) ?_ ?_ ⟨sm,_,_,_,_,_,_,rfl,m2,h1,h2,Dl,Dn,h3⟩) ?_)
       ·rintro j r D4 _ hj ⟨Dj,D8,U,F,Di,E8,E9,rfl,m3,h1,h2,Dl,Dn,h5⟩;obtain ⟨y,hy,Dr,Dv⟩:=ax (a:=b) (i:=U - 1) (by lia)
        refine xG fun QQ hQ => ?_;have G:∀ (st':Gj) (res:Array Fi) t,Same st st'->Res lt a.toList b.toList res.toList->QQ (.done (some res,t)) st':=fun st' res t hs hr=>hQ _ _ ⟨hs, .inr ⟨_,_,rfl,hr⟩⟩;have EA:∀ (st':Gj) (out:Array Fi) na nb mg ac bc,Same st st'->MH lt a.toList b.toList out.toList na nb->0 < na->1 < nb->na < a.size->nb<=b.size->i+2<=out.size->QQ (.done (none,na,nb,out,mg,ac,bc)) st'/\QQ (.yield (none,na,nb,out,mg,ac,bc)) st':=fun st' out ia ib mg ac bc hs p1 p2 p3 p4 p5 p6=>⟨hQ _ _ ⟨hs, .inl ⟨_,_,_,_,_,_,rfl,p1,p2,p3,p4,p5,p6⟩⟩,hQ _ _ ⟨hs,_,_,_,_,_,_,rfl,p1,p2,p3,p4,p5,p6⟩⟩;clear hQ hj
        extract_lets -underBinder s0 vna s1 vnb s2 vout s3 vmg s4 vac vbc jp vmx
        have Ea:∀ mg,wpS (Fz prog w) A E s (jp () mg) QQ D4:=by
         intro mg;dsimp -zeta -zetaHave -zetaUnused only [jp,s0,vna,s1,vnb,s2,vout,s3,vmg,s4,vac,vbc];clear vmx jp vbc vac s4 vmg s3 vout s2 vnb s1 vna s0;refine Ff (Hn ?_);refine tR (P:=Same st) (Dj.trans ⟨rfl,rfl,rfl,rfl⟩) fun DR Da => ?_;have Eb:=Da.kind.trans hk;refine Ff (ay hy ?_);refine Ff (hg false y a [] (a.toList.take D8) (a.toList.drop D8) _ _ _ _ _ Eb (DP _ Dv) (by simp) rfl (fb (by lia)) (fun x hx=>DO x (JY hx)) (by lia) ((Fc.mp m3.pa).1) fun X Y e hX hY => ?_)
         dsimp -zeta -zetaHave -zetaUnused only;have m4:=m3.galA c e (by lia) Dr fun x hx=>c.asym _ _ (tS (hY x hx))
         have Db : 0 < X.length -> ∀ x4,a.toList[X.length - 1]? = some x4->lt y x4=false:=fun h0 x4 Dx=>xH (hX x4 (nj e h0 Dx));have DS:=kW e (by lia)
         extract_lets -underBinder +onlyGivenNames vk vac Dy
         clear_value vac
         have DE:∀ (Dt:Nat) (O:Array Fi),MH lt a.toList b.toList O.toList Dt U->(∀ x4,a.toList[Dt - 1]? = some x4->lt y x4=false)->0 < Dt->Dt < a.size->i+2<=O.size->wpS (Fz prog w) A E s (Dy () Dt O) QQ DR:=by
          intro Dt O EB Dz Eh F3 Ec;dsimp -zeta -zetaHave -zetaUnused only [Dy];clear Dy vk DS Db m4 hX hY;obtain ⟨x4,Dx,Df,Ed⟩:=ax (a:=a) (i:=Dt - 1) (by lia)
          refine Ff (ay hy ?_);have m5:=EB.pushB c Eh (by lia) Df Dr (Dz x4 Df)
          rw [<- Fv] at m5;have Dg:i+2<=(O.push y).size:=by rw [K7];lia
          try dsimp -zeta -zetaHave -zetaUnused only
          extract_lets -underBinder +onlyGivenNames vo5
          dsimp -zeta -zetaHave -zetaUnused only [vo5];clear vo5
          revert m5 Dg
          generalize O.push y=out5;intro m5 Dg;refine af (fun h => ?_) (fun h => ?_)
          ·exact aa (G _ _ _ Da (m5.finR (by rw [Iq h];exact Do)))
          ·have h:U - 1≠1:=by simpa using h
           refine Ff (ay Dx ?_);refine Ff (hg true x4 b [] (b.toList.take (U - 1)) (b.toList.drop (U - 1)) _ _ _ _ _ Eb (DO _ Ed) (by simp) rfl (fb (by lia)) (fun x hx=>DP x (JY hx)) (by lia) ((Fc.mp m5.pb).1) fun X2 Y2 e2 DJ DK => ?_)
           dsimp -zeta -zetaHave -zetaUnused only;have m6:=m5.galB c e2 Eh Df fun x hx=>tT (DK x hx);have Dc : 0 < X2.length -> ∀ y6,b.toList[X2.length - 1]? = some y6->lt x4 y6=false:=fun h0 y6 Ee=>c.asym _ _ (xI (DJ y6 (nj e2 h0 Ee)));have DT:=kW e2 (by lia)
           extract_lets -underBinder +onlyGivenNames vk vbc DA
           clear_value vbc
           have DF:∀ (DH:Nat) (D6:Array Fi),MH lt a.toList b.toList D6.toList Dt DH->(∀ y6,b.toList[DH - 1]? = some y6->lt x4 y6=false)->1 < DH->DH<=b.size->i+2<=D6.size->wpS (Fz prog w) A E s (DA () DH D6) QQ DR:=by
            intro DH D6 EC DB EQ ED EN;dsimp -zeta -zetaHave -zetaUnused only [DA];clear DA vk DT Dc m6 DJ DK m5 Dg Ec h5 h1 h2 Dl Dn hsz DI DX Ef Eg h3;obtain ⟨y6,Ee,DG,EO⟩:=ax (a:=b) (i:=DH - 1) (by lia)
            refine Ff (ay Dx ?_);have m7:=EC.pushA c Eh (by lia) Df DG (DB y6 DG)
            rw [<- Fv] at m7;dsimp only;refine af (fun h => ?_) (fun h => ?_)
            ·exact aa (G _ _ _ Da (m7.finL (.inl (Iq h))))
            ·have h:Dt - 1≠0:=by simpa using h
             have:=fun mg ac bc=>EA DR (D6.push x4) (Dt - 1) DH mg ac bc Da m7 (by lia) EQ (by lia) ED (by rw [K7];lia)
             exact af (fun _=>aa (this _ _ _).1) (fun _=>aa (this _ _ _).2)
           clear_value DA
           refine af (fun h0 => ?_) (fun h0 => ?_)
           ·dsimp only;have m6:=m6.cut (a:=b) e2;refine af (fun h => ?_) (fun h => ?_)
            ·exact aa (G _ _ _ Da (m6.finR (by rw [Iq h];exact Do)))
            ·have h:X2.length≠1:=by simpa using h
             refine af (fun h9 => ?_) (fun h9 => ?_)
             ·exact aa (G _ _ _ Da (m6.finL (.inr (Iq h9))))
             ·have h9:X2.length≠0:=by simpa using h9
              exact DF _ _ m6 (Dc (by lia)) (by lia) (by lia) (by rw [IK];lia)
           ·have h0 : ¬ (U - 1 - X2.length > 0):=h0;have hl:X2.length=U - 1:=by lia
            have E2 : 0 < X2.length:=by lia
            have hr:=Dc E2;rw [hl] at hr;exact DF _ _ m5 hr (by lia) (by lia) Dg
         clear_value Dy
         refine af (fun h0 => ?_) (fun h0 => ?_)
         ·dsimp only;have m4:=m4.cut (a:=a) e;refine af (fun h => ?_) (fun h => ?_)
          ·exact aa (G _ _ _ Da (m4.finL (.inl (Iq h))))
          ·have h:X.length≠0:=by simpa using h
           exact DE _ _ m4 (Db (by lia)) (by lia) (by lia) (by rw [IK];lia)
         ·have h0 : ¬ (D8 - X.length > 0):=h0;have hl:X.length=D8:=by lia
          have hr:=Db (by lia)
          rw [hl] at hr;exact DE _ _ m3 hr h1 Dl h5
        clear_value jp
        exact af (fun _=>Ea _) (fun _=>Ea _)
       ·rintro r D4 ⟨Dj,D8,U,F,Di,E8,E9,rfl,m3,h1,h2,Dl,Dn,h5⟩;exact ⟨Dj, .inl ⟨_,_,_,_,_,_,rfl,m3,h1,h2,Dl,Dn,h5⟩⟩
       ·rintro r D4 ⟨Dj,⟨D8,U,F,Di,E8,E9,rfl,m3,h1,h2,Dl,Dn,h5⟩ | ⟨res,t,rfl,J⟩⟩
        ·try dsimp -zeta -zetaHave -zetaUnused only
         refine Ff (Hn ?_);exact aa ⟨Dj.trans ⟨rfl,rfl,rfl,rfl⟩,_,_,_,_,rfl,m3,h1,h2,Dl,Dn,by lia⟩
        ·exact aa ⟨Dj,_,_,rfl,J⟩
      ·exact aa ⟨sm,_,_,rfl,J⟩
    ·rintro r Dq ⟨sm,na,nb,out,mg,rfl,m,DI,DX,Ef,Eg,hsz⟩;have:=m.size (by simp;lia) (by simp;lia)
     simp at this;lia
    ·rintro r Dq ⟨sm,res,t,rfl,J⟩;exact aa (q res Dq J.1 J.2 sm)
end
end Srt
end L2
namespace L2
namespace Srt
open PySem PySem.Spec PyProof.Rows
section
variable {prog:FI} {w:G2} {A:G8} {E:gV->tv->Prop} {s:tv} {kd:J9} {P:Fi->Prop} {lt:Fi->Fi->Bool}
structure Kp (st st':Gj):Prop where
 kind:GU st'=GU st
 pend:Fx st'=Fx st
 fail:HF st'=HF st
theorem Kp.refl {st:Gj}:Kp st st:=⟨rfl,rfl,rfl⟩
theorem Kp.trans {a b c:Gj} (h:Kp a b) (g:Kp b c):Kp a c:=⟨g.kind.trans h.kind,g.pend.trans h.pend,g.fail.trans h.fail⟩
theorem oO {a:Array Fi} {L B R:List Fi} (e:a.toList=L++(B++R)) {i j:Nat} (hi:i=L.length) (q:j=L.length+B.length):(mirror a i j ((j - i) / 2)).toList=L++(B.reverse++R):=by
 have hs:a.size=L.length+(B.length+R.length):=by rw [<- FL,e];simp
 apply JB;intro k;rw [FG,getElem?_mirror_all (by lia)]
 have g:∀ n:Nat,a[n]? = (L++(B++R))[n]? := fun n=>by rw [<- FG,e]
 rw [g,g]
 by_cases h1:k < L.length
 ·rw [if_neg (by lia),Fu h1,Fu h1]
 ·by_cases h2:k < j
  ·rw [if_pos (by lia),D2 (by lia),Fu (by lia),D2 (by lia),Fu (by simp;lia),List.getElem?_reverse (by lia)]
   congr 1;lia
  ·rw [if_neg (by lia),D2 (by lia),D2 (by lia),D2 (by lia),D2 (by simp;lia)]
   simp
theorem oP {a:Array Fi} {L j q R:List Fi} {x:Fi} (e:a.toList=L++((j++q)++x::R)) {src d:Nat} (hi:src=L.length+(j.length+q.length)) (hd:d=q.length):(bubble a src d).toList=L++((j++x::q)++R):=by
 have hs:a.size=L.length+(j.length+q.length+(R.length+1)):=by rw [<- FL,e];simp;lia
 apply JB;intro k;rw [FG,getElem?_bubble (by lia) d (by lia)]
 have g:∀ n:Nat,a[n]? = (L++((j++q)++x::R))[n]? := fun n=>by rw [<- FG,e]
 rw [g,g,g]
 by_cases h1:k < L.length
 ·rw [if_neg (by lia),if_neg (by lia),Fu h1,Fu h1]
 ·by_cases h2:k < L.length+j.length
  ·rw [if_neg (by lia),if_neg (by lia),D2 (by lia),Fu (by simp;lia),Fu (by lia),D2 (by lia),Fu (by simp;lia),Fu (by lia)]
  ·by_cases h3:k=L.length+j.length
   ·rw [if_pos (by lia),D2 (by lia),D2 (by simp;lia),D2 (by lia),Fu (by simp;lia),D2 (by lia)]
    have e1:src - L.length - (j++q).length=0:=by simp;lia
    have e2:k - L.length - j.length=0:=by lia
    rw [e1,e2];rfl
   ·by_cases h4:k<=src
    ·rw [if_neg (by lia),if_pos (by lia),D2 (by lia),Fu (by simp;lia),D2 (by lia),D2 (by lia),Fu (by simp;lia),D2 (by lia)]
     have e2:k - L.length - j.length=(k - 1 - L.length - j.length)+1:=by lia
     rw [e2,Iu]
    ·rw [if_neg (by lia),if_neg (by lia),D2 (by lia),D2 (by simp;lia),D2 (by lia),D2 (by simp;lia)]
     have e2:k - L.length - (j++q).length=(k - L.length - (j++x::q).length)+1:=by simp;lia
     rw [e2,Iu]
theorem dm (c:Cm prog w A s kd P lt) {i j:Nat} {x y:Fi} {st:Gj} {Q:Option Bool->Gj->Prop} (z:GU st=kd) (hx:(G4 st)[i]? = some x) (B:(G4 st)[j]? = some y) (px:P x) (py:P y) (q:Q (some (lt x y)) st):wpS (Fz prog w) A E s (ltAt' i j) Q st:=by
 rw [ltAt'_eq];exact Ff (Jd (Ff (ay hx (Ff (ay B (jh c z px py q))))))
theorem ji {i j:Nat} {st:Gj} {Q:Unit->Gj->Prop} {L B R:List Fi} (e:(G4 st).toList=L++(B++R)) (hi:i=L.length) (z:j=L.length+B.length) (q:∀ st',(G4 st').toList=L++(B.reverse++R)->Kp st st'->Q () st'):wpS (Fz prog w) A E s (reverseSlice' i j) Q st:=by
 rw [reverseSlice'_eq];exact Hn (q _ (oO e hi z) ⟨rfl,rfl,rfl⟩)
theorem bX {st:Gj} {L xs:List Fi} (e:(G4 st).toList=L++xs) {i n:Nat} (hi:i=L.length+n):(G4 st)[i]? = xs[n]? := by
 rw [<- FG,e,hi,D2 (by lia)]
 congr 1;lia
theorem ny (c:Cm prog w A s kd P lt) {xs:List Fi} {n:Nat} {x y:Fi} (h:Ord lt (xs.take n)) (q : 0 < n) (hx:xs[n]? = some x) (B:xs[n - 1]? = some y) (F:lt x y=false):Ord lt (xs.take (n+1)):=by
 rw [Np,hx];refine Fc.mpr ⟨h,by simp,fun z G u j => ?_⟩
 simp at j;subst j;exact gH c h q B F z G
noncomputable abbrev cN (lt:Fi->Fi->Bool) (l:List Fi):Prop:=l.Pairwise fun x y=>lt x y=false
theorem ii (c:Cm prog w A s kd P lt) {D:List Fi} {e x:Fi} (h:cN lt (D++[e])) (hx:lt e x=false):cN lt (D++[e]++[x]):=by
 refine Fc.mpr ⟨h,by simp,fun z B u j => ?_⟩
 simp at j;subst j;obtain ⟨_,_,F⟩:=Fc.mp h
 rcases FE.mp B with g | g
 ·cases q:lt z u with
  | false=>rfl
  | true=>rcases c.neg z e u q with r | r
          ·rw [F z g e (by simp)] at r;cases r
          ·rw [hx] at r;cases r
 ·simp at g;subst g;exact hx
theorem pI {q F:List Fi} (h:cN lt (q++F)) (he:∀ x∈F, ∀ y∈F,lt x y=false):cN lt (q++F.reverse):=by
 obtain ⟨h1,h2,z⟩:=Fc.mp h;refine Fc.mpr ⟨h1, ?_,fun x hx y j=>z x hx y (IX.mp j)⟩;rw [LG];exact h2.imp_of_mem fun hx j _=>he _ j _ hx
theorem perm_take {xs:List Fi} {n:Nat}:(xs.take n++xs.drop n).Perm xs:=by rw [Hk]
theorem oQ (c:Cm prog w A s kd P lt) {L xs:List Fi} {st:Gj} {Q:Option Nat->Gj->Prop} (hk:GU st=kd) (O:(G4 st).toList=L++xs) (h0:xs≠[]) (hP:∀ x∈xs,P x)
 (q:∀ r R st',(G4 st').toList=L++(r++R)->(r++R).Perm xs->r≠[]->Ord lt r->Kp st st'->Q (some r.length) st'):wpS (Fz prog w) A E s (countRun' L.length xs.length) Q st:=by
 have Ds : 0 < xs.length:=Gm.mpr h0;rw [countRun'_eq]
 try dsimp -zeta -zetaHave -zetaUnused only
 refine Ff (az (Q:=fun r st'=>st'=st /\ ∃ n,r=(none,n)/\1<=n/\n<=xs.length/\Ord lt (xs.take n)/\(n=xs.length ∨ ∃ x y,xs[n]? = some x/\xs[n - 1]? = some y/\lt x y=true))
  (Gh (fun i r st'=>st'=st/\r=(none,i)/\Ord lt (xs.take i)) ?_ ?_ ⟨rfl,rfl,by
    cases xs with
    | nil=>exact absurd rfl h0
    | cons x t=>simp⟩) ?_)
 ·rintro i r st' h1 hi ⟨rfl,rfl,ho⟩;dsimp only;obtain ⟨x,hx⟩:∃ x,xs[i]? = some x:=⟨_,Fe hi⟩;obtain ⟨y,hy⟩:∃ y,xs[i - 1]? = some y:=⟨_,Fe (by lia)⟩
  refine Ff (dm c hk ((bX O rfl).trans hx) ((bX O (by lia)).trans hy) (hP _ (FT hx)) (hP _ (FT hy)) ?_)
  dsimp only;refine af (fun h => ?_) (fun h => ?_)
  ·exact aa ⟨rfl,i,rfl,h1,by lia,ho, .inr ⟨x,y,hx,hy,h⟩⟩
  ·exact aa ⟨rfl,rfl,ny c ho (by lia) hx hy (by simpa using h)⟩
 ·rintro r st' ⟨rfl,rfl,ho⟩;exact ⟨rfl,_,rfl,by lia,by lia,ho, .inl (by lia)⟩
 ·rintro r st' ⟨rfl,n,rfl,DP,Dt,ho,hc⟩;dsimp -zeta -zetaHave -zetaUnused only;have Df:Q (some n) st':=by
   have:=q (xs.take n) (xs.drop n) st' (by rw [O,Hk]) perm_take (fun z=>by
    have h3:=congrArg JW z;rw [FU,Ia] at h3;lia) ho Kp.refl
   rw [FU,Je Dt] at this;exact this
  extract_lets -underBinder +onlyGivenNames vr vn
  dsimp -zeta -zetaHave -zetaUnused only [vr];clear vr;have en:n=vn:=rfl
  clear_value vn
  subst en;refine af (fun h=>aa Df) (fun h => ?_);have DE:n≠xs.length:=by simpa using h
  obtain ⟨x,y,hx,hy,DF⟩:=hc.resolve_left DE;have DQ:n < xs.length:=by lia
  have exs:xs=xs.take n++x::xs.drop (n+1):=by
   have h1:=(Hk n xs).symm;rw [dz hx] at h1;exact h1
  have Du:y∈xs.take n:=by rw [cE (by lia) hy];simp
  extract_lets -underBinder +onlyGivenNames jp
  have Dv:∀ (B:List Fi) (D5:Gj),(G4 D5).toList=L++(B++x::xs.drop (n+1))->B.Perm (xs.take n)->B.length=n->(∀ u∈B, ∀ v∈B,lt u v=false)->y∈B->Kp st' D5->wpS (Fz prog w) A E s (jp ()) Q D5:=by
   intro B D5 e1 hB D6 D7 D8 D9;dsimp -zeta -zetaHave -zetaUnused only [jp];clear jp;refine Ff (cD ?_)
   try dsimp -zeta -zetaHave -zetaUnused only
   extract_lets -underBinder +onlyGivenNames vn1 vq1
   have DG:vn1=n+1:=rfl;have eq1:vq1=0:=rfl
   clear_value vn1 vq1
   subst DG eq1;refine Ff (az (Q:=fun r U => ∃ G F R neq,Kp st' U/\(G4 U).toList=L++((G++F)++R)/\((G++F)++R).Perm xs/\r=(none,(G++F).length,neq)/\F.length=neq+1/\cN lt (G++F)/\(∀ u∈F, ∀ v∈F,lt u v=false))
    (Gh (fun i r U => ∃ G F R neq,Kp st' U/\(G4 U).toList=L++((G++F)++R)/\((G++F)++R).Perm xs/\r=(none,(G++F).length,neq)/\F.length=neq+1/\cN lt (G++F)/\(∀ u∈F, ∀ v∈F,lt u v=false)/\(G++F).length=i) ?_ ?_ ?_) ?_)
   ·rintro i r U DR hi ⟨G,F,R,neq,kp,ea,hp,rfl,hF,hN,hE,Dw⟩;subst Dw;have hlen:=hp.length_eq;rw [Fk] at hlen;obtain ⟨z,R',rfl⟩:∃ z R',R=z::R':=by
     cases R with
     | nil=>simp at hlen;simp at hi;lia
     | cons z R'=>exact ⟨z,R',rfl⟩
    have DH:F≠[]:=fun z=>by rw [z] at hF;simp at hF
    obtain ⟨F0,e,rfl⟩:∃ F0 e,F=F0++[e]:=⟨F.dropLast,F.getLast DH,(HB _).symm⟩;have hz:(G4 U)[L.length+(G++(F0++[e])).length]? = some z:=by
     rw [bX ea rfl,D2 (by lia),Kf];rfl
    have he:(G4 U)[L.length+(G++(F0++[e])).length - 1]? = some e:=by
     rw [bX ea (n:=(G++F0).length) (by simp <;> lia),Fu (by simp <;> lia), <- Ft,D2 (by lia),Kf];rfl
    have Dx:P z:=hP z (hp.mem_iff.mp (by simp))
    have Dy:P e:=hP e (hp.mem_iff.mp (by simp))
    dsimp only;refine Ff (dm c (kp.kind.trans hk) hz he Dx Dy ?_);dsimp only;have Dj:cN lt (G++F0++[e]):=by rw [Ft];exact hN
    refine af (fun Dl => ?_) (fun Dl => ?_)
    ·have Da:lt e z=false:=c.asym _ _ Dl;refine af (fun Db => ?_) (fun Db => ?_)
     ·refine Ff (ji (L:=L++G) (B:=F0++[e]) (R:=z::R') (by rw [ea];simp) (by simp only [Fk] at hF ⊢;simp only [I7] at hF ⊢;lia) (by simp <;> lia) fun Z e3 Y => ?_)
      refine aa ⟨G++(F0++[e]).reverse,[z],R',0,kp.trans Y,by rw [e3];simp, ?_,by simp <;> lia,rfl, ?_, ?_,by simp <;> lia⟩
      ·refine HV.trans ?_ hp;rw [Ft,Ft,Ft];exact Gg _ (Gs _ (JC _))
      ·have h1:=pI hN hE;refine Fc.mpr ⟨h1,by simp,fun u j v J => ?_⟩
       simp at J;subst J;have hm:=ii c Dj Da;refine (Fc.mp hm).2.2 u ?_ v (by simp)
       rw [Ft]
       rcases FE.mp j with g | g
       ·exact Gb _ g
       ·exact FF _ (IX.mp g)
      ·intro u j v J;simp at j J;subst j J;exact c.irr
     ·refine aa ⟨G++(F0++[e]),[z],R',0,kp,by rw [ea];simp,by simpa using hp,by simp <;> lia,rfl, ?_, ?_,by simp <;> lia⟩
      ·have hm:=ii c Dj Da;simpa using hm
      ·intro u j v J;simp at j J;subst j J;exact c.irr
    ·have DI:lt z e=false:=by simpa using Dl
     refine Ff (dm c (kp.kind.trans hk) he hz Dy Dx ?_);dsimp only;refine af (fun Dz => ?_) (fun Dz => ?_)
     ·exact aa ⟨G,F0++[e],z::R',neq,kp,ea,hp,rfl,hF,hN,hE⟩
     ·have Da:lt e z=false:=by simpa using Dz
      refine aa ⟨G,(F0++[e])++[z],R',neq+1,kp,by rw [ea];simp,by simpa using hp,by simp <;> lia,by simp at hF ⊢;lia, ?_, ?_,by simp <;> lia⟩
      ·have hm:=ii c Dj Da;simpa using hm
      ·have DJ:∀ u∈F0++[e],lt u z=false:=fun u j=>by
        cases q1:lt u z with
        | false=>rfl
        | true=>rcases c.neg u e z q1 with r | r
                ·rw [hE u j e (by simp)] at r;cases r
                ·rw [Da] at r;cases r
       have DK:∀ u∈F0++[e],lt z u=false:=fun u j=>by
        cases q1:lt z u with
        | false=>rfl
        | true=>rcases c.neg z e u q1 with r | r
                ·rw [DI] at r;cases r
                ·rw [hE e (by simp) u j] at r;cases r
       intro u j v J
       rcases FE.mp j with g | g <;> rcases FE.mp J with g2 | g2
       ·exact hE u g v g2
       ·simp at g2;subst g2;exact DJ u g
       ·simp at g;subst g;exact DK v g2
       ·simp at g g2;subst g g2;exact c.irr
   ·rintro r U ⟨G,F,R,neq,kp,ea,hp,hr,hF,hN,hE,Dw⟩;exact ⟨G,F,R,neq,kp,ea,hp,hr,hF,hN,hE⟩
   ·refine ⟨B,[x],xs.drop (n+1),0,D9,by rw [e1];simp, ?_,by simp [D6],rfl, ?_, ?_,by simp [D6]⟩
    ·have h9:(B++x::xs.drop (n+1)).Perm xs:=by
      have h9:=Gs (x::xs.drop (n+1)) hB;rw [<- exs] at h9;exact h9
     simpa using h9
    ·refine Fc.mpr ⟨KU (fun j J _=>D7 _ j _ J) (List.pairwise_of_forall_mem_list (r:=fun _ _=>True) fun _ _ _ _=>trivial),by simp,fun u j v J => ?_⟩
     simp at J;subst J
     cases q1:lt u v with
     | false=>rfl
     | true=>rcases c.neg u y v q1 with r | r
             ·rw [D7 u j y D8] at r;cases r
             ·rw [c.asym _ _ DF] at r;cases r
    ·intro u j v J;simp at j J;subst j J;exact c.irr
   ·rintro r U ⟨G,F,R,neq,kp,ea,hp,rfl,hF,hN,hE⟩;dsimp -zeta -zetaHave -zetaUnused only
    extract_lets -underBinder +onlyGivenNames vr vs vn2 vq2
    dsimp -zeta -zetaHave -zetaUnused only [vr];have DL:vn2=(G++F).length:=rfl;have eq2:neq=vq2:=rfl
    clear_value vn2 vq2
    clear vs vr;subst DL eq2
    extract_lets -underBinder +onlyGivenNames Dc
    have Dg:∀ (D:List Fi) (Z:Gj),(G4 Z).toList=L++(D++R)->cN lt D->(D++R).Perm xs->D.length=(G++F).length->0 < D.length->Kp st' Z->wpS (Fz prog w) A E s (Dc ()) Q Z:=by
     intro D Z e3 Dm Dn Dd Dh Y;dsimp -zeta -zetaHave -zetaUnused only [Dc];clear Dc;have DM : 0 < D.length:=by lia
     refine Ff (ji (L:=L) (B:=D) (R:=R) e3 rfl (by rw [Dd]) fun DA e4 DB => ?_)
     have o4:Ord lt D.reverse:=LG.mpr Dm;have De:(D.reverse++R).Perm xs:=(Gs _ (JC D)).trans Dn;have DC:(D.reverse++R).length=xs.length:=De.length_eq;have Do:Ord lt ((D.reverse++R).take D.length):=by
      rw [List.take_append_of_le_length (by simp),JA (by simp)];exact o4
     have Dp:∀ u∈D.reverse++R,P u:=fun u j=>hP u (De.mem_iff.mp j);have DN:D.length<=xs.length:=by rw [<- DC];simp
     rw [<- Dd];generalize D.length=N0 at Do DM DN;generalize D.reverse++R=ys at e4 De DC Do Dp;refine Ff (az (Q:=fun r D4=>D4=DA /\ ∃ n,r=(none,n)/\1<=n/\n<=xs.length/\Ord lt (ys.take n))
      (Gh (fun i r D4=>D4=DA/\r=(none,i)/\Ord lt (ys.take i)) ?_ ?_ ⟨rfl,rfl,Do⟩) ?_)
     ·rintro i r D4 h1 hi ⟨rfl,rfl,ho⟩;dsimp only;obtain ⟨u,j⟩:∃ u,ys[i]? = some u:=⟨_,Fe (by lia)⟩
      obtain ⟨v,J⟩:∃ v,ys[i - 1]? = some v:=⟨_,Fe (by lia)⟩
      refine Ff (dm c ((Y.trans DB).kind.trans hk) ((bX e4 rfl).trans j) ((bX e4 (by lia)).trans J) (Dp _ (FT j)) (Dp _ (FT J)) ?_)
      dsimp only;refine af (fun h => ?_) (fun h => ?_)
      ·exact aa ⟨rfl,i,rfl,by lia,by lia,ho⟩
      ·exact aa ⟨rfl,rfl,ny c ho (by lia) j J (by simpa using h)⟩
     ·rintro r D4 ⟨rfl,rfl,ho⟩;exact ⟨rfl,_,rfl,by lia,by lia,ho⟩
     ·rintro r D4 ⟨rfl,m,rfl,DS,DT,ho⟩;refine aa ?_;have:=q (ys.take m) (ys.drop m) D4 (by rw [e4,Hk]) (perm_take.trans De) (fun z=>by
       have h3:=congrArg JW z;rw [FU,Ia] at h3;lia) ho (Y.trans DB)
      rw [FU,Je (by lia)] at this
      exact this
    clear_value Dc
    refine af (fun Db => ?_) (fun Db => ?_)
    ·refine Ff (ji (L:=L++G) (B:=F) (R:=R) (by rw [ea];simp) (by simp <;> lia) (by simp <;> lia) fun Z e3 Y => ?_)
     have Y:=kp.trans Y;have e3:(G4 Z).toList=L++((G++F.reverse)++R):=by rw [e3];simp
     have Dm:=pI hN hE;have Dn:((G++F.reverse)++R).Perm xs:=(Gs _ (Gg _ (JC _))).trans hp;have Dd:(G++F.reverse).length=(G++F).length:=by simp
     have Dh : 0 < (G++F.reverse).length:=by simp <;> lia
     exact Dg _ _ e3 Dm Dn Dd Dh Y
    ·exact Dg _ _ ea hN hp rfl (by simp <;> lia) kp
  clear_value jp
  refine af (fun h1 => ?_) (fun h1 => ?_)
  ·obtain ⟨x0,Dq⟩:∃ x0,xs[0]? = some x0:=⟨_,Fe Ds⟩;refine Ff (dm c hk ((bX O (n := 0) (by lia)).trans Dq) ((bX O (by lia)).trans hy) (hP _ (FT Dq)) (hP _ (FT hy)) ?_)
   dsimp only;refine af (fun hr=>aa Df) (fun hr => ?_);have hr:lt x0 y=false:=by simpa using hr
   have DD:∀ u∈xs.take n,lt u x0=false:=fun u j=>by
    obtain ⟨i,hi,eu⟩:=Hb.mp j;have Dr:(xs.take n)[i]? = some u:=by rw [<- eu];exact Fe hi
    have Di:(xs.take n)[0]? = some x0:=by rw [J3 (by lia)];exact Dq
    by_cases hi0:i=0
    ·subst hi0;rw [Di] at Dr;cases Dr;exact c.irr
    ·exact eF ho (by lia) Di Dr
   have DO:∀ u∈xs.take n,lt y u=false:=gH c ho (by lia) hy c.irr
   have heq:∀ u∈xs.take n, ∀ v∈xs.take n,lt u v=false:=fun u j v J=>by
    exact c.le_trans (c.le_trans (DO v J) hr) (DD u j)
   refine Ff (ji (L:=L) (B:=xs.take n) (R:=x::xs.drop (n+1)) (by rw [O];exact congrArg (L ++ ·) exs) rfl (by rw [FU,Je Dt]) fun D5 e1 D9 => ?_)
   have hB:(xs.take n).reverse.Perm (xs.take n):=JC _;have D6:(xs.take n).reverse.length=n:=by rw [Mt,FU];lia
   have D7:∀ u∈(xs.take n).reverse, ∀ v∈(xs.take n).reverse,lt u v=false:=fun u j v J=>heq u (IX.mp j) v (IX.mp J);have D8:y∈(xs.take n).reverse:=IX.mpr Du;exact Dv _ _ e1 hB D6 D7 D8 D9
  ·have D5:=st';have hn:n=1:=by lia
   have D9:Kp st' st':=Kp.refl;have e1:(G4 st').toList=L++(xs.take n++x::xs.drop (n+1)):=by rw [O];exact congrArg (L ++ ·) exs
   have hB:(xs.take n).Perm (xs.take n):=LW _;have D6:(xs.take n).length=n:=by rw [FU];lia
   have D8:=Du;have D7:∀ u∈xs.take n, ∀ v∈xs.take n,lt u v=false:=fun u j v J=>by
    have e0:xs.take n=[y]:=by
     subst hn;rw [cE (by lia) hy];rfl
    rw [e0] at j J;simp at j J;subst j J;exact c.irr
   exact Dv _ _ e1 hB D6 D7 D8 D9
end
end Srt
end L2
namespace L2
namespace Srt
open PySem PySem.Spec PyProof.Rows
section
variable {prog:FI} {w:G2} {A:G8} {E:gV->tv->Prop} {s:tv} {kd:J9} {P:Fi->Prop} {lt:Fi->Fi->Bool}
theorem tU (c:Cm prog w A s kd P lt) {L r R:List Fi} {n:Nat} {st:Gj} {Q:Bool->Gj->Prop} (hk:GU st=kd) (Z:(G4 st).toList=L++(r++R)) (h0:r≠[]) (ho:Ord lt r) (hn:r.length<=n) (D4:n<=(r++R).length) (hP:∀ x∈r++R,P x)
 (q:∀ r' R' st',(G4 st').toList=L++(r'++R')->(r'++R').Perm (r++R)->r'.length=n->Ord lt r'->Kp st st'->Q true st'):wpS (Fz prog w) A E s (binarySort' L.length n r.length) Q st:=by
 have Da : 0 < r.length:=Gm.mpr h0;rw [binarySort'_eq];refine Ff (az (Q:=fun x st'=>x=(none,()) /\ ∃ D T,Kp st st'/\(G4 st').toList=L++(D++T)/\(D++T).Perm (r++R)/\D.length=n/\Ord lt D)
  (Gh (fun i x st'=>x=(none,()) /\ ∃ D T,Kp st st'/\(G4 st').toList=L++(D++T)/\(D++T).Perm (r++R)/\D.length=i/\Ord lt D) ?_ ?_ ⟨rfl,r,R,Kp.refl,Z,LW _,by lia,ho⟩) ?_)
 ·rintro k x B Db Dc ⟨rfl,D,T,kp,ea,J,hD,O⟩;dsimp only;subst hD;have hlen:=J.length_eq;rw [Fk] at hlen;obtain ⟨z,T',rfl⟩:∃ z T',T=z::T':=by
   cases T with
   | nil=>simp at hlen D4;lia
   | cons z T'=>exact ⟨z,T',rfl⟩
  have D5:∀ u∈D,P u:=fun u G=>hP u (J.mem_iff.mp (Gb _ G));have D6:P z:=hP z (J.mem_iff.mp (by simp))
  have hz:(G4 B)[L.length+D.length]? = some z:=by
   rw [bX ea rfl,D2 (by lia),Kf];rfl
  refine Ff (az (Q:=fun x st'=>st'=B /\ ∃ k,x=(none,k,k)/\Gal lt false z D k k)
   (Gh (fun i x st'=>st'=B /\ ∃ lo hi,x=(none,lo,hi)/\Gal lt false z D lo hi/\hi - lo+i<=D.length) ?_ ?_ ⟨rfl,0,D.length,rfl,⟨by lia,by lia,fun _ _ h=>by lia,fun i x hi hx=>by
     have:=(FC.mp hx).1;lia⟩,by lia⟩) ?_)
  ·rintro i x U _ hi ⟨rfl,lo,j,rfl,F,hm⟩;dsimp only;have hl:=F.le;have D7:=F.len;refine af (fun D8 => ?_) (fun D8 => ?_)
   ·exact aa ⟨rfl,j,by rw [show lo=j by lia],by rw [show lo=j by lia] at F;exact F⟩
   ·obtain ⟨u,G⟩:∃ u,D[(lo+j) / 2]? = some u:=⟨_,Fe (by lia)⟩
    have D9:(G4 U)[L.length+(lo+j) / 2]? = some u:=by
     rw [bX ea rfl,Fu (by lia)];exact G
    refine Ff (dm c (kp.kind.trans hk) hz D9 D6 (D5 _ (FT G)) ?_);dsimp only;refine af (fun hf => ?_) (fun hf => ?_)
    ·exact aa ⟨rfl,_,_,rfl,⟨by lia,by lia,F.up,gG c O G (by simp [bey,hf])⟩,by lia⟩
    ·exact aa ⟨rfl,_,_,rfl,⟨by lia,D7,gF c O G (by simpa [bey] using hf),F.dn⟩,by lia⟩
  ·rintro x U ⟨rfl,lo,j,rfl,F,hm⟩;have hl:=F.le;exact ⟨rfl,j,by rw [show lo=j by lia],by rw [show lo=j by lia] at F;exact F⟩
  ·rintro x U ⟨rfl,l,rfl,F⟩;dsimp only;obtain ⟨X,Y,e,hl,hX,hY⟩:=F.out;subst hl e;rw [moveDown'_eq];refine Ff (Hn ?_);refine aa ⟨rfl,X++z::Y,T',kp.trans ⟨rfl,rfl,rfl⟩,oP ea (by simp) (by simp;lia), ?_,by simp;lia, ?_⟩
   ·refine HV.trans ?_ J;rw [Ft,Ft];refine Gg _ ?_;rw [L9];exact List.perm_middle.symm
   ·obtain ⟨o1,o2,o3⟩:=Fc.mp O;refine Fc.mpr ⟨o1,Jh.mpr ⟨fun u G=>c.asym _ _ (by have:=hY u G;simpa [bey] using this),o2⟩,fun u G v hv => ?_⟩
    rcases Fo.mp hv with g | g
    ·subst g;have:=hX u G;simpa [bey] using this
    ·exact o3 u G v g
 ·rintro x B ⟨rfl,D,T,kp,ea,J,hD,O⟩;exact ⟨rfl,D,T,kp,ea,J,by lia,O⟩
 ·rintro x B ⟨rfl,D,T,kp,ea,J,hD,O⟩;exact aa (q D T B ea J hD O kp)
noncomputable def Pd:Nat->List (List Fi)->List (Nat×Nat×Nat)->Prop
 | _,[],ps=>ps=[]
 | s,r::rs,ps => ∃ p t,ps=(s,r.length,p)::t/\Pd (s+r.length) rs t
theorem Pd.split:∀ {l t:List (List Fi)} {s:Nat} {ps:List (Nat×Nat×Nat)},Pd s (l++t) ps -> ∃ pl pt,ps=pl++pt/\pl.length=l.length/\Pd s l pl/\Pd (s+l.flatten.length) t pt
 | [],t,s,ps,h=>⟨[],ps,rfl,rfl,rfl,by simpa using h⟩
 | r::l,t,s,ps,h=>by
   obtain ⟨p,q,e,h⟩:=h;obtain ⟨pl,pt,e2,j,h1,h2⟩:=Pd.split h;refine ⟨(s,r.length,p)::pl,pt,by rw [e,e2];rfl,by simp [j],⟨p,pl,rfl,h1⟩, ?_⟩
   rw [Gq,Fk, <- MA];exact h2
theorem Pd.join:∀ {l t:List (List Fi)} {s:Nat} {pl pt:List (Nat×Nat×Nat)},Pd s l pl->Pd (s+l.flatten.length) t pt->Pd s (l++t) (pl++pt)
 | [],t,s,pl,pt,h,g=>by
  have:pl=[]:=h;subst this;simpa using g
 | r::l,t,s,pl,pt,h,g=>by
   obtain ⟨p,q,e,h⟩:=h;subst e;refine ⟨p,q++pt,rfl,Pd.join h ?_⟩;rw [Gq,Fk, <- MA] at g;exact g
theorem Pd.length:∀ {l:List (List Fi)} {s:Nat} {ps:List (Nat×Nat×Nat)},Pd s l ps->ps.length=l.length
 | [],_,_,h=>by rw [show _=[] from h];rfl
 | r::l,s,ps,h=>by
   obtain ⟨p,q,e,h⟩:=h;rw [e];simp [h.length]
structure Rn (lt:Fi->Fi->Bool) (kd:J9) (a₀:List Fi) (st:Gj) (rs:List (List Fi)) (R:List Fi):Prop where
 arr:(G4 st).toList=rs.flatten++R
 perm:(rs.flatten++R).Perm a₀
 ord:∀ r∈rs,r≠[]/\Ord lt r
 pend:Pd 0 rs (Fx st).toList
 kind:GU st=kd
 fail:HF st=none
theorem Rn.merge (c:Cm prog w A s kd P lt) {a₀:List Fi} (hP:∀ x∈a₀,P x) {st:Gj} {l t:List (List Fi)} {j F R:List Fi} (h:Rn lt kd a₀ st (l++j::F::t) R) {i:Nat} (hi:i=l.length) {Q:Bool->Gj->Prop}
 (q:∀ m st',Rn lt kd a₀ st' (l++m::t) R->m.length=j.length+F.length->Q true st'):wpS (Fz prog w) A E s (Ov i) Q st:=by
 obtain ⟨g,lo,D9,⟨O,U,Y⟩,Z⟩:=C4 (E:=E) c;obtain ⟨pl,pt,ep,J,D4,D5⟩:=h.pend.split;obtain ⟨L,t1,e1,D6⟩:=D5;obtain ⟨p2,t2,e2,D7⟩:=D6;subst e1 e2;have o1:=h.ord j (by simp)
 have o2:=h.ord F (by simp)
 have G:∀ x,x∈j∨x∈F->P x:=fun x hx=>hP x (h.perm.mem_iff.mp (by simp only [HG,Gq,FE];rcases hx with z | z <;> simp [z]))
 have ip:∀ (k:Nat) (v:Nat×Nat×Nat),(Fx st).toList[k]? = some v->(Fx st)[k]? = some v:=fun k v e=>by rw [<- FG];exact e
 refine Z O (U O) (Y O) i (0+l.flatten.length) j.length L (0+l.flatten.length+j.length) F.length p2 l.flatten j F (t.flatten++R) st Q h.kind h.fail (ip _ _ ?_) (ip _ _ ?_) (by rw [h.arr];simp) (Kg _) rfl (by lia) rfl o1.1 o2.1 (fun x hx=>G x (.inl hx)) (fun x hx=>G x (.inr hx)) o1.2 o2.2 ?_
 ·rw [ep,hi, <- J,D2 (by lia),Kf];rfl
 ·rw [ep,hi, <- J,D2 (by lia),show pl.length+1 - pl.length=1 by lia];rfl
 ·intro m st' ea hm om hk hf D8;have B:m.length=j.length+F.length:=by rw [hm.length_eq];simp
  refine q m st' ⟨by rw [ea];simp, ?_, ?_, ?_,hk,hf⟩ B
  ·refine HV.trans ?_ h.perm;simp only [HG,Gq,Ft];refine Gg _ ?_;rw [<- Ft j];exact Gs _ hm
  ·intro r hr
   rcases FE.mp hr with z | z
   ·exact h.ord r (Gb _ z)
   ·rcases Fo.mp z with z | z
    ·subst z;exact ⟨fun z=>by rw [z] at B;have:=Gm.mpr o1.1;simp at B;lia,om⟩
    ·exact h.ord r (by simp [z])
  ·rw [D8];have e3:(((Fx st).setIfInBounds i (0+l.flatten.length,j.length+F.length,L)).eraseIdxIfInBounds (i+1)).toList=pl++(0+l.flatten.length,j.length+F.length,L)::t2:=by
    rw [Array.toList_eraseIdxIfInBounds,Ku,ep,hi, <- J];rw [List.set_append_right _ _ (by lia),Kf,List.eraseIdx_append_of_length_le (by lia),show pl.length+1 - pl.length=1 by lia];rfl
   rw [e3];refine D4.join ⟨L,t2,by rw [B], ?_⟩
   rw [B, <- MA];exact D7
theorem nA {α:Type} {l:List α} (h : 1 < l.length):∃ t a b,l=t++[a,b]:=by
 obtain ⟨t1,b,e1⟩:∃ t b,l=t++[b]:=⟨l.dropLast,l.getLast (fun z=>by rw [z] at h;simp at h),(HB _).symm⟩
 obtain ⟨j,a,e2⟩:∃ t b,t1=t++[b]:=⟨t1.dropLast,t1.getLast (fun z=>by rw [e1,z] at h;simp at h),(HB _).symm⟩
 exact ⟨j,a,b,by rw [e1,e2];simp⟩
theorem AW {α:Type} {l:List α} {i:Nat} (h:i+1 < l.length):∃ t a b u,l=t++a::b::u/\t.length=i:=by
 refine ⟨l.take i,l[i],l[i+1],l.drop (i+2), ?_,by rw [FU];lia⟩
 rw [<- GS (by lia), <- GS (by lia),Hk]
theorem Rn.size {a₀:List Fi} {st:Gj} {rs:List (List Fi)} {R:List Fi} (h:Rn lt kd a₀ st rs R):rs.flatten.length+R.length=a₀.length:=by
 have:=h.perm.length_eq;rw [Fk] at this;exact this
theorem pJ:∀ {rs:List (List Fi)},(∀ r∈rs,r≠[])->rs.length<=rs.flatten.length
 | [],_=>by simp
 | r::rs,h=>by
   have h1:=Gm.mpr (h r (by simp))
   have h2:=pJ (rs:=rs) fun r j=>h r (by simp [j])
   rw [Gq,Fk,GQ];lia
theorem tV {l:List (List Fi)} {s pw:Nat} {ps:Array (Nat×Nat×Nat)} (h:Pd s l ps.toList):Pd s l (ps.modify (ps.size - 1) fun x=>(x.1,x.2.1,pw)).toList:=by
 rw [Array.toList_modify];have g:∀ (l:List (List Fi)) (s k:Nat) (ps:List (Nat×Nat×Nat)),Pd s l ps->Pd s l (ps.modify k fun x=>(x.1,x.2.1,pw)):=by
  intro l
  induction l with
  | nil=>intro s k ps h;have:ps=[]:=h;subst this;cases k <;> rfl
  | cons r l ih =>
    intro s k ps h;obtain ⟨p,t,e,h⟩:=h;subst e
    cases k with
    | zero=>exact ⟨pw,t,rfl,h⟩
    | succ k=>exact ⟨p,_,rfl,ih _ k t h⟩
 exact g _ _ _ _ h
theorem oR (c:Cm prog w A s kd P lt) {st:Gj} {Q:Unit->Gj->Prop} (hk:GU st=kd) (hf:HF st=none) (hp:Fx st = #[]) (hP:∀ x∈(G4 st).toList,P x)
 (q:∀ st',(G4 st').toList.Perm (G4 st).toList->Ord lt (G4 st').toList->HF st'=none->Q () st'):wpS (Fz prog w) A E s sortRuns' Q st:=by
 rw [sortRuns'_eq];refine Ff (Jd ?_)
 try dsimp only
 have hsz:(G4 st).size=(G4 st).toList.length:=by simp
 generalize hA:(G4 st).toList=a₀ at hP q hsz;generalize hS:(G4 st).size=size at hsz;generalize minRun' size size 0=minrun;refine Ff (az (Q:=fun r st' => ∃ rs lo,r=(none,lo)/\Rn lt kd a₀ st' rs [])
  (Gh (fun i r st' => ∃ rs R,r=(none,rs.flatten.length)/\Rn lt kd a₀ st' rs R/\i<=rs.flatten.length) ?_ ?_ ⟨[],a₀,rfl,⟨by simpa using hA,by simp,by simp,by rw [hp];rfl,hk,hf⟩,by simp⟩) ?_)
 ·rintro i r Db _ hi ⟨rs,R,rfl,L,D8⟩
  try dsimp only
  have Dn:=L.size;refine af (fun Dj => ?_) (fun Dj => ?_)
  ·have:R=[]:=G6.mp (by lia)
   subst this;exact aa ⟨rs,_,rfl,L⟩
  ·have Dc:size - rs.flatten.length=R.length:=by lia
   have Dl:R≠[]:=fun z=>by rw [z,Ia] at Dc;lia
   have Dd:∀ x∈R,P x:=fun x hx=>hP x (L.perm.mem_iff.mp (FF _ hx));rw [Dc];refine Ff (oQ c L.kind L.arr Dl Dd fun r R1 J ea D4 U ho kp => ?_)
   try dsimp only
   have F:Rn lt kd a₀ J rs (r++R1):=⟨ea,(Gg _ D4).trans L.perm,L.ord,by rw [kp.pend];exact L.pend,kp.kind.trans L.kind,kp.fail.trans L.fail⟩
   have De:r.length+R1.length=R.length:=by rw [<- D4.length_eq];simp
   refine af (fun D9 => ?_) (fun D9 => ?_)
   ·refine Ff (cD ?_);refine Ff (tU c F.kind F.arr U ho (n:=min R.length minrun) (by lia) (by simp;lia) (fun x hx=>Dd x (D4.mem_iff.mp hx)) fun r2 R2 B Df D7 G Dm D6 => ?_)
    try dsimp only
    refine af (fun h=>absurd h (by simp)) (fun _ => ?_)
    have Dg:r2≠[]:=fun z=>by
     rw [z] at G;simp at G;have:=Gm.mpr U;lia
    have F:Rn lt kd a₀ B rs (r2++R2):=⟨Df,(Gg _ D7).trans F.perm,F.ord,by rw [D6.pend];exact F.pend,D6.kind.trans F.kind,D6.fail.trans F.fail⟩
    rw [<- G];clear G D7 Df D6 ea D4 kp De D9;generalize B=J at F;clear ho U;have ho:=Dm;have U:=Dg;generalize r2=r at F ho U;generalize R2=R1 at F;refine Ff (Jd ?_)
    try dsimp only
    have Dh:(Fx J).size=rs.length:=by rw [<- FL];exact F.pend.length
    cases hb:(Fx J).back? with
    | none =>
      try dsimp only
      have HL:rs.flatten.length=rs.flatten.length:=rfl;refine Ff (Hn ?_);have Da:=Gm.mpr U;have Y:(rs++[r]).flatten.length=rs.flatten.length+r.length:=by rw [HG,Fk,HL];simp
      refine aa ⟨rs++[r],R1,by rw [Y],⟨by rw [show _=_ from F.arr];simp, ?_, ?_, ?_,F.kind,F.fail⟩,by rw [Y];lia⟩
      ·refine HV.trans (ID (by simp)) F.perm
      ·intro u hu
       rcases FE.mp hu with z | z
       ·exact F.ord u z
       ·simp at z;subst z;exact ⟨U,ho⟩
      ·have h8:(Fx (Ji J ((Fx J).push (rs.flatten.length,r.length,0)))).toList=(Fx J).toList++[(rs.flatten.length,r.length,0)]:=by
        show ((Fx J).push _).toList=_;rw [Fv]
       rw [show _=_ from h8];exact F.pend.join ⟨0,[],by rw [HL,Kg],rfl⟩
    | some v =>
      obtain ⟨s1,n1,p1⟩:=v
      try dsimp only
      refine Ff (az (Q:=fun x st'=>x=(none,()) /\ ∃ rs',Rn lt kd a₀ st' rs' (r++R1)/\rs'.flatten.length=rs.flatten.length)
       (Gh (fun i x st'=>x=(none,()) /\ ∃ rs',Rn lt kd a₀ st' rs' (r++R1)/\rs'.flatten.length=rs.flatten.length) ?_ ?_ ⟨rfl,rs,F,rfl⟩) ?_)
      ·rintro j x B _ hj ⟨rfl,rs',O,G⟩;refine Ff (Jd ?_)
       try dsimp only
       have D5:(Fx B).size=rs'.length:=by rw [<- FL];exact O.pend.length
       by_cases h1:(Fx B).size > 1
       ·rw [if_pos h1];have h2:(Fx B)[(Fx B).size - 2]? = some ((Fx B)[(Fx B).size - 2]'(by lia)):=FH (by lia)
        rw [h2]
        try dsimp only
        refine af (fun h => ?_) (fun h => ?_)
        ·exact aa ⟨rfl,rs',O,G⟩
        ·obtain ⟨t,a,b,e⟩:=nA (l:=rs') (by lia)
         subst e;refine Ff (O.merge c hP (by rw [D5];simp) fun m Z h4 hm => ?_)
         refine af (fun h=>absurd h (by simp)) (fun _=>aa ⟨rfl,_,h4, ?_⟩)
         rw [<- G];simp [hm]
       ·rw [if_neg h1];exact aa ⟨rfl,rs',O,G⟩
      ·rintro x B ⟨rfl,rs',O,G⟩;exact ⟨rfl,rs',O,G⟩
      ·rintro x B ⟨rfl,rs',O,G⟩
       try dsimp only
       refine Ff (Hn ?_);have h4:Rn lt kd a₀ (Ji B ((Fx B).modify ((Fx B).size - 1) fun x=>(x.1,x.2.1,power' size (2*s1+n1) (2*s1+n1+n1+r.length) size))) rs' (r++R1):=⟨O.arr,O.perm,O.ord,tV O.pend,O.kind,O.fail⟩;generalize Di:Ji B ((Fx B).modify ((Fx B).size - 1) fun x=>(x.1,x.2.1,power' size (2*s1+n1) (2*s1+n1+n1+r.length) size))=Z at h4;have HL:=G;refine Ff (Hn ?_);have Da:=Gm.mpr U;have Y:(rs'++[r]).flatten.length=rs.flatten.length+r.length:=by rw [HG,Fk,HL];simp
       refine aa ⟨rs'++[r],R1,by rw [Y],⟨by rw [show _=_ from h4.arr];simp, ?_, ?_, ?_,h4.kind,h4.fail⟩,by rw [Y];lia⟩
       ·refine HV.trans (ID (by simp)) h4.perm
       ·intro u hu
        rcases FE.mp hu with z | z
        ·exact h4.ord u z
        ·simp at z;subst z;exact ⟨U,ho⟩
       ·have h8:(Fx (Ji Z ((Fx Z).push (rs.flatten.length,r.length,0)))).toList=(Fx Z).toList++[(rs.flatten.length,r.length,0)]:=by
         show ((Fx Z).push _).toList=_;rw [Fv]
        rw [show _=_ from h8];exact h4.pend.join ⟨0,[],by rw [HL,Kg],rfl⟩
   ·clear ea D4 kp De D9;refine Ff (Jd ?_)
    try dsimp only
    have Dh:(Fx J).size=rs.length:=by rw [<- FL];exact F.pend.length
    cases hb:(Fx J).back? with
    | none =>
      try dsimp only
      have HL:rs.flatten.length=rs.flatten.length:=rfl;refine Ff (Hn ?_);have Da:=Gm.mpr U;have Y:(rs++[r]).flatten.length=rs.flatten.length+r.length:=by rw [HG,Fk,HL];simp
      refine aa ⟨rs++[r],R1,by rw [Y],⟨by rw [show _=_ from F.arr];simp, ?_, ?_, ?_,F.kind,F.fail⟩,by rw [Y];lia⟩
      ·refine HV.trans (ID (by simp)) F.perm
      ·intro u hu
       rcases FE.mp hu with z | z
       ·exact F.ord u z
       ·simp at z;subst z;exact ⟨U,ho⟩
      ·have h8:(Fx (Ji J ((Fx J).push (rs.flatten.length,r.length,0)))).toList=(Fx J).toList++[(rs.flatten.length,r.length,0)]:=by
        show ((Fx J).push _).toList=_;rw [Fv]
       rw [show _=_ from h8];exact F.pend.join ⟨0,[],by rw [HL,Kg],rfl⟩
    | some v =>
      obtain ⟨s1,n1,p1⟩:=v
      try dsimp only
      refine Ff (az (Q:=fun x st'=>x=(none,()) /\ ∃ rs',Rn lt kd a₀ st' rs' (r++R1)/\rs'.flatten.length=rs.flatten.length)
       (Gh (fun i x st'=>x=(none,()) /\ ∃ rs',Rn lt kd a₀ st' rs' (r++R1)/\rs'.flatten.length=rs.flatten.length) ?_ ?_ ⟨rfl,rs,F,rfl⟩) ?_)
      ·rintro j x B _ hj ⟨rfl,rs',O,G⟩;refine Ff (Jd ?_)
       try dsimp only
       have D5:(Fx B).size=rs'.length:=by rw [<- FL];exact O.pend.length
       by_cases h1:(Fx B).size > 1
       ·rw [if_pos h1];have h2:(Fx B)[(Fx B).size - 2]? = some ((Fx B)[(Fx B).size - 2]'(by lia)):=FH (by lia)
        rw [h2]
        try dsimp only
        refine af (fun h => ?_) (fun h => ?_)
        ·exact aa ⟨rfl,rs',O,G⟩
        ·obtain ⟨t,a,b,e⟩:=nA (l:=rs') (by lia)
         subst e;refine Ff (O.merge c hP (by rw [D5];simp) fun m Z h4 hm => ?_)
         refine af (fun h=>absurd h (by simp)) (fun _=>aa ⟨rfl,_,h4, ?_⟩)
         rw [<- G];simp [hm]
       ·rw [if_neg h1];exact aa ⟨rfl,rs',O,G⟩
      ·rintro x B ⟨rfl,rs',O,G⟩;exact ⟨rfl,rs',O,G⟩
      ·rintro x B ⟨rfl,rs',O,G⟩
       try dsimp only
       refine Ff (Hn ?_);have h4:Rn lt kd a₀ (Ji B ((Fx B).modify ((Fx B).size - 1) fun x=>(x.1,x.2.1,power' size (2*s1+n1) (2*s1+n1+n1+r.length) size))) rs' (r++R1):=⟨O.arr,O.perm,O.ord,tV O.pend,O.kind,O.fail⟩;generalize Di:Ji B ((Fx B).modify ((Fx B).size - 1) fun x=>(x.1,x.2.1,power' size (2*s1+n1) (2*s1+n1+n1+r.length) size))=Z at h4;have HL:=G;refine Ff (Hn ?_);have Da:=Gm.mpr U;have Y:(rs'++[r]).flatten.length=rs.flatten.length+r.length:=by rw [HG,Fk,HL];simp
       refine aa ⟨rs'++[r],R1,by rw [Y],⟨by rw [show _=_ from h4.arr];simp, ?_, ?_, ?_,h4.kind,h4.fail⟩,by rw [Y];lia⟩
       ·refine HV.trans (ID (by simp)) h4.perm
       ·intro u hu
        rcases FE.mp hu with z | z
        ·exact h4.ord u z
        ·simp at z;subst z;exact ⟨U,ho⟩
       ·have h8:(Fx (Ji Z ((Fx Z).push (rs.flatten.length,r.length,0)))).toList=(Fx Z).toList++[(rs.flatten.length,r.length,0)]:=by
         show ((Fx Z).push _).toList=_;rw [Fv]
        rw [show _=_ from h8];exact h4.pend.join ⟨0,[],by rw [HL,Kg],rfl⟩
 ·rintro r Db ⟨rs,R,rfl,L,D8⟩;have:=L.size;have:R=[]:=G6.mp (by lia)
  subst this;exact ⟨rs,_,rfl,L⟩
 ·rintro r Db ⟨rs,lo,rfl,L⟩
  try dsimp only
  refine Ff (az (Q:=fun r st'=>r=(none,()) /\ ∃ rs,Rn lt kd a₀ st' rs []/\rs.length<=1)
   (Gh (fun i r st'=>r=(none,()) /\ ∃ rs,Rn lt kd a₀ st' rs []/\rs.length+i<=size) ?_ ?_ ⟨rfl,rs,L, ?_⟩) ?_)
  ·rintro i r J _ hi ⟨rfl,rs,L,D8⟩;refine Ff (Jd ?_)
   try dsimp only
   have Dh:(Fx J).size=rs.length:=by rw [<- FL];exact L.pend.length
   refine af (fun h => ?_) (fun h => ?_)
   ·exact aa ⟨rfl,rs,L,by lia⟩
   ·have go:∀ k,k+1 < rs.length->wpS (Fz prog w) A E s (Ov k) (fun b st'=>b=true /\ ∃ rs',Rn lt kd a₀ st' rs' []/\rs'.length+1=rs.length) J:=by
     intro k hk;obtain ⟨t,a,b,u,e,ht⟩:=AW hk;subst e;refine L.merge c hP ht.symm fun m B O _=>⟨rfl,_,O,by simp;lia⟩
    refine Ff (az (go _ ?_) ?_)
    ·(repeat' split) <;> lia
    ·rintro b B ⟨rfl,rs',O,G⟩;refine af (fun h=>absurd h (by simp)) (fun _=>aa ⟨rfl,rs',O,by lia⟩)
  ·rintro r J ⟨rfl,rs,L,D8⟩;exact ⟨rfl,rs,L,by lia⟩
  ·have h1:=pJ fun r hr=>(L.ord r hr).1;have h2:=L.size;simp only [Ia] at h2;lia
  ·rintro r J ⟨rfl,rs,L,hl⟩;refine aa (q J (by rw [L.arr];exact L.perm) ?_ L.fail)
   rw [L.arr,GB]
   match rs,hl,L with
   | [],_,_=>exact KJ
   | [r],_,L=>simpa using (L.ord r (by simp)).2
end
end Srt
end L2
namespace L2
namespace Srt
open PySem PySem.Spec PyProof.Rows
def gI (cap:Nat):Prop := ∀ (prog:FI) (w:G2) (A:G8) (E:gV->tv->Prop) (s:tv) (kd:J9) (P:Fi->Prop) (lt:Fi->Fi->Bool),Cm prog w A s kd P lt -> ∀ (st:Gj) (Q:Unit->Gj->Prop),GU st=kd->HF st=none->Fx st = #[]->(∀ x∈(G4 st).toList,P x)->2<=(G4 st).size->(G4 st).size<=cap ->
 (∀ st',(G4 st').toList.Perm (G4 st).toList->Ord lt (G4 st').toList->HF st'=none->Q () st')->wpS (Fz prog w) A E s sortRuns' Q st
theorem jj {cap:Nat}:gI cap:=fun _ _ _ _ _ _ _ _ c _ _ j hf z B _ _ q=>oR c j hf z B q
end Srt
end L2
namespace L2
namespace Srt
open PySem PySem.Spec PyProof.Rows
inductive Ky where
 | int (i:Int)
 | tup (l:List Ky)
mutual
noncomputable def aq:Ky->Ky->Ordering
 | .int a, .int b=>if a < b then .lt else if a=b then .eq else .gt
 | .int _, .tup _ => .lt
 | .tup _, .int _ => .gt
 | .tup a, .tup b=>cmpKs a b
noncomputable def cmpKs:List Ky->List Ky->Ordering
 | [],[] => .eq
 | [],_::_ => .lt
 | _::_,[] => .gt
 | x::xs,y::ys=>(aq x y).then (cmpKs xs ys)
end
mutual
theorem cO:∀ a b,aq b a=(aq a b).swap
 | .int a, .int b=>by
  simp only [aq]
  by_cases h1:a < b
  ·rw [if_pos h1,if_neg (by lia),if_neg (by lia)];rfl
  ·by_cases h2:a=b
   ·rw [if_neg h1,if_pos h2,if_neg (by lia),if_pos h2.symm];rfl
   ·rw [if_neg h1,if_neg h2,if_pos (by lia)];rfl
 | .int _, .tup _=>by simp [aq]
 | .tup _, .int _=>by simp [aq]
 | .tup a, .tup b=>by simp only [aq];exact cmpKs_swap a b
theorem cmpKs_swap:∀ a b,cmpKs b a=(cmpKs a b).swap
 | [],[] => rfl
 | [],_::_=>rfl
 | _::_,[] => rfl
 | x::xs,y::ys=>by
   simp only [cmpKs];rw [cO x y,cmpKs_swap xs ys]
   cases aq x y <;> rfl
end
mutual
theorem gJ:∀ a b,aq a b = .eq->a=b
 | .int a, .int b,h=>by
  simp only [aq] at h
  by_cases h1:a < b
  ·rw [if_pos h1] at h;cases h
  ·by_cases h2:a=b
   ·rw [h2]
   ·rw [if_neg h1,if_neg h2] at h;cases h
 | .int _, .tup _,h=>by simp [aq] at h
 | .tup _, .int _,h=>by simp [aq] at h
 | .tup a, .tup b,h=>by simp only [aq] at h;rw [cmpKs_eq a b h]
theorem cmpKs_eq:∀ a b,cmpKs a b = .eq->a=b
 | [],[],_=>rfl
 | [],_::_,h=>by simp [cmpKs] at h
 | _::_,[],h=>by simp [cmpKs] at h
 | x::xs,y::ys,h=>by
   simp only [cmpKs] at h
   cases e:aq x y with
   | lt=>rw [e] at h;cases h
   | gt=>rw [e] at h;cases h
   | eq=>rw [e] at h;rw [gJ x y e,cmpKs_eq xs ys h]
end
mutual
theorem jk:∀ a b c,aq a b = .lt->aq b c = .lt->aq a c = .lt
 | .int a, .int b, .int c,h,g=>by
  simp only [aq] at h g ⊢;have h1:a < b:=by
   by_cases h1:a < b
   ·exact h1
   ·rw [if_neg h1] at h;split at h <;> cases h
  have h2:b < c:=by
   by_cases h1:b < c
   ·exact h1
   ·rw [if_neg h1] at g;split at g <;> cases g
  rw [if_pos (by lia)]
 | .int _, .tup _, .int _,_,g=>by simp [aq] at g
 | .int _, .int _, .tup _,_,_=>by simp [aq]
 | .int _, .tup _, .tup _,_,_=>by simp [aq]
 | .tup _, .int _,_,h,_=>by simp [aq] at h
 | .tup _, .tup _, .int _,_,g=>by simp [aq] at g
 | .tup a, .tup b, .tup c,h,g=>by simp only [aq] at h g ⊢;exact cmpKs_trans a b c h g
theorem cmpKs_trans:∀ a b c,cmpKs a b = .lt->cmpKs b c = .lt->cmpKs a c = .lt
 | [],[],_,h,_=>by simp [cmpKs] at h
 | [],_::_,[],_,g=>by simp [cmpKs] at g
 | [],_::_,_::_,_,_=>by simp [cmpKs]
 | _::_,[],_,h,_=>by simp [cmpKs] at h
 | _::_,_::_,[],_,g=>by simp [cmpKs] at g
 | x::xs,y::ys,z::zs,h,g=>by
   simp only [cmpKs] at h g ⊢
   cases e:aq x y with
   | gt=>rw [e] at h;cases h
   | eq =>
     have:=gJ x y e;subst this;rw [e] at h
     cases e2:aq x z with
     | gt=>rw [e2] at g;cases g
     | lt=>rfl
     | eq=>rw [e2] at g;exact cmpKs_trans xs ys zs h g
   | lt =>
     cases e2:aq y z with
     | gt=>rw [e2] at g;cases g
     | lt=>rw [jk x y z e e2];rfl
     | eq =>
       have:=gJ y z e2;subst this;rw [e];rfl
end
noncomputable def ltK (a b:Ky):Bool:=aq a b == .lt
noncomputable def nB (a b:List Ky):Bool:=cmpKs a b == .lt
theorem ik (a b:Ky) (h:ltK a b=true):ltK b a=false:=by
 unfold ltK at h ⊢;rw [cO a b,(by simpa using h:aq a b = .lt)];rfl
theorem fM (a b:Ky) (h:ltK a b=false) (g:ltK b a=false):a=b:=by
 unfold ltK at h g;rw [cO a b] at g;apply gJ
 cases e:aq a b with
 | eq=>rfl
 | lt=>rw [e] at h;cases h
 | gt=>rw [e] at g;cases g
theorem zg (a b c:Ky) (h:ltK a c=true):ltK a b=true∨ltK b c=true:=by
 cases e:ltK a b with
 | true=>exact .inl rfl
 | false =>
   right
   cases e2:ltK b a with
   | false=>rw [fM a b e e2] at h;exact h
   | true =>
     unfold ltK at h e2 ⊢;rw [jk b a c (by simpa using e2) (by simpa using h)];rfl
theorem tW (x y:Ky) (xs ys:List Ky):nB (x::xs) (y::ys)=if (!ltK x y && !ltK y x)=true then nB xs ys else ltK x y:=by
 unfold nB ltK;rw [cO x y];simp only [cmpKs]
 cases aq x y <;> simp
mutual
noncomputable def toK:GA->Ky
 | .int i => .int i
 | .tuple xs => .tup (toKs xs)
 | _ => .int 0
noncomputable def toKs:List GA->List Ky
 | [] => []
 | x::xs=>toK x::toKs xs
end
inductive Cmpb:GA->GA->Prop where
 | int (a b:Int):Cmpb (.int a) (.int b)
 | nil (ys:List GA):Cmpb (.tuple []) (.tuple ys)
 | nil' (xs:List GA):Cmpb (.tuple xs) (.tuple [])
 | cons {x y:GA} {xs ys:List GA}:Cmpb x y->Cmpb (.tuple xs) (.tuple ys)->Cmpb (.tuple (x::xs)) (.tuple (y::ys))
theorem Cmpb.eqv {x y:GA} (h:Cmpb x y):Ga x y=(!ltK (toK x) (toK y) && !ltK (toK y) (toK x)):=by
 have g:∀ {x y:GA},Cmpb x y->Ga x y=(aq (toK x) (toK y) == .eq):=by
  intro x y h
  induction h with
  | int a b =>
    simp only [Ga,toK,aq]
    by_cases h1:a < b
    ·rw [if_pos h1];simp;lia
    ·by_cases h2:a=b
     ·rw [if_neg h1,if_pos h2];simp [h2]
     ·rw [if_neg h1,if_neg h2];simp;lia
  | nil ys=>cases ys <;> simp [Ga,GN,toK,toKs,aq,cmpKs]
  | nil' xs=>cases xs <;> simp [Ga,GN,toK,toKs,aq,cmpKs]
  | @cons x y xs ys h1 h2 ih1 j =>
   simp only [Ga] at j ⊢;simp only [GN,toK,toKs,aq,cmpKs] at j ⊢;rw [ih1,j]
   cases aq (toK x) (toK y) <;> simp
 rw [g h];unfold ltK;rw [cO (toK x) (toK y)]
 cases aq (toK x) (toK y) <;> rfl
section
variable {prog:FI} {w:G2} {A:G8} {E:gV->tv->Prop} {s:tv}
theorem trd {b:Bool} {Q:Bool->tv->Prop} (q:Q b s):Fq (Fz prog w) A (truthOfDropped (.bool b)) Q E s:=by
 unfold truthOfDropped
 wp_walk
 exact q
theorem gK (a b:Int):ltK (.int a) (.int b)=decide (a < b):=by
 simp only [ltK,aq]
 by_cases h:a < b
 ·simp [h]
 ·by_cases h2:a=b <;> simp [h,h2]
theorem tX {a b:Int} {t u:Tok} {Q:gV->tv->Prop} (q:Q (.bool (decide (a < b))) s):Fq (Fz prog w) A (NZ .Lt (.int a t) (.int b u)) Q E s :=
 wpAny_richCompare_same (T := "int") rfl rfl F.slot_int_lt (call_int_lt ⟨by simp,q⟩)
noncomputable def bZ:List GA->List GA->Option Bool
 | x::xs,y::ys=>if Ga x y=true then bZ xs ys else some (ltK (toK x) (toK y))
 | _,_=>none
theorem io:∀ {xs ys:List GA},Cmpb (.tuple xs) (.tuple ys)->ltK (toK (.tuple xs)) (toK (.tuple ys))=match bZ xs ys with | some b=>b | none=>decide (xs.length < ys.length)
 | [],[],_=>rfl
 | [],_::_,_=>by simp [bZ,toK,toKs,ltK,aq,cmpKs]
 | _::_,[],_=>by simp [bZ,toK,toKs,ltK,aq,cmpKs]
 | x::xs,y::ys,h=>by
   cases h with
   | cons h1 h2 =>
     have ih:=io h2;have e:∀ a b:List Ky,ltK (.tup a) (.tup b)=nB a b:=fun a b=>by simp [ltK,nB,aq]
     simp only [toK,toKs,e] at ih ⊢;rw [tW, <- h1.eqv];simp only [bZ]
     split
     ·rw [ih];simp
     ·rfl
noncomputable def cm {α β:Type} (M:JH) (A:G8) (E:gV->tv->Prop) (f : α -> β -> Sem (ForInStep β)) (Q : β -> tv->Prop):List α -> β -> tv->Prop
 | [],c,s=>Q c s
 | x::xs,c,s=>Fq M A (f x c) (fun r s'=>match r with | .done c'=>Q c' s' | .yield c'=>cm M A E f Q xs c' s') E s
theorem fe {α β:Type} {M:JH} {f : α -> β -> Sem (ForInStep β)} {Q : β -> tv->Prop}:∀ {l:List α} {c : β} {s:tv},cm M A E f Q l c s->Fq M A (forIn l c f) Q E s
 | [],c,s,h=>by rw [List.forIn_nil];exact D1 h
 | x::xs,c,s,h=>by
   rw [K5];refine e6 (Gw h (fun r s' j => ?_) fun _ _ z=>z)
   cases r with
   | done c'=>exact D1 j
   | yield c'=>exact fe j
theorem bM {h:Heap}:∀ {vs:List gV} {xs:List GA} {as:List Addr},LS h vs xs as->vs.length=xs.length
 | _,_,_, .nil=>rfl
 | _,_,_, .cons _ r=>by simp [bM r]
theorem iq {α β:Type} {M:JH} {n:Nat} {f : α -> Option β × Unit->Sem (ForInStep (Option β × Unit))} {g:Bool -> β} {pr : α -> gV×gV} {Q:Option β × Unit->tv->Prop} :
 ∀ {l:List α} {vs us:List gV} {xs ys:List GA} {as bs:List Addr},l.map pr=vs.zip us->LS s.heap vs xs as->LS s.heap us ys bs->Cmpb (.tuple xs) (.tuple ys)->GH xs=true->GH ys=true->HA xs<=n ->
  (∀ (z : α) (x y:gV) (d e:GA) (as bs:List Addr) (R:ForInStep (Option β × Unit)->tv->Prop),z∈l->pr z=(x,y)->J8 s.heap x d as->J8 s.heap y e bs->Cmpb d e->d.canLay0=true->e.canLay0=true->d.depth<=n ->
   R (if Ga d e=true then .yield (none,()) else .done (some (g (ltK (toK d) (toK e))),())) s->Fq M A (f z (none,())) R E s) ->
  Q ((bZ xs ys).map g,()) s->cm M A E f Q l (none,()) s
 | [],vs,us,xs,ys,as,bs,e,j,B,F,_,_,_,_,q=>by
  have h1:=bM j;have h2:=bM B;have:vs=[]∨us=[]:=by
   cases vs with
   | nil=>exact .inl rfl
   | cons v vs=>cases us with
     | nil=>exact .inr rfl
     | cons u us=>simp at e
  have e2:bZ xs ys=none:=by
   rcases this with rfl | rfl
   ·cases xs with
    | nil=>simp [bZ]
    | cons x xs=>simp at h1
   ·cases ys with
    | nil=>cases xs <;> simp [bZ]
    | cons y ys=>simp at h2
  rw [e2] at q;exact q
 | z::l,vs,us,xs,ys,as,bs,e,j,B,F,lx,ly,hd,hf,q=>by
   cases j with
   | nil=>simp at e
   | cons rx j =>
     cases B with
     | nil=>simp at e
     | cons ry B =>
       simp only [FJ,List.zip_cons_cons,LC] at e;simp only [GH,D0] at lx ly;simp only [HA] at hd
       cases F with
       | cons c1 c2 =>
         simp only [cm];refine hf z _ _ _ _ _ _ _ (by simp) e.1 rx ry c1 lx.1 ly.1 (by lia) ?_
         simp only [bZ] at q
         split at q
         ·next h =>
          rw [if_pos h];exact iq e.2 j B c2 lx.2 ly.2 (by lia) (fun z x y d e as bs R G=>hf z x y d e as bs R (by simp [G])) q
         ·next h =>
          rw [if_neg h];exact q
def CO (n:Nat):Prop := ∀ (prog:FI) (w:G2) (A:G8) (s:tv) (a b:gV) (d e:GA) (as bs:List Addr) (E:gV->tv->Prop) (Q:gV->tv->Prop),d.depth<=n->Cmpb d e->J8 s.heap a d as->J8 s.heap b e bs->d.canLay0=true->e.canLay0=true->A.units+n+1 < HQ ->
 Q (.bool (ltK (toK d) (toK e))) s->Fq (Fz prog w) A (NZ .Lt a b) Q E s
theorem C5:∀ n,CO n:=by
 intro n
 induction n with
 | zero =>
   intro prog w A s a b d e as bs E Q hd z ra rb ld le Y q
   cases z with
   | int i j =>
     cases ra;cases rb
     exact tX (by rw [<- gK];exact q)
   | nil ys=>simp [Iz] at hd
   | nil' xs=>simp [Iz] at hd
   | cons _ _=>simp [Iz] at hd
 | succ n ih =>
   intro prog w A s a b d e as bs E Q hd z ra rb ld le Y q;have tup:∀ xs ys,d = .tuple xs->e = .tuple ys->Fq (Fz prog w) A (NZ .Lt a b) Q E s:=by
    rintro xs ys rfl rfl
    cases ra with
    | tuple h1 h2 Z G =>
      cases rb with
      | tuple g1 g2 g3 J =>
        rename_i l ol vl nl p ob vb nb;have tl:s.TypeIs (.ref l) "tuple" := ⟨_,h1,h2⟩;have tb:s.TypeIs (.ref p) "tuple" := ⟨_,g1,g2⟩;refine wpAny_richCompare_same_room tl tb O7 (FZ O7 tl F.entry_tuple_lt ?_ (F.args_tuple_lt_2 _ _)) (by lia)
        unfold GR.«tuple.__lt__»;refine e6 ?_;have L:isSubtype (.type "tuple") (.type "tuple")=pure true:=by rw [HZ];kernel_rfl
        wp_walk
        rw [Z]
        wp_walk
        rw [g3];refine D1 ?_;refine D1 ?_;refine e6 (fe (iq (n:=n) (g:=fun b=>Fin.done (Flow.ret (Lf b))) (pr:=id) (List.map_id _) G J z ld le (by simp [Iz] at hd;lia) ?_ ?_))
        ·rintro ⟨x,y⟩ x' y' d e as bs R _ hz rx ry z ld le hd r
         cases hz
         dsimp only;refine e6 (NM d e _ _ _ _ _ _ rx ry ld le ?_ prog w E _ ?_)
         ·show A.units+1+min d.depth e.depth < HQ;lia
         ·by_cases B:Ga d e=true
          ·rw [if_pos B] at r;rw [B];exact D1 r
          ·rw [if_neg B] at r;have B:Ga d e=false:=by simpa using B
           rw [B];refine e6 (Hz (e6 (ih prog w _ s x y d e as bs E _ hd z rx ry ld le ?_ ?_)))
           ·show A.units+1+n+1 < HQ;lia
           ·exact D1 r
        ·have e1:=io z
         cases e2:bZ xs ys with
         | some b =>
           rw [e2] at e1;dsimp only at e1;rw [e1] at q;exact D1 ⟨_,rfl,by simp,q⟩
         | none =>
           rw [e2] at e1;dsimp only at e1;rw [e1] at q;have O:=bM G;have U:=bM J;refine D1 ⟨_,rfl, ?_, ?_⟩
           ·simp [JG]
           ·simp only [FL] at O U;simp only [JG];rw [O,U];exact q
   cases z with
   | int i j =>
     cases ra;cases rb
     exact tX (by rw [<- gK];exact q)
   | nil ys=>exact tup _ _ rfl rfl
   | nil' xs=>exact tup _ _ rfl rfl
   | cons _ _=>exact tup _ _ rfl rfl
end
end Srt
end L2
namespace L2
namespace Srt
open PySem PySem.Spec PyProof.Rows
section
variable {prog:FI} {w:G2} {A:G8} {E:gV->tv->Prop} {s:tv}
theorem jl {α β:Type} {M:JH} {f : α -> Sem β} {g : α -> β}:∀ {l:List α} {Q:List β -> tv->Prop},(∀ x∈l, ∀ R : β -> tv->Prop,R (g x) s->Fq M A (f x) R E s)->Q (l.map g) s->Fq M A (l.mapM f) Q E s
 | [],Q,_,q=>by rw [List.mapM_nil];exact D1 q
 | x::xs,Q,h,q=>by
   rw [List.mapM_cons];refine e6 (h x (by simp) _ (e6 (jl (fun y j=>h y (by simp [j])) (D1 q))))
theorem dO {α β:Type} {M:JH} {f : α -> Sem β} {g : α -> β} {xs:Array α} {Q:Array β -> tv->Prop} (h:∀ x∈xs.toList, ∀ R : β -> tv->Prop,R (g x) s->Fq M A (f x) R E s) (q:Q (xs.map g) s):Fq M A (xs.mapM f) Q E s:=by
 rw [Array.mapM_eq_mapM_toList];rw [map_eq_pure_bind];refine e6 (jl h (D1 ?_));have:(xs.toList.map g).toArray=xs.map g:=by
  apply JR.mp;simp
 rw [this];exact q
theorem kX {a:Addr} {v:gV} {vs:List gV} {o:Obj} {n:Nat} (h1:s.heap.get? a=some o) (h2:o.cls = .type "tuple") (j:o.data = .seq (v::vs).toArray n) {Q:Option gV->tv->Prop} (q:Q (some v) s):Fq (Fz prog w) A (firstOfTuple' (.ref a)) Q E s:=by
 unfold firstOfTuple';have ty:s.TypeIs (.ref a) "tuple" := ⟨_,h1,h2⟩
 wp_walk
 rw [j];refine D1 ?_;refine D1 ?_;exact D1 q
theorem zh {a:Addr} {o:Obj} {T:gV} (h1:s.heap.get? a=some o) (h2:o.cls=T) {Q:gV->tv->Prop} (q:Q T s):Fq (Fz prog w) A (typeOf (.ref a)) Q E s:=by
 wp_walk
 rw [h2];exact q
theorem tY {n:Nat} {x y:gV} {d e:GA} {as bs:List Addr} (j:Cmpb d e) (rx:J8 s.heap x d as) (ry:J8 s.heap y e bs) (ld:d.canLay0=true) (le:e.canLay0=true) (hd:d.depth<=n) (z:A.units+n+1 < HQ) {Q:Bool->tv->Prop} (q:Q (ltK (toK d) (toK e)) s):Fq (Fz prog w) A (oneLt' false x y) Q E s:=by
 rw [oneLt'_eq];exact e6 (C5 n prog w A s x y d e as bs E _ hd j rx ry ld le z (trd q))
theorem kY {n:Nat} {b:Bool} {x y:gV} {xs ys:List GA} {as bs:List Addr} (hb:b=true -> ∀ d e,xs.head? = some d->ys.head? = some e->(∃ i,d = .int i) /\ ∃ i,e = .int i)
 (F:Cmpb (.tuple xs) (.tuple ys)) (rx:J8 s.heap x (.tuple xs) as) (ry:J8 s.heap y (.tuple ys) bs) (lx:GH xs=true) (ly:GH ys=true) (hd:HA xs<=n) (hu:A.units+n+1 < HQ) {Q:Bool->tv->Prop} (q:Q (ltK (toK (.tuple xs)) (toK (.tuple ys))) s) :
 Fq (Fz prog w) A (keyLt' (tuples' b) x y) Q E s:=by
 cases rx with
 | tuple h1 h2 h3 G =>
   cases ry with
   | tuple g1 g2 g3 J =>
     refine e6 (Nr h1 h3 ?_);refine e6 (Nr g1 g3 ?_);refine e6 (fe (iq (n:=n) (g:=id) (pr:=Prod.fst) (List.zipIdx_map_fst _ _) G J F lx ly hd ?_ ?_))
     ·rintro ⟨⟨x,y⟩,i⟩ x' y' d e as bs R hz hp rx ry F ld le hd r
      cases hp
      dsimp only;refine e6 (NM d e _ _ _ _ _ _ rx ry ld le (by lia) prog w E _ ?_)
      by_cases B:Ga d e=true
      ·rw [if_pos B] at r;rw [B];exact D1 r
      ·rw [if_neg B] at r;have B:Ga d e=false:=by simpa using B
       rw [B];refine e6 ?_
       by_cases z:(b&&i==0)=true
       ·rw [z];simp only [D0,beq_iff_eq] at z;obtain ⟨rfl,rfl⟩:=z;have j:=List.mem_zipIdx_iff_getElem?.mp hz;obtain ⟨L,O,t1,U,e1,e2⟩:∃ (L O:Int) (t1 U:Tok),x = .int L t1/\y = .int O U:=by
         generalize hV:Lg _=vl at G j;generalize hU:Lg _=ul at J j
         cases G with
         | nil=>simp at j
         | cons p1 p2 =>
           cases J with
           | nil=>simp at j
           | cons q1 q2 =>
             simp at j;obtain ⟨⟨L,ei⟩,⟨O,ej⟩⟩:=hb rfl _ _ rfl rfl;subst ei ej
             cases p1;cases q1
             exact ⟨_,_,_,_,j.1.symm,j.2.symm⟩
        subst e1 e2
        cases rx;cases ry
        refine oneLt_int ?_;rw [<- gK];exact D1 r
       ·have z:(b&&i==0)=false:=by simpa using z
        rw [z];exact tY F rx ry ld le hd hu (D1 r)
     ·have e1:=io F
      cases e2:bZ xs ys with
      | some b =>
        rw [e2] at e1;dsimp only at e1;rw [e1] at q;exact D1 q
      | none =>
        rw [e2] at e1;dsimp only at e1;rw [e1] at q;have Y:=bM G;have Z:=bM J;refine D1 ?_;simp only [FL] at Y Z;rw [Y,Z];exact q
end
end Srt
end L2
namespace L2
namespace Srt
open PySem PySem.Spec PyProof.Rows
structure nC (n:Nat) (ds:List GA):Prop where
 cmp:∀ d∈ds, ∀ e∈ds,Cmpb d e
 lay:∀ d∈ds,d.canLay0=true/\d.depth<=n
 kind:(∀ d∈ds, ∃ i,d = .int i)∨(∀ d∈ds, ∃ i xs,d = .tuple (.int i::xs))∨(∀ d∈ds, ∃ ys xs,d = .tuple (.tuple ys::xs))
noncomputable def cr (h:Heap):gV->Option gV
 | .ref a=>(h.get? a).bind fun o=>match o.data with | .seq xs _=>xs[0]? | _=>none
 | _=>none
section
variable {prog:FI} {w:G2} {A:G8} {E:gV->tv->Prop} {s:tv}
noncomputable def da (h:Heap) (x:Fi):Ky:=toK (GZ h x.1)
def RdL (h:Heap) (vs:List gV) (ds:List GA):Prop := ∀ v∈vs, ∃ d∈ds, ∃ as,J8 h v d as
theorem fN {arr:Array gV} {T:String} (h0 : 0 < arr.size) (h:∀ v∈arr.toList, ∀ R:gV->tv->Prop,R (.type T) s->Fq (Fz prog w) A (typeOf v) R E s) {Q:Option gV->tv->Prop} (q:Q (some (.type T)) s):Fq (Fz prog w) A (oneTypeOnly' arr) Q E s:=by
 rw [oneTypeOnly'_eq];refine e6 (dO (g:=fun _=>FV T) h ?_);have e:(JS (fun _=>FV T) arr)[0]? = some (FV T):=by
  rw [Array.getElem?_map,FH h0];rfl
 rw [e];dsimp only;have e2:((JS (fun _=>FV T) arr).all fun x=>x==FV T)=true:=by
  rw [Nt];intro i hi;simp
 rw [e2];exact D1 q
theorem qU {n:Nat} {kd:J9} {vs:List gV} {ds:List GA} (j:RdL s.heap vs ds) (hs:nC n ds)
 (h:∀ (x y:gV) (d e:GA) (as bs:List Addr) (E:gV->tv->Prop) (Q:Bool->tv->Prop),d∈ds->e∈ds->J8 s.heap x d as->J8 s.heap y e bs->Q (ltK (toK d) (toK e)) s->Fq (Fz prog w) A (keyLt' kd x y) Q E s) :
 Cm prog w A s kd (fun x=>x.1∈vs) (fun x y=>ltK (da s.heap x) (da s.heap y)) where
 asym:=fun x y=>ik _ _
 neg:=fun x y z=>zg _ _ _
 run:=fun x y E Q hx B q=>by
  obtain ⟨d,hd,as,ra⟩:=j _ hx;obtain ⟨e,he,bs,rb⟩:=j _ B;have e1:=HC (hs.lay d hd).1 ra;have e2:=HC (hs.lay e he).1 rb;unfold da at q;rw [e1,e2] at q;exact h _ _ d e as bs E Q hd he ra rb q
theorem nD {h:Heap} {vs:List gV} (j:∀ v∈vs, ∃ u,cr h v=some u):((vs.toArray.map (cr h)).all fun x=>x.isSome)=true:=by
 rw [Nt];intro i hi;simp at hi;obtain ⟨u,q⟩:=j vs[i] (L8 hi);simp [q]
theorem tZ {h:Heap} {vs:List gV} {x:gV} (hx:x∈(O8 id (vs.toArray.map (cr h))).toList):∃ v∈vs,cr h v=some x:=by
 simp at hx;exact hx
theorem u4 {h:Heap} {v:gV} {vs:List gV} {u:gV} (j:cr h v=some u) : 0 < (O8 id ((v::vs).toArray.map (cr h))).size:=by
 rw [<- FL];simp [j]
theorem kZ {h:Heap} {v:gV} {d:GA} {xs:List GA} {as:List Addr} (r:J8 h v (.tuple (d::xs)) as):∃ a o u us n bs,v = .ref a/\h.get? a=some o/\o.cls = .type "tuple" /\ o.data = .seq (u::us).toArray n/\J8 h u d bs:=by
 cases r with
 | @tuple a o vs n xs as h1 h2 j h4 =>
  generalize q:vs.toList=vl at h4
  cases h4 with
  | @cons u us _ _ bs _ z p2=>exact ⟨_,_,u,us,n,bs,rfl,h1,h2,by rw [j];congr 1;apply JR.mp;simpa using q,z⟩
theorem C6 {n:Nat} {v:gV} {vs:List gV} {ds:List GA} (U:RdL s.heap (v::vs) ds) (hs:nC n ds) (z:A.units+n+1 < HQ) :
 ∃ kd,(∀ (E:gV->tv->Prop) (Q:J9->tv->Prop),Q kd s->Fq (Fz prog w) A (keyKind' (v::vs).toArray) Q E s)/\Cm prog w A s kd (fun x=>x.1∈v::vs) (fun x y=>ltK (da s.heap x) (da s.heap y)):=by
 rcases hs.kind with G | G | G
 ·refine ⟨oneType',fun E Q q => ?_,qU U hs fun x y d e as bs E Q hd he ra rb q => ?_⟩
  ·have hint:∀ u∈v::vs, ∃ i t,u = .int i t:=fun u z=>by
    obtain ⟨d,hd,as,ra⟩:=U u z;obtain ⟨i,rfl⟩:=G d hd
    cases ra
    exact ⟨_,_,rfl⟩
   rw [O0];refine e6 (dO (g:=fun _=>(none:Option gV)) (fun u z R r => ?_) ?_)
   ·obtain ⟨i,t,rfl⟩:=hint u (by simpa using z)
    rw [firstOfTuple'_int];exact D1 r
   ·have e1:((JS (fun _=>(none:Option gV)) (v::vs).toArray).all fun x=>x.isSome)=false:=by
     simp
    rw [e1];have e2:((JS (fun _=>(none:Option gV)) (v::vs).toArray)[0]?.bind id).isSome=false:=by simp
    simp only [e2,Hm,if_false];refine e6 (fN (T := "int") (by simp) (fun u z R r => ?_) ?_)
    ·obtain ⟨i,t,rfl⟩:=hint u (by simpa using z)
     exact D1 r
    ·exact D1 q
  ·obtain ⟨i,rfl⟩:=G d hd;obtain ⟨j,rfl⟩:=G e he
   cases ra;cases rb
   rw [keyLt'_oneType];exact oneLt_int (by rw [<- gK];exact q)
 ·refine ⟨tuples' true,fun E Q q => ?_,qU U hs fun x y d e as bs E Q hd he ra rb q => ?_⟩
  ·have hf:∀ u∈v::vs, ∃ a o i t us n,u = .ref a/\s.heap.get? a=some o/\o.cls = .type "tuple" /\ o.data = .seq (.int i t::us).toArray n:=fun u z=>by
    obtain ⟨d,hd,as,ra⟩:=U u z;obtain ⟨i,xs,rfl⟩:=G d hd;obtain ⟨a,o,Z,us,n,bs,e1,e2,J,F,L⟩:=kZ ra
    cases L
    exact ⟨a,o,_,_,us,n,e1,e2,J,F⟩
   have B:∀ u∈v::vs, ∃ i t,cr s.heap u=some (.int i t):=fun u z=>by
    obtain ⟨a,o,i,t,us,n,rfl,e2,J,F⟩:=hf u z;exact ⟨i,t,by simp [cr,e2,F]⟩
   rw [O0];refine e6 (dO (g:=cr s.heap) (fun u z R r => ?_) ?_)
   ·obtain ⟨a,o,i,t,us,n,rfl,e2,J,F⟩:=hf u (by simpa using z)
    refine kX e2 J F ?_;simpa [cr,e2,F] using r
   ·rw [nD (fun u z=>let ⟨i,t,e⟩:=B u z; ⟨_,e⟩)];refine e6 (Hz ?_);obtain ⟨i0,t0,e0⟩:=B v (by simp)
    refine e6 (fN (T := "int") (u4 e0) (fun u z R r => ?_) ?_)
    ·obtain ⟨u',O,e⟩:=tZ z;obtain ⟨i,t,e'⟩:=B u' O;rw [e'] at e;cases e;exact D1 r
    ·exact D1 q
  ·obtain ⟨i,xs,rfl⟩:=G d hd;obtain ⟨j,ys,rfl⟩:=G e he;have l1:=hs.lay _ hd;have l2:=hs.lay _ he;refine kY (n:=n) (fun _ d e hd he => ?_) (hs.cmp _ hd _ he) ra rb (by simpa [JD] using l1.1) (by simpa [JD] using l2.1) (by have:=l1.2;simp [Iz] at this;lia) z q
   simp at hd he;subst hd he;exact ⟨⟨_,rfl⟩,_,rfl⟩
 ·refine ⟨tuples' false,fun E Q q => ?_,qU U hs fun x y d e as bs E Q hd he ra rb q => ?_⟩
  ·have hf:∀ u∈v::vs, ∃ a o b ob us n,u = .ref a/\s.heap.get? a=some o/\o.cls = .type "tuple" /\ o.data = .seq (.ref b::us).toArray n/\s.heap.get? b=some ob/\ob.cls = .type "tuple" := fun u z=>by
    obtain ⟨d,hd,as,ra⟩:=U u z;obtain ⟨ys,xs,rfl⟩:=G d hd;obtain ⟨a,o,Z,us,n,bs,e1,e2,J,F,L⟩:=kZ ra
    cases L with
    | tuple h1 h2 h3 h4=>exact ⟨a,o,_,_,us,n,e1,e2,J,F,h1,h2⟩
   have B:∀ u∈v::vs, ∃ b ob,cr s.heap u=some (.ref b)/\s.heap.get? b=some ob/\ob.cls = .type "tuple" := fun u z=>by
    obtain ⟨a,o,b,ob,us,n,rfl,e2,J,F,L,Y⟩:=hf u z;exact ⟨b,ob,by simp [cr,e2,F],L,Y⟩
   rw [O0];refine e6 (dO (g:=cr s.heap) (fun u z R r => ?_) ?_)
   ·obtain ⟨a,o,b,ob,us,n,rfl,e2,J,F,L,Y⟩:=hf u (by simpa using z)
    refine kX e2 J F ?_;simpa [cr,e2,F] using r
   ·rw [nD (fun u z=>let ⟨i,t,e,_⟩:=B u z; ⟨_,e⟩)];refine e6 (Hz ?_);obtain ⟨i0,t0,e0,_⟩:=B v (by simp)
    refine e6 (fN (T := "tuple") (u4 e0) (fun u z R r => ?_) ?_)
    ·obtain ⟨u',O,e⟩:=tZ z;obtain ⟨b,ob,e',L,Y⟩:=B u' O;rw [e'] at e;cases e;exact zh L Y r
    ·exact D1 q
  ·obtain ⟨zs,xs,rfl⟩:=G d hd;obtain ⟨zs',ys,rfl⟩:=G e he;have l1:=hs.lay _ hd;have l2:=hs.lay _ he;exact kY (n:=n) (fun h=>by cases h) (hs.cmp _ hd _ he) ra rb (by simpa [JD] using l1.1) (by simpa [JD] using l2.1) (by have:=l1.2;simp [Iz] at this;lia) z q
end
end Srt
end L2
namespace L2
namespace Srt
open PySem PySem.Spec PyProof.Rows
inductive Pl:GA->Prop where
 | int (i:Int):Pl (.int i)
 | tup (xs:List GA):(∀ x∈xs,Pl x)->Pl (.tuple xs)
theorem aT {h h':Heap} (k:∀ b o,h.get? b=some o->o.cls = .type "tuple" -> h'.get? b=some o) {d:GA} (p:Pl d):∀ {v:gV} {as:List Addr},J8 h v d as->J8 h' v d as:=by
 induction p with
 | int i=>intro v as r;cases r;exact .int _ _
 | tup xs hx ih =>
   intro v as r
   cases r with
   | tuple h1 h2 q z =>
     refine .tuple (k _ _ h1 h2) h2 q ?_;have g:∀ (xs:List GA),(∀ x∈xs, ∀ {v:gV} {as:List Addr},J8 h v x as->J8 h' v x as) -> ∀ (vs:List gV) (as:List Addr),LS h vs xs as->LS h' vs xs as:=by
      intro xs
      induction xs with
      | nil=>intro _ vs as r;cases r;exact .nil
      | cons x xs ihx =>
        intro j vs as r
        cases r with
        | cons B p2=>exact .cons (j x (by simp) B) (ihx (fun y F=>j y (by simp [F])) _ _ p2)
     exact g xs ih _ _ z
section
variable {prog:FI} {w:G2} {A:G8} {E:gV->tv->Prop} {s:tv}
theorem zi {cap:Nat} (S:gI cap) {m:Nat} {a:Addr} {vs:List gV} {n:Nat} {ds:List GA} (ha:s.heap.get? a=some (N3 "list" vs.toArray n)) (Z:RdL s.heap vs ds) (hs:nC m ds) (hp:∀ d∈ds,Pl d) (hl:vs.length<=Fj) (D8:vs.length<=cap) (hu:A.units+m+1 < HQ) {Q:PySem.Fin->tv->Prop}
 (q:∀ (h':Heap) (out:List gV) (n':Nat),(∀ b o,b≠a->s.heap.get? b=some o->h'.get? b=some o)->h'.get? a=some (N3 "list" out.toArray n')->out.Perm vs->out.Pairwise (fun x y=>ltK (toK (GZ s.heap y)) (toK (GZ s.heap x))=false)->Q (.done (.ret .none)) { s with heap:=h' }) :
 Fq (Fz prog w) A (GR.«list.sort» ⟨[.ref a],[]⟩) Q E s:=by
 rw [list_sort_plain];refine e6 (Nr ha rfl ?_);refine e6 (Io ha rfl ?_ (by simpa using hl) (by simp))
 have g1:=HD ha (fun _ => #[]);generalize D9:s.heap.update a (Hg fun _ => #[])=h1 at g1;generalize (if ((#[]:Array gV).size==vs.toArray.size)=true then n else n+1)=n1 at g1
 refine e6 (O1 g1 rfl ?_);refine e6 (Jx ?_ (by simpa using hl))
 refine e6 (JT ?_ (by simp))
 refine Gc ?_;dsimp only;generalize O:({ heap:=(h1.push { cls:=FV "tuple",data:=Ir vs.toArray.toList.toArray }).push { cls:=FV "list",data:=Ir [].toArray },gens:=s.gens,drawn:=s.drawn,toks:=s.toks,os:=s.os }:tv)=s3;have g3:s3.heap.get? a=some (N3 "list" #[] n1):=by
  rw [<- O];exact q7 _ (q7 _ g1)
 have keep:∀ b o,b≠a->s.heap.get? b=some o->s3.heap.get? b=some o:=fun b o G J=>by
  rw [<- O, <- D9];exact q7 _ (q7 _ (by rw [G9 _ _ _ _ G];exact J))
 have keepT:∀ b o,s.heap.get? b=some o->o.cls = .type "tuple" -> s3.heap.get? b=some o:=fun b o G hc=>keep b o (fun z=>by
  rw [z,ha] at G;cases G;simp at hc) G
 have Da:RdL s3.heap vs ds:=fun v hv=>by
  obtain ⟨d,hd,as,r⟩:=Z v hv;exact ⟨d,hd,as,aT keepT (hp d hd) r⟩
 have same:∀ v∈vs,GZ s3.heap v=GZ s.heap v:=fun v hv=>by
  obtain ⟨d,hd,as,r⟩:=Z v hv;rw [HC (hs.lay d hd).1 r,HC (hs.lay d hd).1 (aT keepT (hp d hd) r)]
 have q:∀ (h':Heap) (out:List gV) (n':Nat),(∀ b o,b≠a->s.heap.get? b=some o->h'.get? b=some o)->h'.get? a=some (N3 "list" out.toArray n')->out.Perm vs->out.Pairwise (fun x y=>ltK (toK (GZ s.heap y)) (toK (GZ s.heap x))=false)->Q (.done (.ret .none)) { s3 with heap:=h' }:=by
  rw [<- O];exact q
 have Db:∀ A':G8,A'.units=A.units->True:=fun _ _=>trivial;clear O
 let Good:Gj->Prop:=fun st'=>HF st'=none/\(G4 st').toList.Perm (vs.zip vs)/\(G4 st').toList.Pairwise (fun x y=>ltK (da s3.heap y) (da s3.heap x)=false)
 by_cases F:vs.toArray.size < 2
 ·rw [if_pos F,if_pos F];refine e6 (D1 ?_);have B:vs.length < 2:=by simpa using F
  have run:Fq (Fz prog w) A ((pure ():StateT Gj Sem Unit).run (JQ general' (vs.toArray.zip vs.toArray) #[] 7 none)) (fun r s'=>s'=s3/\Good r.2) E s3:=by
   refine D1 ⟨rfl,rfl, ?_, ?_⟩
   ·show (vs.toArray.zip vs.toArray).toList.Perm _;simp
   ·show List.Pairwise _ (vs.toArray.zip vs.toArray).toList
    match vs,B with
    | [],_=>simp
    | [x],_=>simp
  refine e6 (Gw (Q:=fun r s'=>s'=s3/\Good r.2) run (fun r s' Z => ?_) (fun _ _ z=>z));obtain ⟨rfl,L,j,U⟩:=Z;obtain ⟨u,st'⟩:=r;refine e6 (O1 g3 rfl ?_);refine e6 (Io g3 rfl ?_ (by simp) (by simp only [Array.size_map];have:=j.length_eq;simp at this;rw [this];lia))
  dsimp only at L;rw [L];simp only [bne_self_eq_false,Hm,if_false];refine D1 ?_;have gq:=HD g3 (fun _=>JS (fun x=>x.snd) (G4 st'));have eo:JS (fun x=>x.snd) (G4 st')=((G4 st').toList.map fun x=>x.snd).toArray:=by apply JR.mp;simp
  refine q _ ((G4 st').toList.map fun x=>x.snd) _ (fun b o G J => ?_) (by rw [gq,eo]) ?_ ?_
  ·rw [G9 _ _ _ _ G];exact keep b o G J
  ·have h8:=j.map (fun x:Fi=>x.snd);rw [NN (by simp)] at h8
   exact h8
  ·rw [G7];refine U.imp_of_mem fun {x y} hx hy hxy => ?_;have mx:=Kh (j.mem_iff.mp hx);have my:=Kh (j.mem_iff.mp hy);unfold da at hxy;rw [mx.1,my.1,same y.2 (by rw [<- my.1];exact my.2),same x.2 (by rw [<- mx.1];exact mx.2)] at hxy
   exact hxy
 ·rw [if_neg F,if_neg F];have B : 2<=vs.length:=by simpa using F
  obtain ⟨v0,Y,D4⟩:∃ v0 Y,vs=v0::Y:=by
   match vs,B with
   | v::t,_=>exact ⟨v,t,rfl⟩
  obtain ⟨kd,D5,D6⟩:=C6 (prog:=prog) (w:=w) (A:=A) (v:=v0) (vs:=Y) (by rw [<- D4];exact Da) hs hu
  rw [<- D4] at D5 D6;refine e6 (D5 E _ ?_);have run:Fq (Fz prog w) A (sortRuns'.run (JQ kd (vs.toArray.zip vs.toArray) #[] 7 none)) (fun r s'=>s'=s3/\Good r.2) E s3:=by
   have ez:(G4 (JQ kd (vs.toArray.zip vs.toArray) #[] 7 none)).toList=vs.zip vs:=by
    show (vs.toArray.zip vs.toArray).toList=_;simp
   have h9:wpS (Fz prog w) A E s3 sortRuns' (fun _ st'=>Good st') (JQ kd (vs.toArray.zip vs.toArray) #[] 7 none):=by
    have D7:(G4 (JQ kd (vs.toArray.zip vs.toArray) #[] 7 none)).size=vs.length:=by rw [<- FL,ez];simp
    refine S _ _ _ _ _ _ _ _ D6 (JQ kd (vs.toArray.zip vs.toArray) #[] 7 none) _ rfl rfl rfl (fun x hx => ?_) (by rw [D7];exact B) (by rw [D7];exact D8) fun st' p1 p2 p3=>⟨p3,by rw [ez] at p1;exact p1,p2⟩
    rw [ez] at hx;exact (Kh hx).2
   exact h9
  refine e6 (Gw (Q:=fun r s'=>s'=s3/\Good r.2) run (fun r s' Z => ?_) (fun _ _ z=>z));obtain ⟨rfl,L,j,U⟩:=Z;obtain ⟨u,st'⟩:=r;refine e6 (O1 g3 rfl ?_);refine e6 (Io g3 rfl ?_ (by simp) (by simp only [Array.size_map];have:=j.length_eq;simp at this;rw [this];lia))
  dsimp only at L;rw [L];simp only [bne_self_eq_false,Hm,if_false];refine D1 ?_;have gq:=HD g3 (fun _=>JS (fun x=>x.snd) (G4 st'));have eo:JS (fun x=>x.snd) (G4 st')=((G4 st').toList.map fun x=>x.snd).toArray:=by apply JR.mp;simp
  refine q _ ((G4 st').toList.map fun x=>x.snd) _ (fun b o G J => ?_) (by rw [gq,eo]) ?_ ?_
  ·rw [G9 _ _ _ _ G];exact keep b o G J
  ·have h8:=j.map (fun x:Fi=>x.snd);rw [NN (by simp)] at h8
   exact h8
  ·rw [G7];refine U.imp_of_mem fun {x y} hx hy hxy => ?_;have mx:=Kh (j.mem_iff.mp hx);have my:=Kh (j.mem_iff.mp hy);unfold da at hxy;rw [mx.1,my.1,same y.2 (by rw [<- my.1];exact my.2),same x.2 (by rw [<- mx.1];exact mx.2)] at hxy
   exact hxy
theorem qV (u:gV):checkBuiltinCall "sorted" ⟨[u],[]⟩=pure ():=by kernel_rfl
theorem lc {cap:Nat} (S:gI cap) {m:Nat} {u:gV} {ds:List GA} {C:Heap->List gV->Prop} {Q:gV->tv->Prop} (hu:A.units+m+3 < HQ) (hs:nC m ds) (F:∀ d∈ds,Pl d)
 (G:∀ (E:gV->tv->Prop) (R:List gV->tv->Prop),(∀ (h':Heap) (vs':List gV) (t':Nat),C h' vs'->RdL h' vs' ds->vs'.length<=Fj/\vs'.length<=cap->s.toks<=t'->R vs' { s with heap:=h',toks:=t' })->Fq (Fz prog w) A.in1 (collect u) R E s)
 (q:∀ (h1 h2:Heap) (vs out:List gV) (n' t':Nat),C h1 vs->(∀ b o,h1.get? b=some o->h2.get? b=some o)->h2.get? h1.objs.size=some (N3 "list" out.toArray n')->out.Perm vs->out.Pairwise (fun x y=>ltK (toK (GZ h2 y)) (toK (GZ h2 x))=false)->RdL h2 out ds->vs.length<=Fj->s.toks<=t'->Q (.ref h1.objs.size) { s with heap:=h2,toks:=t' }) :
 Fq (Fz prog w) A (call (.builtin "sorted") [u]) Q E s:=by
 refine wpAny_call (codeAny_call_builtin plain_sorted entry_sorted (HR (qV u) ?_));unfold Builtin.sorted;refine e6 (HR (a:=()) (by kernel_rfl) ?_)
 refine e6 (G _ _ fun h1 vs t' hC L J ht => ?_);obtain ⟨J,O⟩:=J;refine e6 (JT ?_ J);refine e6 (Gc ?_);have U:RdL (h1.push { cls:=FV "list",data:=Ir vs.toArray }) vs ds:=fun v B=>by
  obtain ⟨d,hd,as,r⟩:=L v B;exact ⟨d,hd,as,aT (fun b o z _=>q7 _ z) (F d hd) r⟩
 have ha:(h1.push { cls:=FV "list",data:=Ir vs.toArray }).get? h1.objs.size=some (N3 "list" vs.toArray 0):=Fh _ rfl;refine FZ slot_list_sort (T := "list") ⟨_,ha,rfl⟩ entry_list_sort ?_ (args_list_sort _);refine zi S (m:=m) ha U hs F J O (by show A.units+1+1+m+1 < HQ;lia) fun h2 out n' keep g2 j Y=>⟨_,rfl,D1 ?_⟩
 have old:∀ b o,h1.get? b=some o->h2.get? b=some o:=fun b o z=>keep b o (FR (Fg z)) (q7 _ z);have Z:RdL h2 vs ds:=fun v B=>by
  obtain ⟨d,hd,as,r⟩:=L v B;exact ⟨d,hd,as,aT (fun b o z _=>old b o z) (F d hd) r⟩
 refine q h1 h2 vs out n' t' hC old g2 j ?_ (fun v B=>Z v (j.mem_iff.mp B)) J ht;have same:∀ v∈vs,GZ (h1.push { cls:=FV "list",data:=Ir vs.toArray }) v=GZ h2 v:=fun v B=>by
  obtain ⟨d,hd,as,r⟩:=L v B;rw [HC (hs.lay d hd).1 (aT (fun b o z _=>old b o z) (F d hd) r),HC (hs.lay d hd).1 (aT (fun b o z _=>q7 _ z) (F d hd) r)]
 refine Y.imp_of_mem fun {x y} hx hy hxy => ?_;rw [same y (j.mem_iff.mp hy),same x (j.mem_iff.mp hx)] at hxy;exact hxy
end
end Srt
end L2
namespace L2
namespace It
open PySem PySem.Spec PyProof.Rows
noncomputable def iO (f0:gV) (b:Bool) (d:Addr) (i n ep:Nat) (ok ov:gV):Obj := { cls := .type "dict_itemiterator",data := .fields #[f0, .bool b, .ref d, .int i 0, .int n 0, .int ep 0,ok,ov] }
theorem slot_next:Slot "dict_itemiterator" "__next__" "dict_itemiterator.__next__" := .of (owner := "dict_itemiterator") (n := "__next__") (by rw [K8,II];kernel_rfl) (by decide +kernel) (by decide +kernel) (by decide +kernel) (.inl (by decide +kernel)) (by rw [HZ];kernel_rfl)
theorem bB:Ow table "dict_itemiterator.__next__" = some GR.«dict_itemiterator.__next__» := La (by kernel_rfl)
theorem bN (a:gV):Ox "dict_itemiterator.__next__" ⟨[a],[]⟩:=by unfold Ox;kernel_rfl
theorem fO:mroOf (.type "dict_itemiterator")=pure [.type "dict_itemiterator", .type "object"]:=by rw [mroOf_type];kernel_rfl
section
variable {prog:FI} {w:G2} {A:G8} {E:gV->tv->Prop} {s:tv}
theorem wt {M:JH} {a:Addr} {Q:Option Obj->tv->Prop} (q:Q (s.heap.get? a) s):Fq M A (loadIfAlive a) Q E s:=fun Γ p hp=>by
 show Sem.wp M Γ (Sem.loadIfAlive a Sem.pure) _ _ p s;rw [Sem.wp_loadIfAlive];exact q
theorem bD {it:Addr} (ty:s.TypeIs (.ref it) "dict_itemiterator") {types:List String} {Q:Bool->tv->Prop} (q:Q (types.any fun t => [FV "dict_itemiterator",FV "object"].contains (FV t)) s):Fq (model prog w) A (I0 (.ref it) types) Q E s:=by
 have hm:=fO;unfold I0
 wp_walk
 exact q
theorem u5 {it d a:Addr} {b:Bool} {i n ep:Nat} {ok ov:gV} {oa:Obj} {Q:Bool->tv->Prop} (hi:s.heap.get? it=some (iO (Ik a) b d i n ep ok ov)) (j:s.heap.get? a=some oa)
 (q:∀ h',h'.get? it=some (iO (Ik a) true d i n ep ok ov)->GP it s.heap h'->Q false { s with heap:=h' }):Fq (model prog w) A (GY (.ref it)) Q E s:=by
 unfold GY;refine e6 (Gi hi rfl (x:=Ik a) rfl ?_);refine e6 (wt ?_);rw [show ((a:Int)).toNat=a from Gr a,j];dsimp only;rw [if_neg (by simp)]
 refine e6 (Gi hi rfl (x := .bool b) rfl ?_)
 cases b with
 | true =>
   rw [if_neg (by decide)]
   exact D1 (q s.heap hi (Heap.SameBut.refl ..))
 | false =>
   rw [if_pos (by decide)]
   refine e6 (FK hi (by simp) fun h' e' s' => ?_)
   exact D1 (q h' e' s')
theorem u6 {it d a:Addr} {b:Bool} {i n ep:Nat} {ok ov k v:gV} {oa:Obj} {Q:gV->tv->Prop} (hi:s.heap.get? it=some (iO (Ik a) b d i n ep ok ov)) (z:s.heap.get? a=some oa)
 (q:∀ h',h'.get? it=some (iO (Ik a) true d i n ep ok ov)->h'.get? s.heap.objs.size=some { cls := .type "tuple",data := .seq #[k,v] }->(∀ b o,b≠it->s.heap.get? b=some o->h'.get? b=some o)->Q (.ref s.heap.objs.size) { s with heap:=h' }):Fq (model prog w) A (Gu (.ref it) 6 k v) Q E s:=by
 unfold Gu;refine e6 (Jx ?_ (by size_fits))
 have j:=Fg hi;refine e6 (u5 (a:=a) (oa:=oa) (q7 _ hi) (q7 _ z) fun h' e' s' => ?_);dsimp only;rw [if_neg (by simp)]
 refine D1 (q h' e' ?_ fun b o B e => ?_)
 ·exact s'.extBut _ _ (Gp j) (Fh _ rfl)
 ·exact s'.extBut _ _ B (q7 _ e)
theorem zj {it d a:Addr} {b:Bool} {i ep:Nat} {ok ov cd:gV} {oa:Obj} {dd:Option Addr} {sl:Array (Option gV)} {es:Array G3} {e:G3} {Q:Option gV->tv->Prop} (hi:s.heap.get? it=some (iO (Ik a) b d i es.size ep ok ov)) (B:a≠it) (L:s.heap.get? a=some oa) (hd:s.heap.get? d=some { cls:=cd,dict:=dd,data := .dict es ep,slots:=sl }) (he:es[i]? = some e)
 (q:∀ h',h'.get? it=some (iO (Ik a) true d (i+1) es.size ep ok ov)->h'.get? s.heap.objs.size=some { cls := .type "tuple",data := .seq #[e.key,e.val] }->(∀ b o,b≠it->s.heap.get? b=some o->h'.get? b=some o)->Q (some (.ref s.heap.objs.size)) { s with heap:=h' }):Fq (model prog w) A (Ij (.ref it)) Q E s:=by
 have ty:s.TypeIs (.ref it) "dict_itemiterator" := ⟨_,hi,rfl⟩;unfold Ij;refine e6 (Ht (FY (name:=Gf "__next__") ty slot_next (FZ slot_next ty bB ?_ (bN _))));unfold GR.«dict_itemiterator.__next__»;have hm:=fO
 wp_walk
 dsimp only;rw [if_neg (by simp)]
 wp_walk
 simp only [Gr,he];refine e6 (Gw (Q:=fun n s'=>n=2/\s'=s) ?_ (fun n s' hs => ?_) fun _ _ z=>z)
 ·wp_walk
  exact ⟨by kernel_rfl,rfl⟩
 obtain ⟨rfl,rfl⟩:=hs;refine e6 (bD ty ?_);refine e6 (FK hi (by simp) fun h1 e1 s1 => ?_)
 refine e6 (Gc ?_);have j:JU { s' with heap:=h1 } (.ref it) "dict_itemiterator" := ⟨_,e1,rfl⟩
 refine e6 (bD j ?_);rw [if_neg (by decide +kernel)] at e1
 have e1:h1.get? it=some (iO (Ik a) b d (i+1) es.size ep ok ov):=e1;have hsz:h1.objs.size=s'.heap.objs.size:=s1.1;have F:h1.get? a=some oa:=s1.extBut a oa B L;refine Hi (by decide +kernel) ?_
 refine e6 (bD j ?_);refine Hi (by decide +kernel) ?_
 refine u6 (s := { s' with heap:=h1 }) e1 F fun h2 e2 G O => ?_
 refine D1 ⟨_,rfl,D1 ?_⟩;dsimp only at G ⊢;rw [hsz] at G ⊢;exact q h2 e2 G fun b o J e=>O b o J (s1.extBut b o J e)
theorem nx_end {it d:Addr} {f0:gV} {b:Bool} {ep:Nat} {ok ov cd:gV} {dd:Option Addr} {sl:Array (Option gV)} {es:Array G3} {Q:Option gV->tv->Prop} (j:A.handled=none) (hi:s.heap.get? it=some (iO f0 b d es.size es.size ep ok ov)) (hd:s.heap.get? d=some { cls:=cd,dict:=dd,data := .dict es ep,slots:=sl })
 (q:∀ h',(∀ b o,b≠it->s.heap.get? b=some o->h'.get? b=some o)->Q none { s with heap:=h' }):Fq (model prog w) A (Ij (.ref it)) Q E s:=by
 have ty:s.TypeIs (.ref it) "dict_itemiterator" := ⟨_,hi,rfl⟩;unfold Ij;refine e6 (Ht (FY (name:=Gf "__next__") ty slot_next (FZ slot_next ty bB ?_ (bN _))));unfold GR.«dict_itemiterator.__next__»;have hm:=fO
 wp_walk
 dsimp only;rw [if_neg (by simp)]
 wp_walk
 have he:es[es.size]? = none:=IA (Fl _);simp only [Gr,he];refine e6 (Gw (Q:=fun n s'=>n=2/\s'=s) ?_ (fun n s' hs => ?_) fun _ _ z=>z)
 ·wp_walk
  exact ⟨by kernel_rfl,rfl⟩
 obtain ⟨rfl,rfl⟩:=hs;refine e6 (FK hi (by simp) fun h1 e1 s1 => ?_)
 refine e6 (m:=Oq (.type "StopIteration") []) ?_;simp only [Oq,Ot];refine e6 (Gz ?_ (by size_fits))
 refine e6 (m:=IS _ _) (HR (a:=He) (by first | rfl | (simp only [IS];rfl)) (Gz ?_ (by size_fits)))
 simp only [raiseNew];refine e6 (Mz ?_)
 first | rw [show A.in1.handled=none from j] | rw [j]
 refine e6 (D1 (LO ?_));exact e6 (HU (T := "StopIteration") (b:=true) ⟨_,Fh _ rfl,rfl⟩ LP (D1 (q _ fun b o B e=>q7 _ (q7 _ (s1.extBut b o B e)))))
end
end It
end L2
namespace L2
namespace It
open PySem PySem.Spec PyProof.Rows
section
variable {prog:FI} {w:G2} {A:G8} {E:gV->tv->Prop} {s:tv}
theorem u7 {it d:Addr} {i n ep:Nat} {k v:gV} {Q:gV->tv->Prop} (hi:s.heap.get? it=some (iO .none false d i n ep .none .none))
 (q:∀ h',h'.get? it=some (iO (Ik s.heap.objs.size) false d i n ep k v)->h'.get? s.heap.objs.size=some { cls := .type "tuple",data := .seq #[k,v] }->(∀ b o,b≠it->s.heap.get? b=some o->h'.get? b=some o)->Q (.ref s.heap.objs.size) { s with heap:=h' }):Fq (model prog w) A (Gu (.ref it) 6 k v) Q E s:=by
 unfold Gu;refine e6 (Jx ?_ (by size_fits))
 have B:=Fg hi;have j:=q7 ({ cls := .type "tuple",data := .seq [k,v].toArray }) hi;unfold GY;refine e6 (e6 (Gi j rfl (x := .none) rfl (D1 ?_)));dsimp only;rw [if_pos rfl];refine e6 (Gi j rfl (x := .none) rfl ?_);refine e6 (Gi j rfl (x := .none) rfl ?_);refine e6 (FK j (by simp) fun h1 e1 s1 => ?_)
 refine e6 (FK e1 (by simp) fun h2 e2 s2 => ?_)
 refine e6 (FK e2 (by simp) fun L G s3 => ?_)
 refine e6 (FK G (by simp) fun F J s4 => ?_)
 refine e6 (NX ?_);have kp:∀ b o,b≠it->(s.heap.push { cls := .type "tuple",data := .seq [k,v].toArray }).get? b=some o->F.get? b=some o:=fun b o z e=>s4.extBut b o z (s3.extBut b o z (s2.extBut b o z (s1.extBut b o z e)));refine D1 (q F J (kp _ _ (Gp B) (Fh _ rfl)) fun b o z e=>kp b o z (q7 _ e))
theorem zk {it d:Addr} {i ep:Nat} {cd:gV} {dd:Option Addr} {sl:Array (Option gV)} {es:Array G3} {e:G3} {Q:Option gV->tv->Prop} (hi:s.heap.get? it=some (iO .none false d i es.size ep .none .none)) (hd:s.heap.get? d=some { cls:=cd,dict:=dd,data := .dict es ep,slots:=sl }) (he:es[i]? = some e)
 (q:∀ h',h'.get? it=some (iO (Ik s.heap.objs.size) false d (i+1) es.size ep e.key e.val)->h'.get? s.heap.objs.size=some { cls := .type "tuple",data := .seq #[e.key,e.val] }->(∀ b o,b≠it->s.heap.get? b=some o->h'.get? b=some o)->Q (some (.ref s.heap.objs.size)) { s with heap:=h' }):Fq (model prog w) A (Ij (.ref it)) Q E s:=by
 have ty:s.TypeIs (.ref it) "dict_itemiterator" := ⟨_,hi,rfl⟩;unfold Ij;refine e6 (Ht (FY (name:=Gf "__next__") ty slot_next (FZ slot_next ty bB ?_ (bN _))));unfold GR.«dict_itemiterator.__next__»;have hm:=fO
 wp_walk
 dsimp only;rw [if_neg (by simp)]
 wp_walk
 simp only [Gr,he];refine e6 (Gw (Q:=fun n s'=>n=2/\s'=s) ?_ (fun n s' hs => ?_) fun _ _ z=>z)
 ·wp_walk
  exact ⟨by kernel_rfl,rfl⟩
 obtain ⟨rfl,rfl⟩:=hs;refine e6 (bD ty ?_);refine e6 (FK hi (by simp) fun h1 e1 s1 => ?_)
 refine e6 (Gc ?_);have j:JU { s' with heap:=h1 } (.ref it) "dict_itemiterator" := ⟨_,e1,rfl⟩
 refine e6 (bD j ?_);rw [if_neg (by decide +kernel)] at e1
 have e1:h1.get? it=some (iO .none false d (i+1) es.size ep .none .none):=e1;have hsz:h1.objs.size=s'.heap.objs.size:=s1.1;refine Hi (by decide +kernel) ?_
 refine e6 (bD j ?_);refine Hi (by decide +kernel) ?_
 refine u7 (s := { s' with heap:=h1 }) e1 fun h2 e2 B G => ?_
 refine D1 ⟨_,rfl,D1 ?_⟩;dsimp only at e2 B ⊢;rw [hsz] at e2 B ⊢;exact q h2 e2 B fun b o F e=>G b o F (s1.extBut b o F e)
structure CP (h0:Heap) (s:tv) (it d:Addr) (es:Array G3) (ep i:Nat) (acc:Array gV):Prop where
 dict:∃ cd dd sl,s.heap.get? d=some { cls:=cd,dict:=dd,data := .dict es ep,slots:=sl }
 iter:(i=0/\s.heap.get? it=some (iO .none false d 0 es.size ep .none .none))∨(1<=i /\ ∃ (a:Addr) (b:Bool) (ok ov:gV) (oa:Obj),s.heap.get? it=some (iO (Ik a) b d i es.size ep ok ov)/\a≠it/\s.heap.get? a=some oa/\oa.cls = .type "tuple")
 size:acc.size=i
 nd:acc.toList.Nodup
 item:∀ j,j < i -> ∃ t e,acc[j]? = some (.ref t)/\es[j]? = some e/\s.heap.get? t=some { cls := .type "tuple",data := .seq #[e.key,e.val] }/\h0.get? t=none
theorem zm (hn:A.handled=none) {S it d:Addr} {es:Array G3} {ep:Nat} {res:gV} {R:NF->tv->Prop} (G:S≠it) (D7:S≠d) (D8:it≠d) (hz:es.size<=Fj) (h0:Heap) (Db:S < h0.objs.size->True) :
 ∀ (k i:Nat) (s:tv) (acc:Array gV) (c:Nat),es.size - i=k->i<=es.size->CP h0 s it d es ep i acc->s.heap.get? S=some { cls := .type "list",data := .seq acc c } ->
  (∀ b o,b≠it->b≠S->h0.get? b=some o->s.heap.get? b=some o) ->
  (∀ (h':Heap) (acc':Array gV) (c':Nat),(∀ b o,b≠it->b≠S->h0.get? b=some o->h'.get? b=some o)->h'.get? S=some { cls := .type "list",data := .seq acc' c' }->acc'.size=es.size->acc'.toList.Nodup->(∀ j,j < es.size -> ∃ t e,acc'[j]? = some (.ref t)/\es[j]? = some e/\h'.get? t=some { cls := .type "tuple",data := .seq #[e.key,e.val] }/\h0.get? t=none)->R (.ok (.ret res)) { s with heap:=h' }) ->
  Ja (model prog w) A (.builtin "list.extend.loop" ⟨[.ref S, .ref it,res],[]⟩) R s:=by
 intro k
 induction k with
 | zero =>
   intro i s acc c hk hi H O kp q;have J:i=es.size:=by lia
   obtain ⟨cd,dd,sl,hd⟩:=H.dict;refine HE Mu ?_;unfold GR.«list.extend.loop»;dsimp only;refine e6 ?_;have key:∀ (f0:gV) (b:Bool) (ok ov:gV),s.heap.get? it=some (iO f0 b d es.size es.size ep ok ov)->Fq (model prog w) (A.under (Nu "list.extend.loop" { pos := [FA S,FA it,res] })) (Ij (.ref it)) (fun a s'=>a=none /\ ∃ h',(∀ b o,b≠it->s.heap.get? b=some o->h'.get? b=some o)/\s' = { s with heap:=h' }) (fun e s'=>R (.error e) s') s:=by
    intro f0 b ok ov hi;refine nx_end hn hi hd fun h' kp'=>⟨rfl,h',kp',rfl⟩
   have Z:Fq (model prog w) (A.under (Nu "list.extend.loop" { pos := [FA S,FA it,res] })) (Ij (.ref it)) (fun a s'=>a=none /\ ∃ h',(∀ b o,b≠it->s.heap.get? b=some o->h'.get? b=some o)/\s' = { s with heap:=h' }) (fun e s'=>R (.error e) s') s:=by
    rcases H.iter with ⟨h0,e⟩ | ⟨h1,a,b,ok,ov,oa,e,_⟩
    ·refine key .none false .none .none ?_;rw [<- J,h0];rw [<- J,h0] at e;exact e
    ·refine key (Ik a) b ok ov ?_;rw [<- J];rw [<- J] at e;exact e
   refine Gw Z (fun a s' hs => ?_) fun _ _ z=>z;obtain ⟨rfl,h',kp',rfl⟩:=hs;refine D1 (q h' acc c (fun b o h1 h2 e=>kp' b o h1 (kp b o h1 h2 e)) (kp' S _ G O) (by rw [H.size];exact J) H.nd fun j hj => ?_)
   obtain ⟨t,e,e1,e2,B,e4⟩:=H.item j (by lia)
   refine ⟨t,e,e1,e2,kp' t _ (fun z => ?_) B,e4⟩
   rcases H.iter with ⟨_,e⟩ | ⟨_,a,b,ok,ov,oa,e,_⟩
   ·rw [z,e] at B;simp [iO] at B
   ·rw [z,e] at B;simp [iO] at B
 | succ k ih =>
   intro i s acc c hk hi H O kp q;have D9:i < es.size:=by lia
   obtain ⟨cd,dd,sl,hd⟩:=H.dict;have he:es[i]? = some es[i]:=FH D9;refine HE Mu ?_;unfold GR.«list.extend.loop»;dsimp only;refine e6 ?_;have key:Fq (model prog w) (A.under (Nu "list.extend.loop" { pos := [FA S,FA it,res] })) (Ij (.ref it)) (fun v s'=>v=some (.ref s.heap.objs.size) /\ ∃ (h':Heap) (a:Addr) (b:Bool) (ok ov:gV) (oa:Obj),s' = { s with heap:=h' }/\h'.get? it=some (iO (Ik a) b d (i+1) es.size ep ok ov)/\a≠it/\h'.get? a=some oa/\oa.cls = .type "tuple" /\ h'.get? s.heap.objs.size=some { cls := .type "tuple",data := .seq #[es[i].key,es[i].val] } /\ ∀ b o,b≠it->s.heap.get? b=some o->h'.get? b=some o) (fun e s'=>R (.error e) s') s:=by
    rcases H.iter with ⟨h0,e⟩ | ⟨h1,a,b,ok,ov,oa,e,e1,e2,B⟩
    ·subst h0;refine zk e hd he fun h' g1 g2 g3=>⟨rfl,h',_,_,_,_,_,rfl,g1, ?_,g2,rfl,g2,g3⟩;exact Gp (Fg e)
    ·refine zj e e1 e2 hd he fun h' g1 g2 g3=>⟨rfl,h',a,_,_,_,oa,rfl,g1,e1,g3 a oa e1 e2,B,g2,g3⟩
   refine Gw key (fun v s' hs => ?_) fun _ _ z=>z;obtain ⟨rfl,h',a,b,ok,ov,oa,rfl,g1,g2,g3,g4,g5,Y⟩:=hs;have L:=Fg O;refine e6 (Io (Y S _ G O) rfl ?_ (by rw [H.size];lia) (by simp [H.size];lia))
   refine D1 ⟨JV Kc _, ?_⟩;have gS:=HD (c := "list") (Y S _ G O) (fun x=>x.push (FA s.heap.objs.size));have oth:∀ b o,b≠S->h'.get? b=some o->(h'.update S (Hg fun x=>x.push (FA s.heap.objs.size))).get? b=some o:=fun b o hb e=>by rw [G9 _ _ _ _ hb];exact e
   have tup_ne:∀ t (o:Obj),s.heap.get? t=some o->o.cls = .type "tuple" -> t≠it/\t≠S:=fun t o e ec=>by
    constructor
    ·intro z
     rcases H.iter with ⟨_,e'⟩ | ⟨_,a,b,ok,ov,oa,e',_⟩
     ·rw [z,e'] at e;cases e;simp [iO] at ec
     ·rw [z,e'] at e;cases e;simp [iO] at ec
    ·intro z;rw [z,O] at e;cases e;simp at ec
   refine ih (i+1) _ _ _ (by lia) (by lia) ⟨⟨cd,dd,sl,oth d _ D7.symm (Y d _ D8.symm hd)⟩, .inr ⟨by lia,a,b,ok,ov,oa,oth it _ G.symm g1,g2,oth a _ ?_ g3,g4⟩,by simp [H.size], ?_, ?_⟩ gS (fun b o h1 h2 e=>oth b o h2 (Y b o h1 (kp b o h1 h2 e))) fun h2 D4 c2=>q h2 D4 c2
   ·intro z;rw [z,Y S _ G O] at g3;cases g3;simp at g4
   ·rw [Fv];refine Ic.mpr ⟨H.nd,by simp,fun x hx y hy Da => ?_⟩
    simp at hy;subst hy Da;obtain ⟨j,hj,ej⟩:=Hb.mp hx;obtain ⟨t,e,e1,e2,B,e4⟩:=H.item j (by rw [<- H.size];simpa using hj)
    have e5:acc[j]? = some (FA s.heap.objs.size):=by
     rw [<- FG,Fe hj,ej]
    rw [e5] at e1;cases e1;exact absurd (Fg B) (Gy _)
   ·intro j hj
    by_cases D5:j < i
    ·obtain ⟨t,e,e1,e2,B,e4⟩:=H.item j D5;obtain ⟨t1,t2⟩:=tup_ne t _ B rfl;refine ⟨t,e, ?_,e2,oth t _ t2 (Y t _ t1 B),e4⟩;rw [Array.getElem?_push_lt (by rw [H.size];exact D5)]
     rw [<- e1,FH]
    ·have:j=i:=by lia
     subst this;have U:it < s.heap.objs.size:=by
      rcases H.iter with ⟨_,e'⟩ | ⟨_,a,b,ok,ov,oa,e',_⟩
      ·exact Fg e'
      ·exact Fg e'
     have D6:h0.get? s.heap.objs.size=none:=by
      cases hq:h0.get? s.heap.objs.size with
      | none=>rfl
      | some o=>exact absurd (Fg (kp _ _ (Gp U) (Gp L) hq)) (Gy _)
     refine ⟨s.heap.objs.size,es[j], ?_,he,oth _ _ (Gp L) g5,D6⟩;have:=H.size;subst this;simp
end
end It
end L2
namespace L2
namespace It
open PySem PySem.Spec PyProof.Rows
section
variable {prog:FI} {w:G2} {A:G8} {E:gV->tv->Prop} {s:tv}
theorem it_view {v d:Addr} {es:Array G3} {ep:Nat} {cd:gV} {dd:Option Addr} {sl:Array (Option gV)} {Q:gV->tv->Prop} (j:s.heap.get? v=some { cls := .type "dict_items",data := .fields #[.ref d] }) (hd:s.heap.get? d=some { cls:=cd,dict:=dd,data := .dict es ep,slots:=sl })
 (q:Q (.ref s.heap.objs.size) { s with heap:=s.heap.push (iO .none false d 0 es.size ep .none .none) }):Fq (model prog w) A (Lh (.ref v)) Q E s:=by
 have ty:s.TypeIs (.ref v) "dict_items" := ⟨_,j,rfl⟩;refine KN ty Lu (FZ Lu ty F.entry_dict_items_iter ?_ (F.args_dict_items_iter_1 _));unfold GR.«dict_items.__iter__»
 wp_walk
 exact ⟨_,rfl, "dict_itemiterator",_,⟨_,Fh _ rfl,rfl⟩,slot_next.lookup,q⟩
theorem u8 {v d:Addr} {Q:Bool->tv->Prop} (B:s.heap.get? v=some { cls := .type "dict_items",data := .fields #[.ref d] }) (q:Q false s):Fq (model prog w) A (HN (.ref v)) Q E s:=by
 have ty:s.TypeIs (.ref v) "dict_items" := ⟨_,B,rfl⟩;unfold HN;refine e6 (wpAny_specialOf ty F.slot_dict_items_len.lookup ?_);generalize j:("dict_items.__len__":String)=z
 (fail_if_success (clear j z));wp_delta
 rw [show splitId z=some ("dict_items", "__len__") from by subst j;decide +kernel]
 subst j;refine e6 (HU (b:=true) ty (by rw [HZ];kernel_rfl) ?_)
 rw [if_neg (by decide)]
 refine JE (by decide +kernel) ?_
 refine e6 (Hq ty ?_);exact D1 q
open Builtin.List in
theorem wu {B:G8} (hn:A.handled=none) {S v d:Addr} {es:Array G3} {ep c:Nat} {cd:gV} {dd:Option Addr} {sl:Array (Option gV)} {R:NF->tv->Prop} (res:gV) (J:s.heap.get? v=some { cls := .type "dict_items",data := .fields #[.ref d] }) (hd:s.heap.get? d=some { cls:=cd,dict:=dd,data := .dict es ep,slots:=sl }) (G:s.heap.get? S=some { cls := .type "list",data := .seq #[] c }) (hz:es.size<=Fj)
 (q:∀ (h':Heap) (acc':Array gV) (c':Nat),(∀ b o,b≠S->s.heap.get? b=some o->h'.get? b=some o)->h'.get? S=some { cls := .type "list",data := .seq acc' c' }->acc'.size=es.size->acc'.toList.Nodup->(∀ j,j < es.size -> ∃ t e,acc'[j]? = some (.ref t)/\es[j]? = some e/\h'.get? t=some { cls := .type "tuple",data := .seq #[e.key,e.val] }/\s.heap.get? t=none)->R (.ok (.ret res)) { s with heap:=h' }) :
 Fq (model prog w) B (listExtendWith (.ref S) (.ref v) res) (fun fin s'=>match fin with | .done f=>R (.ok f) s' | .again c'=>c'.quiet=true/\Ja (model prog w) A c' R s') (fun e s'=>R (.error e) s') s:=by
 have ty:s.TypeIs (.ref v) "dict_items" := ⟨_,J,rfl⟩;have D4:S≠v:=fun e=>by rw [e,J] at G;simp at G
 have L:S≠d:=fun e=>by rw [e,hd] at G;simp at G
 have O:=Fg hd;have z:=Fg G;have D6:=Fg J;have h1:listSameRef (.ref S) (.ref v)=false:=by simp [listSameRef,D4]
 unfold listExtendWith;refine e6 (Hq ty ?_);rw [if_neg (by rw [h1];decide)]
 refine e6 (it_view J hd ?_);refine e6 (Gc (u8 (d:=d) (q7 _ J) ?_));refine JE (by decide +kernel) ?_
 refine e6 (Hz ?_);unfold listTouch;have U:(s.heap.push (iO .none false d 0 es.size ep .none .none)).get? S=some (N3 "list" #[] c):=q7 _ G;refine e6 (e6 (Io U rfl ?_ (by simp) (by simp)))
 have Y:=HD U (fun x=>x.push He);refine Io Y rfl ?_ (by simp;decide) (by simp)
 have D5:=HD Y (fun x=>x.pop);refine D1 ⟨JV Kc _, ?_⟩;have oth:∀ b o,b≠S->s.heap.get? b=some o->(((s.heap.push (iO .none false d 0 es.size ep .none .none)).update S (Hg fun x=>x.push He)).update S (Hg fun x=>x.pop)).get? b=some o:=fun b o Z e=>by
  rw [G9 _ _ _ _ Z,G9 _ _ _ _ Z];exact q7 _ e
 have hit:(((s.heap.push (iO .none false d 0 es.size ep .none .none)).update S (Hg fun x=>x.push He)).update S (Hg fun x=>x.pop)).get? s.heap.objs.size=some (iO .none false d 0 es.size ep .none .none):=by
  rw [G9 _ _ _ _ (Gp z),G9 _ _ _ _ (Gp z)];exact Fh _ rfl
 refine zm hn (S:=S) (it:=s.heap.objs.size) (d:=d) (es:=es) (ep:=ep) (FR z) L (Gp O) hz s.heap (fun _=>trivial) es.size 0 _ #[] _ (by lia) (by lia) ⟨⟨cd,dd,sl,oth d _ L.symm hd⟩, .inl ⟨rfl,hit⟩,rfl,by simp,fun j hj=>by lia⟩ D5 (fun b o h1 h2 e=>oth b o h2 e) fun h' acc' c' k1 k2 k3 k5 k4 => ?_
 exact q h' acc' c' (fun b o Z e=>k1 b o (FR (Fg e)) Z e) k2 k3 k5 k4
theorem collect_view (hn:A.handled=none) {v d:Addr} {es:Array G3} {ep:Nat} {cd:gV} {dd:Option Addr} {sl:Array (Option gV)} {Q:List gV->tv->Prop} (Y:s.heap.get? v=some { cls := .type "dict_items",data := .fields #[.ref d] }) (hd:s.heap.get? d=some { cls:=cd,dict:=dd,data := .dict es ep,slots:=sl }) (hz:es.size<=Fj)
 (q:∀ (h':Heap) (us:List gV),(∀ b o,s.heap.get? b=some o->h'.get? b=some o)->us.length=es.size->us.Nodup->(∀ j,j < es.size -> ∃ t e,us[j]? = some (.ref t)/\es[j]? = some e/\h'.get? t=some { cls := .type "tuple",data := .seq #[e.key,e.val] }/\s.heap.get? t=none)->Q us { s with heap:=h' }):Fq (model prog w) A (collect (.ref v)) Q E s:=by
 unfold collect;refine e6 (wpAny_runValue (HE LH ?_));unfold GR.«proto.collect»;dsimp only;refine e6 (JT ?_ (by simp))
 refine D1 ⟨N4 _ (by decide +kernel), ?_⟩
 refine HE NO ?_;unfold GR.«list.__iadd__»;refine e6 (HR (a:=(FA s.heap.objs.size,[FA v])) (by kernel_rfl) ?_)
 have Z:=Fg Y;have z:(s.heap.push { cls:=FV "list",data:=Ir [].toArray }).get? s.heap.objs.size=some { cls:=FV "list",data:=Ir #[] 0 }:=Fh _ rfl;have fin:∀ (h':Heap) (acc:Array gV) (c':Nat),(∀ b o,b≠s.heap.objs.size->(s.heap.push { cls:=FV "list",data:=Ir [].toArray }).get? b=some o->h'.get? b=some o)->h'.get? s.heap.objs.size=some { cls := .type "list",data := .seq acc c' }->acc.size=es.size->acc.toList.Nodup->(∀ j,j < es.size -> ∃ t e,acc[j]? = some (.ref t)/\es[j]? = some e/\h'.get? t=some { cls := .type "tuple",data := .seq #[e.key,e.val] }/\(s.heap.push { cls:=FV "list",data:=Ir [].toArray }).get? t=none) ->
  Fq (model prog w) A (do
   let o <- load s.heap.objs.size
   match o.data with
   | .seq xs _=>pure xs.toList
   | _=>unsupported "internal:collect") Q E { s with heap:=h' }:=by
  intro h' acc c' B G J L O;refine e6 (Oi G ?_);exact D1 (q h' acc.toList (fun b o e=>B b o (FR (Fg e)) (q7 _ e)) (by simpa using J) L fun j hj=>by
   obtain ⟨t,e,e1,e2,e3,e4⟩:=O j hj;refine ⟨t,e,by rw [FG];exact e1,e2,e3, ?_⟩
   cases hq:s.heap.get? t with
   | none=>rfl
   | some o=>rw [q7 _ hq] at e4;cases e4)
 refine Gw (wu (s := { s with heap:=s.heap.push { cls:=FV "list",data:=Ir [].toArray } }) (R:=fun r s'=>r = .ok (.ret (.ref s.heap.objs.size))/\Fq (model prog w) A (do
  let o <- load s.heap.objs.size
  match o.data with
  | .seq xs _=>pure xs.toList
  | _=>unsupported "internal:collect") Q E s') hn (FA s.heap.objs.size) (q7 _ Y) (q7 _ hd) z hz fun h' acc c' B G J L O=>⟨rfl,fin h' acc c' B G J L O⟩) (fun fn s' h => ?_) (fun e s' h => ?_)
 ·cases fn with
  | done f =>
    obtain ⟨e,h⟩:=h
    cases e
    exact h
  | again c' =>
    refine ⟨h.1,IW h.2 fun r s1 U => ?_⟩;obtain ⟨rfl,U⟩:=U;exact U
 ·cases h.1
end
end It
end L2
namespace L2
open PySem PySem.Spec PyProof.Rows
section
section
variable {P:FI} {w:G2} {H:Hp} {h:Heap} {a:Addr} {o:HO}
theorem ObjOk.there (x:ObjOk P w H h a o):∃ ob,h.get? a=some ob:=by
 cases o with
 | lst xs=>obtain ⟨_,_,_,_,e⟩:=x;exact ⟨_,e⟩
 | tup xs=>obtain ⟨_,_,_,_,e,_⟩:=x;exact ⟨_,e⟩
 | dK kvs=>obtain ⟨_,_,_,_,o,_,_,e,_⟩:=x;exact ⟨_,e⟩
 | dT kvs=>obtain ⟨_,_,_,_,o,_,_,e,_⟩:=x;exact ⟨_,e⟩
 | set S n=>obtain ⟨o,_,_,_,e,_⟩:=x;exact ⟨_,e⟩
 | ins C dx fs=>obtain ⟨_,_,_,e,_⟩:=x;exact ⟨_,e⟩
 | own y=>obtain ⟨_,e⟩:=x;exact ⟨_,e⟩
 | xd fs=>obtain ⟨_,⟨_,_,_,e,_⟩,_⟩:=x;exact ⟨_,e⟩
 | rng lo hi=>obtain ⟨_,_,_,e⟩:=x;exact ⟨_,e⟩
 | frz ob u=>obtain ⟨e,_⟩:=x;exact ⟨_,e⟩
 | tbl ps=>exact ⟨_,show h.get? a=some _ from x⟩
 | met f y=>exact ⟨_,show h.get? a=some _ from x⟩
 | ext φ => obtain ⟨_,⟨_,e⟩,_⟩:=x;exact ⟨_,e⟩
end
noncomputable def lay (H:Hp) (N:Addr->Option HO):Hp:=fun b=>match N b with | some o=>some o | none=>H b
section
variable {X:Cx} {pins:List (Addr×Obj)} {σ:List (Option V)} {H:Hp} {s:tv} {h':Heap} {N:Addr->Option HO}
theorem jY {b:Addr} {o:HO} (e:N b=some o):lay H N b=some o:=by unfold lay;rw [e]
theorem gL {b:Addr} (e:N b=none):lay H N b=H b:=by unfold lay;rw [e]
theorem Inv.fresh' (I:Inv X pins σ H s) {b:Addr} (e:s.heap.get? b=none):H b=none:=by
 cases q:H b with
 | none=>rfl
 | some o=>obtain ⟨ob,eo⟩:=(I.hok b o q).there;rw [e] at eo;cases eo
theorem Inv.laidN {t':Nat} (I:Inv X pins σ H s) (k:∀ b u,s.heap.get? b=some u->h'.get? b=some u) (j:∀ b o,N b=some o->s.heap.get? b=none) (new:∀ b o,N b=some o->ObjOk X.prog X.w (lay H N) h' b o):Inv X pins σ (lay H N) { s with heap:=h',toks:=t' }:=by
 have old:∀ b u,s.heap.get? b=some u->N b=none:=fun b u e=>by
  cases q:N b with
  | none=>rfl
  | some o=>rw [j b o q] at e;cases e
 have oldH:∀ b o,H b=some o->lay H N b=some o:=fun b o e=>by
  obtain ⟨ob,eo⟩:=(I.hok b o e).there;rw [gL (old b ob eo)];exact e
 refine I.un ⟨fun b u q _ _ _=>k b u q,fun b u q _ _ _=>⟨u.slots,k b u q⟩,fun b u q n _=>by rw [gL (old b u q)];exact n,fun b u q _=>⟨u,k b u q⟩,fun b xs q=>oldH b _ q,fun b u xs q=>oldH b _ q,fun b ps q=>⟨#[],by rw [oldH b _ q];simp⟩⟩ fun b o e => ?_
 cases q:N b with
 | some o'=>rw [jY q] at e;cases e;exact new b o q
 | none =>
   rw [gL q] at e;exact (I.hok b o e).stay (fun c v _ q=>k c v q) (fun c q=>oldH c _ q) fun c xs q=>oldH c _ q
end
namespace Mi
open L2.Srt
inductive Sh where
 | int
 | tup (l:List Sh)
mutual
noncomputable def hs:Sh->D->Bool
 | .int, .int _=>true
 | .tup l, .tup ds=>hss l ds
 | _,_=>false
noncomputable def hss:List Sh->List D->Bool
 | [],[] => true
 | s::l,d::ds=>hs s d&&hss l ds
 | _,_=>false
end
mutual
noncomputable def pd:D->GA
 | .int i => .int i
 | .tup ds => .tuple (pds ds)
 | _ => .none
noncomputable def pds:List D->List GA
 | [] => []
 | d::ds=>pd d::pds ds
end
mutual
noncomputable def dep:Sh->Nat
 | .int => 0
 | .tup l=>deps l+1
noncomputable def deps:List Sh->Nat
 | [] => 0
 | s::l=>max (dep s) (deps l)
end
noncomputable def fP:Sh->Bool
 | .int=>true
 | .tup (.int::l)=>decide (deps l<=6)
 | .tup (.tup a::l)=>decide (deps (.tup a::l)<=6)
 | .tup [] => false
noncomputable def kyD (d:D):Ky:=toK (pd d)
mutual
theorem u9:∀ (s:Sh) (x y:D),hs s x=true->hs s y=true->Cmpb (pd x) (pd y)
 | .int, .int a, .int b,_,_=>by simp only [pd];exact .int a b
 | .tup l, .tup a, .tup b,h,g=>by simp only [hs] at h g;simp only [pd];exact hss_cmp l a b h g
 | .int, .int _, .non,_,g=>by simp [hs] at g
 | .int, .int _, .bl _,_,g=>by simp [hs] at g
 | .int, .int _, .str _,_,g=>by simp [hs] at g
 | .int, .int _, .tup _,_,g=>by simp [hs] at g
 | .int, .int _, .con _,_,g=>by simp [hs] at g
 | .int, .int _, .ref _,_,g=>by simp [hs] at g
 | .int, .non,_,h,_=>by simp [hs] at h
 | .int, .bl _,_,h,_=>by simp [hs] at h
 | .int, .str _,_,h,_=>by simp [hs] at h
 | .int, .tup _,_,h,_=>by simp [hs] at h
 | .int, .con _,_,h,_=>by simp [hs] at h
 | .int, .ref _,_,h,_=>by simp [hs] at h
 | .tup _, .non,_,h,_=>by simp [hs] at h
 | .tup _, .bl _,_,h,_=>by simp [hs] at h
 | .tup _, .int _,_,h,_=>by simp [hs] at h
 | .tup _, .str _,_,h,_=>by simp [hs] at h
 | .tup _, .con _,_,h,_=>by simp [hs] at h
 | .tup _, .ref _,_,h,_=>by simp [hs] at h
 | .tup _, .tup _, .non,_,g=>by simp [hs] at g
 | .tup _, .tup _, .bl _,_,g=>by simp [hs] at g
 | .tup _, .tup _, .int _,_,g=>by simp [hs] at g
 | .tup _, .tup _, .str _,_,g=>by simp [hs] at g
 | .tup _, .tup _, .con _,_,g=>by simp [hs] at g
 | .tup _, .tup _, .ref _,_,g=>by simp [hs] at g
theorem hss_cmp:∀ (l:List Sh) (a b:List D),hss l a=true->hss l b=true->Cmpb (.tuple (pds a)) (.tuple (pds b))
 | [],[],[],_,_=>by simp only [pds];exact .nil _
 | [],[],_::_,_,g=>by simp [hss] at g
 | [],_::_,_,h,_=>by simp [hss] at h
 | _::_,[],_,h,_=>by simp [hss] at h
 | _::_,_::_,[],_,g=>by simp [hss] at g
 | s::l,x::a,y::b,h,g=>by
   simp only [hss,D0] at h g;simp only [pds];exact .cons (u9 s x y h.1 g.1) (hss_cmp l a b h.2 g.2)
end
mutual
theorem jm:∀ (s:Sh) (x:D),hs s x=true->Pl (pd x)/\(pd x).canLay0=true/\(pd x).depth<=dep s
 | .int, .int a,_=>by simp only [pd];exact ⟨.int a,rfl,by simp [Iz]⟩
 | .tup l, .tup a,h=>by
  simp only [hs] at h;obtain ⟨h1,h2,j⟩:=hss_pl l a h;simp only [pd];exact ⟨.tup _ h1,by simpa [JD] using h2,by simp [Iz,dep];lia⟩
 | .int, .non,h=>by simp [hs] at h
 | .int, .bl _,h=>by simp [hs] at h
 | .int, .str _,h=>by simp [hs] at h
 | .int, .tup _,h=>by simp [hs] at h
 | .int, .con _,h=>by simp [hs] at h
 | .int, .ref _,h=>by simp [hs] at h
 | .tup _, .non,h=>by simp [hs] at h
 | .tup _, .bl _,h=>by simp [hs] at h
 | .tup _, .int _,h=>by simp [hs] at h
 | .tup _, .str _,h=>by simp [hs] at h
 | .tup _, .con _,h=>by simp [hs] at h
 | .tup _, .ref _,h=>by simp [hs] at h
theorem hss_pl:∀ (l:List Sh) (a:List D),hss l a=true->(∀ x∈pds a,Pl x)/\GH (pds a)=true/\HA (pds a)<=deps l
 | [],[],_=>by simp [pds,GH,HA]
 | [],_::_,h=>by simp [hss] at h
 | _::_,[],h=>by simp [hss] at h
 | s::l,x::a,h=>by
   simp only [hss,D0] at h;obtain ⟨h1,h2,q⟩:=jm s x h.1;obtain ⟨g1,g2,g3⟩:=hss_pl l a h.2;simp only [pds];refine ⟨fun y j => ?_,by simp [GH,h2,g2],by simp [HA,deps];lia⟩
   rcases Fo.mp j with z | z
   ·rw [z];exact h1
   ·exact g1 y z
end
mutual
theorem lK (M:Mem):∀ (s:Sh) (x:D) (n:Nat),hs s x=true->dep s<=n->rb n M x=some (pd x)
 | .int, .int a,n,_,_=>by cases n <;> simp [rb,pd]
 | .tup l, .tup a,n,h,j=>by
  simp only [hs] at h;simp only [dep] at j;obtain ⟨k,rfl⟩:∃ k,n=k+1:=⟨n - 1,by lia⟩
  simp only [rb,pd];rw [hss_rb M l a k h (by lia)];rfl
 | .int, .non,_,h,_=>by simp [hs] at h
 | .int, .bl _,_,h,_=>by simp [hs] at h
 | .int, .str _,_,h,_=>by simp [hs] at h
 | .int, .tup _,_,h,_=>by simp [hs] at h
 | .int, .con _,_,h,_=>by simp [hs] at h
 | .int, .ref _,_,h,_=>by simp [hs] at h
 | .tup _, .non,_,h,_=>by simp [hs] at h
 | .tup _, .bl _,_,h,_=>by simp [hs] at h
 | .tup _, .int _,_,h,_=>by simp [hs] at h
 | .tup _, .str _,_,h,_=>by simp [hs] at h
 | .tup _, .con _,_,h,_=>by simp [hs] at h
 | .tup _, .ref _,_,h,_=>by simp [hs] at h
theorem hss_rb (M:Mem):∀ (l:List Sh) (a:List D) (n:Nat),hss l a=true->deps l<=n->au (rb n M) a=some (pds a)
 | [],[],_,_,_=>by simp [pds,au]
 | [],_::_,_,h,_=>by simp [hss] at h
 | _::_,[],_,h,_=>by simp [hss] at h
 | s::l,x::a,n,h,j=>by
   simp only [hss,D0] at h;simp only [deps] at j;simp only [pds,au];rw [lK M s x n h.1 (by lia),hss_rb M l a n h.2 (by lia)];rfl
end
theorem ir {s:Sh} (h:fP s=true):dep s<=7:=by
 match s,h with
 | .int,_=>simp [dep]
 | .tup (.int::l),h=>simp [fP] at h;simp [dep,deps];lia
 | .tup (.tup a::l),h=>simp only [fP,decide_eq_true_eq] at h;simp only [dep];lia
theorem pK {s:Sh} (h:fP s=true) {xs:List D} (hx:∀ x∈xs,hs s x=true):nC 7 (xs.map pd) /\ ∀ d∈xs.map pd,Pl d:=by
 refine ⟨⟨?_, ?_, ?_⟩, ?_⟩
 ·intro d hd e he;obtain ⟨x,h1,rfl⟩:=Fw.mp hd;obtain ⟨y,h2,rfl⟩:=Fw.mp he;exact u9 s x y (hx x h1) (hx y h2)
 ·intro d hd;obtain ⟨x,h1,rfl⟩:=Fw.mp hd;obtain ⟨_,g2,g3⟩:=jm s x (hx x h1);exact ⟨g2,by have:=ir h;lia⟩
 ·match s,h with
  | .int,_ =>
   left
   intro d hd;obtain ⟨x,h1,rfl⟩:=Fw.mp hd;have:=hx x h1
   cases x <;> simp [hs] at this
   exact ⟨_,rfl⟩
  | .tup (.int::l),_ =>
   right;left
   intro d hd;obtain ⟨x,h1,rfl⟩:=Fw.mp hd;have:=hx x h1
   cases x <;> simp [hs] at this
   rename_i ds
   cases ds with
   | nil=>simp [hss] at this
   | cons y ys =>
     simp [hss] at this
     cases y <;> simp [hs] at this
     exact ⟨_,_,rfl⟩
  | .tup (.tup a::l),_ =>
   right;right
   intro d hd;obtain ⟨x,h1,rfl⟩:=Fw.mp hd;have:=hx x h1
   cases x <;> simp [hs] at this
   rename_i ds
   cases ds with
   | nil=>simp [hss] at this
   | cons y ys =>
     simp [hss] at this
     cases y <;> simp [hs] at this
     exact ⟨_,_,rfl⟩
 ·intro d hd;obtain ⟨x,h1,rfl⟩:=Fw.mp hd;exact (jm s x (hx x h1)).1
theorem dP {α β:Type} (f : α -> β):∀ {l m:List β},l.Perm m -> ∀ {t:List α},t.map f=m -> ∃ t':List α,t'.Perm t/\t'.map f=l:=by
 intro l m h
 induction h with
 | nil=>intro t e;exact ⟨[],by rw [List.map_eq_nil_iff.mp e],rfl⟩
 | cons x h ih =>
   intro t e
   cases t with
   | nil=>simp at e
   | cons a t =>
     simp at e;obtain ⟨t',h1,h2⟩:=ih e.2;exact ⟨a::t',h1.cons a,by simp [h2,e.1]⟩
 | swap x y l =>
   intro t e
   match t,e with
   | a::b::t,e =>
     simp at e;exact ⟨b::a::t, .swap _ _ _,by simp [e]⟩
 | trans h1 h2 j q =>
   intro t e;obtain ⟨B,p2,e2⟩:=q e;obtain ⟨t1,z,e1⟩:=j e2;exact ⟨t1,z.trans p2,e1⟩
def fg (ys:List D):Prop:=ys.Pairwise fun a b=>ltK (kyD b) (kyD a)=false
theorem pL {K:Frag} {H:Hp}:∀ {ds:List D} {vs:List V} {us:List gV},RDs K H ds vs->Vals vs us -> ∃ t:List (D×V×gV),t.map (·.1)=ds/\t.map (·.2.1)=vs/\t.map (·.2.2)=us /\ ∀ p∈t,RD K H p.1 p.2.1/\RelV p.2.1 p.2.2
 | [],vs,us,h,g=>by
  cases RDs.nil_iff.mp h
  cases g
  exact ⟨[],rfl,rfl,rfl,fun _ h=>by simp at h⟩
 | d::ds,vs,us,h,g=>by
   obtain ⟨v,r,rfl,h1,h2⟩:=OM.mp h
   cases g with
   | cons g1 g2 =>
     rename_i u us;obtain ⟨t,e1,e2,j,q⟩:=pL h2 g2;exact ⟨(d,v,u)::t,by simp [e1],by simp [e2],by simp [j],fun p B=>by
      rcases Fo.mp B with z | z
      ·rw [z];exact ⟨h1,g1⟩
      ·exact q p z⟩
theorem pM {K:Frag} {H:Hp}:∀ {t:List (D×V×gV)},(∀ p∈t,RD K H p.1 p.2.1/\RelV p.2.1 p.2.2)->RDs K H (t.map (·.1)) (t.map (·.2.1))/\Vals (t.map (·.2.1)) (t.map (·.2.2))
 | [],_=>⟨RDs.nil, .nil⟩
 | p::t,h=>by
   obtain ⟨h1,h2⟩:=pM (t:=t) fun q j=>h q (by simp [j])
   exact ⟨RDs.cons (h p (by simp)).1 h1, .cons (h p (by simp)).2 h2⟩
section
variable {X:Cx}
theorem oS {cap:Nat} (S:gI cap) (L:X.A.units+16 < HQ) {pins:List (Addr×Obj)} {s:tv} {σ:St} {H:Hp} {Q:VK} (I:Inv X pins σ H s) {M:Mem} (rm:RM X.K M H) {es:List D} {sh:Sh} {vs:List V} {p:Addr} (rvs:RDs X.K H es vs) (hok:fP sh=true) (O:∀ d∈es,hs sh d=true)
 (q:∀ p ys,M p=none->ys.Perm es->fg ys->KE' X.K M H Q (.ref p) (ag M p (.lst ys))) {its:List gV} (hv:Vals vs its) (hl:vs.length<=Fj) (D6:vs.length<=cap)
 (U:∀ (E:gV->tv->Prop) (R:List gV->tv->Prop),(∀ (h':Heap) (tk:Nat),(∀ b o,s.heap.get? b=some o->h'.get? b=some o)->s.toks<=tk->R its { s with heap:=h',toks:=tk })->Fq (Fz X.prog X.w) X.A.in1 (collect (.ref p)) R E s) :
 Fq (Fz X.prog X.w) X.A (call (.builtin "sorted") [.ref p]) (EP X pins σ Q) X.xe s:=by
 obtain ⟨hS,J⟩:=pK hok O;have D9:=ir hok;obtain ⟨t,t1,t2,t3,t4⟩:=pL rvs hv;have Y:∀ pp∈t, ∃ as,J8 s.heap pp.2.2 (pd pp.1) as:=fun pp j=>by
  have hm:pp.1∈es:=by rw [<- t1];exact Fy j
  exact bm I rm 16 pp.1 (pd pp.1) pp.2.1 pp.2.2 (lK M sh pp.1 16 (O _ hm) (by lia)) (t4 pp j).1 (t4 pp j).2
 have Z:RdL s.heap its (es.map pd):=fun u L=>by
  rw [<- t3] at L;obtain ⟨pp,j,rfl⟩:=Fw.mp L;obtain ⟨as,ra⟩:=Y pp j;exact ⟨pd pp.1,Fy (by rw [<- t1];exact Fy j),as,ra⟩
 refine lc S (m := 7) (ds:=es.map pd) (C:=fun h' vs'=>vs'=its /\ ∀ b o,s.heap.get? b=some o->h'.get? b=some o) (by lia) hS J (fun E R hR => ?_) fun h1 h2 vs' out n' tk hC old g2 F D4 Da Db ht => ?_
 ·refine U E R fun h' tk kp D7=>hR h' its tk ⟨rfl,kp⟩ (fun u L => ?_) ⟨by rw [<- hv.length];exact hl,by rw [<- hv.length];exact D6⟩ D7
  obtain ⟨d,hd,as,ra⟩:=Z u L;exact ⟨d,hd,as,aT (fun b o e _=>kp b o e) (J d hd) ra⟩
 ·obtain ⟨rfl,kp⟩:=hC;rw [<- t3] at F;obtain ⟨t',p1,p2⟩:=dP (fun pp:D×V×gV=>pp.2.2) F rfl;have hz:=pM (t:=t') fun pp j=>t4 pp (p1.mem_iff.mp j);have D5:∀ b o,s.heap.get? b=some o->h2.get? b=some o:=fun b o e=>old b o (kp b o e);have z:s.heap.get? h1.objs.size=none:=by
   cases hq:s.heap.get? h1.objs.size with
   | none=>rfl
   | some o=>exact absurd (Fg (kp _ _ hq)) (Gy _)
  have D8:=I.fresh' z;have hlen:(t'.map (·.2.1)).length<=Fj:=by
   rw [Fd,p1.length_eq, <- Fd (f:=fun pp:D×V×gV=>pp.2.1),t2];exact hl
  have I2:=I.laidN (t':=tk) (h':=h2) (N:=fun b=>if b=h1.objs.size then some (.lst (t'.map (·.2.1))) else none) D5 (fun b o e=>by
   by_cases B:b=h1.objs.size
   ·rw [B];exact z
   ·rw [if_neg B] at e;cases e) (fun b o e=>by
   by_cases B:b=h1.objs.size
   ·subst B;rw [if_pos rfl] at e;cases e;exact ⟨hlen,out,n',by rw [<- p2];exact hz.2,g2⟩
   ·rw [if_neg B] at e;cases e)
  have eH:lay H (fun b=>if b=h1.objs.size then some (.lst (t'.map (·.2.1))) else none)=upd H h1.objs.size (.lst (t'.map (·.2.1))):=by
   funext b
   unfold lay upd;dsimp only
   by_cases B:b=h1.objs.size
   ·rw [if_pos B,if_pos B]
   ·rw [if_neg B,if_neg B]
  rw [eH] at I2;refine ⟨.ref h1.objs.size,_,I2,rfl, ?_⟩;refine cC rm hz.1 (fun p' n=>q p' _ n ?_ ?_) D8
  ·have:=p1.map (fun pp:D×V×gV=>pp.1);rw [t1] at this;exact this
  ·unfold fg;rw [G7];rw [<- p2,G7] at D4;refine D4.imp_of_mem fun {a b} ha B hab => ?_;have rd:∀ pp∈t',GZ h2 pp.2.2=pd pp.1:=fun pp j=>by
    have G:=p1.mem_iff.mp j;obtain ⟨as,ra⟩:=Y pp G;have hm:pp.1∈es:=by rw [<- t1];exact Fy G
    exact HC (hS.lay _ (Fy hm)).1 (aT (fun b o e _=>D5 b o e) (J _ (Fy hm)) ra)
   rw [rd a ha,rd b B] at hab;exact hab
end
end Mi
end
end L2
namespace L2
namespace Mi
open PySem PySem.Spec PyProof.Rows L2.Srt
noncomputable def kvD (kv:D×D):D := .tup [kv.1,kv.2]
noncomputable def fQ (ta:TEd):TEd:=fun ρ M Q=>ta ρ M fun x M1 => ∃ a t kvs sh,x = .ref a/\M1 a=some (.dct t kvs)/\fP sh=true/\(∀ kv∈kvs,hs sh (kvD kv)=true) /\ ∀ p ys,M1 p=none->ys.Perm (kvs.map kvD)->fg ys->Q (.ref p) (ag M1 p (.lst ys))
theorem qW {ta:TEd} (h:ad ta):ad (fQ ta):=fun ρ M Q Q' i q=>h _ _ _ _ (fun x F ⟨a,t,kvs,sh,e,e1,e2,j,z⟩=>⟨a,t,kvs,sh,e,e1,e2,j,fun p ys n B hs=>i _ _ (z p ys n B hs)⟩) q
def fR (K:Frag) (H:Hp) (kv:D×D) (e:G3):Prop := ∃ kV vV,RD K H kv.1 kV/\RelV kV e.key/\RD K H kv.2 vV/\RelV vV e.val
theorem pN {K:Frag} {H:Hp} {d:D} {k:Key} (h:RKey d k):RD K H d (kV k):=by
 cases d <;> first
  | exact h.elim
  | (cases h;first | exact OK.mpr rfl | exact OS.mpr rfl)
theorem lf {K:Frag} {H:Hp}:∀ {ds:List D} {ks:List Key},G5 RKey ds ks->RDs K H ds (ks.map kV)
 | _,_, .nil=>RDs.nil
 | _,_, .cons r t=>RDs.cons (pN r) (lf t)
theorem xJ {P:FI} {w:G2} {K:Frag} {H:Hp}:∀ {kvs:List (D×D)} {ps:List (Key×V)} {vs:List (Key×gV)} {es:List G3},G5 (fun (p:D×D) (q:Key×V)=>RKey p.1 q.1/\RD K H p.2 q.2) kvs ps->KV ps vs->Pairs (aD P w) es vs->G5 (fR K H) kvs es
 | _,_,_,_, .nil, .nil, .nil => .nil
 | _,_,_,_, .cons j t1, .cons z B, .cons h1 h2 t3=>by
   refine .cons ⟨kV _,_,pN j.1, ?_,j.2,by rw [h2];exact z.2⟩ (xJ t1 B t3)
   rw [<- z.1] at h1
   rcases aI h1 with ⟨i,t,e1,e2⟩ | ⟨x,t,e1,e2⟩
   ·rw [e1,e2];exact ⟨t,rfl⟩
   ·rw [e1,e2];exact ⟨t,rfl⟩
theorem xK {P:FI} {w:G2} {K:Frag} {H:Hp}:∀ {kvs:List (D×D)} {ps:List (List Key×V)} {xs:List (List Key×Addr×gV)},G5 (fun (p:D×D) (q:List Key×V)=>RKeys p.1 q.1/\RD K H p.2 q.2) kvs ps->G5 (fun (p:List Key×V) (q:List Key×Addr×gV)=>p.1=q.1/\H q.2.1=some (.tup (p.1.map kV))/\RelV p.2 q.2.2) ps xs->G5 (fR K H) kvs (xs.map (entryOfKey (Jl (aD P w))))
 | _,_,_, .nil, .nil => .nil
 | kv::_,_,_, .cons z t1, .cons B F=>by
   refine .cons ?_ (xK t1 F);obtain ⟨d,v⟩:=kv;have j:=z.1
   cases d <;> first
    | exact j.elim
    | exact ⟨.ref _,_,OU ⟨_,_,rfl,B.2.1,lf j⟩,rfl,z.2,B.2.2⟩
theorem bj {α β:Type} {R : α -> β -> Prop}:∀ {l:List α} {m:List β},G5 R l m->l.length=m.length
 | _,_, .nil=>rfl
 | _,_, .cons _ t=>by simp [bj t]
noncomputable abbrev Rw:=Addr×(D×D)×V×V×G3
theorem xL {K:Frag} {H:Hp} {G:Addr->G3->Prop}:∀ {kvs:List (D×D)} {es:List G3} {us:List gV},G5 (fR K H) kvs es->us.length=es.length->(∀ j,j < es.length -> ∃ t e,us[j]? = some (.ref t)/\es[j]? = some e/\G t e) ->
 ∃ L:List Rw,L.map (fun r=>FA r.1)=us/\L.map (fun r=>r.2.1)=kvs /\ ∀ r∈L,RD K H r.2.1.1 r.2.2.1/\RelV r.2.2.1 r.2.2.2.2.key/\RD K H r.2.1.2 r.2.2.2.1/\RelV r.2.2.2.1 r.2.2.2.2.val/\G r.1 r.2.2.2.2
 | _,_,us, .nil,q,_=>⟨[],by simp at q;simp [q],rfl,fun _ h=>by simp at h⟩
 | kv::kvs,e::es,us, .cons r t,q,h=>by
   cases us with
   | nil=>simp at q
   | cons u us =>
     obtain ⟨L,h1,h2,F⟩:=xL (us:=us) t (by simpa using q) fun j J=>by
      obtain ⟨t,e',e1,e2,B⟩:=h (j+1) (by simpa using J)
      exact ⟨t,e',by simpa using e1,by simpa using e2,B⟩
     obtain ⟨t0,e',e1,e2,B⟩:=h 0 (by simp)
     simp at e1 e2;subst e1 e2;obtain ⟨kV,vV,g1,g2,g3,O⟩:=r;exact ⟨(t0,kv,kV,vV,e)::L,by simp [h1],by simp [h2],fun r U=>by
      rcases Fo.mp U with z | z
      ·rw [z];exact ⟨g1,g2,g3,O,B⟩
      ·exact F r z⟩
theorem wv {L:List Rw} (j:(L.map fun r=>r.1).Nodup) {r:Rw} (q:r∈L):L.find? (fun x=>decide (x.1=r.1))=some r:=by
 induction L with
 | nil=>simp at q
 | cons x L ih =>
   simp only [FJ,GC] at j
   rcases Fo.mp q with z | z
   ·subst z;simp
   ·have:x.1≠r.1:=fun e=>j.1 (by rw [e];exact Fy z)
    rw [HP (by simpa using this)]
    exact ih j.2 z
section
variable {X:Cx}
theorem fS {H:Hp} {h:Heap} {P:FI} {w:G2} {K:Frag} {a:Addr} {ps:List (List Key×V)} {kvs:List (D×D)} (ok:ObjOk P w H h a (.dT ps)) (pr:G5 (fun (p:D×D) (q:List Key×V)=>RKeys p.1 q.1/\RD K H p.2 q.2) kvs ps) :
 ∃ cd dd sl es ep,h.get? a=some { cls:=cd,dict:=dd,data := .dict es ep,slots:=sl }/\es.size<=Fj/\G5 (fR K H) kvs es.toList:=by
 obtain ⟨G,B,xs,j,o,es,ep,h1,h2,z,F,J⟩:=ok;obtain ⟨cd,dd,dat,sl⟩:=o;dsimp only at z;subst z;have pp:=xK (P:=P) (w:=w) pr j;rw [<- F] at pp;refine ⟨cd,dd,sl,es,ep,h1, ?_,pp⟩;have:=bj pp;have:=bj pr;simp at *;lia
theorem pO {pins:List (Addr×Obj)} {σ:St} {H:Hp} {s:tv} {M:Mem} (I:Inv X pins σ H s) (rm:RM X.K M H) {a:Addr} {t:Bool} {kvs:List (D×D)} (e:M a=some (.dct t kvs)) :
 ∃ cd dd sl es ep,s.heap.get? a=some { cls:=cd,dict:=dd,data := .dict es ep,slots:=sl }/\es.size<=Fj/\G5 (fR X.K H) kvs es.toList/\IsD H a:=by
 have ro:=rm a _ e
 cases t with
 | false =>
   obtain ⟨ps,j,pr⟩:=ro;obtain ⟨G,B,vs,z,o,es,ep,h1,h2,q,J,F,L⟩:=I.hok a _ j;obtain ⟨cd,dd,dat,sl⟩:=o;dsimp only at q;subst q;have pp:=xJ pr z F;refine ⟨cd,dd,sl,es,ep,h1, ?_,pp, .inl ⟨_,Rd.of j⟩⟩;have:=bj pp;have:=bj pr;simp at *;lia
 | true =>
   obtain ⟨ps,j,pr⟩:=ro;obtain ⟨cd,dd,sl,es,ep,h1,h2,q⟩:=fS (I.hok a _ j) pr;exact ⟨cd,dd,sl,es,ep,h1,h2,q, .inr ⟨_,Rd.of j⟩⟩
theorem lg {d:Addr} {Q:gV->tv->Prop} {A:G8} {E:gV->tv->Prop} {s:tv} {cd:gV} {dd:Option Addr} {sl:Array (Option gV)} {es:Array G3} {ep:Nat} {prog:FI} {w:G2} (ty:s.TypeIs (.ref d) "dict") (z:(d==H0)=false) (hd:s.heap.get? d=some { cls:=cd,dict:=dd,data := .dict es ep,slots:=sl })
 (q:Q (.ref s.heap.objs.size) { s with heap:=s.heap.push { cls := .type "dict_items",data := .fields #[.ref d] } }):Fq (model prog w) A (call (.builtin "dict.items") [.ref d]) Q E s:=by
 have j:cd = .type "dict" := by
  obtain ⟨o,h1,h2⟩:=ty;rw [hd] at h1;cases h1;exact h2
 subst j;refine FZ KO ty F.entry_dict_items ?_ (F.args_dict_items_1 _);unfold GR.«dict.items»
 wp_walk
 exact ⟨_,rfl,q⟩
theorem ww {e:Expr} {ta:TEd} {p pos apos cpos:Pos} (hu:X.A.units+16 < HQ) (m:ad ta) (hc:X.calm=true) (he:PE X e (lE X.K ta)) (hg:Gl X "sorted") (hm:X.mg "sorted" = none)
 (D7:J5 e "items" X.env (eval e X.env)=eval e X.env) (D8:(apos.endLine==cpos.line)=true) :
 PE X (.Call (.Name "sorted" p) [.Call (.Attribute e "items" apos) [] [] cpos] [] pos) (lE X.K (fQ ta)):=by
 intro pins s σ H Q I h;obtain ⟨ρ,M,rs,rm,h⟩:=h;refine HX (e8 I hg hm (u := .builtin "sorted") (by decide +kernel) ?_ (by decide) (by decide))
 refine JK ?_ rfl rfl;refine Jf ?_;refine Jq D7 D8 (thn (he pins s σ H (fun v H1 => ∃ Z a t kvs sh,Ext M H Z H1/\RM X.K Z H1/\v = .ref a/\Z a=some (.dct t kvs)/\fP sh=true/\(∀ kv∈kvs,hs sh (kvD kv)=true) /\ ∀ p ys,Z p=none->ys.Perm (kvs.map kvD)->fg ys->KE' X.K M H Q (.ref p) (ag Z p (.lst ys))) I ⟨ρ,M,rs,rm,m _ _ _ _ (fun x Z ⟨a,t,kvs,sh,e,e1,e2,e3,q1⟩ v H1 x1 Y Dj=>by
  subst e;exact ⟨Z,a,t,kvs,sh,x1,Y,OL.mp Dj,e1,e2,e3,q1⟩) h⟩) fun v s1 ⟨x,H1,I1,r1,Z,a,t,kvs,sh,x1,Y,ex,e1,hok,Db,q⟩ => ?_)
 subst ex;obtain rfl:v=FA a:=r1;obtain ⟨cd,dd,sl,es,ep,hd,hz,Dc,hD⟩:=pO I1 Y e1;obtain ⟨t1,t2,Dl⟩:=eh I1 hD;refine ⟨"dict", "dict.items",Nv,KO,Nw,t1,t2,HK rfl (Kb ?_)⟩;refine lg t1 Dl hd ?_;refine KI ?_;have kpv:∀ b o,s1.heap.get? b=some o->(s1.heap.push { cls:=FV "dict_items",data:=Jn #[FA a] }).get? b=some o:=fun b o e=>q7 _ e;obtain ⟨hS,Dm⟩:=pK (xs:=kvs.map kvD) hok (fun d hd=>by
  obtain ⟨kv,Dn,rfl⟩:=Fw.mp hd;exact Db kv Dn)
 have U:=ir hok;have Dd:∀ (h':Heap) (r:Rw),(∀ b o,s1.heap.get? b=some o->h'.get? b=some o)->r.2.1∈kvs->RD X.K H1 r.2.1.1 r.2.2.1->RelV r.2.2.1 r.2.2.2.2.key->RD X.K H1 r.2.1.2 r.2.2.2.1->RelV r.2.2.2.1 r.2.2.2.2.val->h'.get? r.1=some { cls := .type "tuple",data := .seq #[r.2.2.2.2.key,r.2.2.2.2.val] } -> ∃ as,J8 h' (.ref r.1) (pd (kvD r.2.1)) as:=by
  intro h' r kp hm g1 g2 g3 g4 g5;have J:=Db _ hm
  match sh,J,U with
  | .tup l,J,U =>
   simp only [kvD,hs] at J
   match l,J,U with
   | [sa,sb],J,U =>
    simp only [hss,D0,and_true] at J;simp only [dep,deps] at U;obtain ⟨as,ra⟩:=bm I1 Y 16 _ _ _ _ (lK Z sa _ 16 J.1 (by lia)) g1 g2
    obtain ⟨bs,rb'⟩:=bm I1 Y 16 _ _ _ _ (lK Z sb _ 16 J.2 (by lia)) g3 g4
    have ra:=aT (fun b o e _=>kp b o e) (jm sa _ J.1).1 ra;have rb':=aT (fun b o e _=>kp b o e) (jm sb _ J.2).1 rb';have fin:J8 h' (.ref r.1) (.tuple [pd r.2.1.1,pd r.2.1.2]) (as++(bs++[])) := .tuple g5 rfl rfl (.cons ra (.cons rb' .nil));exact ⟨_,fin⟩
   | [],J,_=>simp [hss] at J
   | [_],J,_=>simp [hss] at J
   | _::_::_::_,J,_=>simp [hss] at J
  | .int,J,_=>simp [kvD,hs] at J
 refine lc (cap:=Fj) jj (m := 7) (ds:=(kvs.map kvD).map pd) (C:=fun h' us=>(∀ b o,s1.heap.get? b=some o->h'.get? b=some o) /\ ∃ L:List Rw,L.map (fun r=>FA r.1)=us/\L.map (fun r=>r.2.1)=kvs/\us.Nodup /\ ∀ r∈L,RD X.K H1 r.2.1.1 r.2.2.1/\RelV r.2.2.1 r.2.2.2.2.key/\RD X.K H1 r.2.1.2 r.2.2.2.1/\RelV r.2.2.2.1 r.2.2.2.2.val/\h'.get? r.1=some { cls := .type "tuple",data := .seq #[r.2.2.2.2.key,r.2.2.2.2.val] }/\s1.heap.get? r.1=none) (by lia) hS Dm (fun E R hR => ?_) fun h1 h2 us out n' tk hC old g2 D4 De Dt Du ht => ?_
 ·refine It.collect_view (A:=X.A.in1) (s := { s1 with heap:=s1.heap.push { cls:=FV "dict_items",data:=Jn #[FA a] } }) (I.ok.hd hc) (Fh _ rfl) (kpv _ _ hd) hz fun h' us k1 k2 k3 k4 => ?_
  obtain ⟨L,l1,l2,l3⟩:=xL (G:=fun t e=>h'.get? t=some { cls := .type "tuple",data := .seq #[e.key,e.val] }/\s1.heap.get? t=none) Dc (by simpa using k2) fun j hj=>by
   obtain ⟨t,e,e1,e2,e3,e4⟩:=k4 j (by simpa using hj)
   refine ⟨t,e,e1,by rw [FG];exact e2,e3, ?_⟩
   cases hq:s1.heap.get? t with
   | none=>rfl
   | some o=>rw [kpv _ _ hq] at e4;cases e4
  refine hR h' us _ ⟨fun b o e=>k1 b o (kpv b o e),L,l1,l2,k3,l3⟩ (fun u hu => ?_) ⟨by rw [k2];exact hz,by rw [k2];exact hz⟩ (Fl _)
  rw [<- l1] at hu;obtain ⟨r,O,rfl⟩:=Fw.mp hu;obtain ⟨p1,p2,p3,p4,p5,p6⟩:=l3 r O;have hm:r.2.1∈kvs:=by rw [<- l2];exact Fy O
  obtain ⟨as,ra⟩:=Dd h' r (fun b o e=>k1 b o (kpv b o e)) hm p1 p2 p3 p4 p5;exact ⟨_,Fy (Fy hm),as,ra⟩
 ·obtain ⟨kp,L,l1,l2,l3,l4⟩:=hC;rw [<- l1] at D4;obtain ⟨L',p1,p2⟩:=dP (fun r:Rw=>FA r.1) D4 rfl;have Df:∀ b o,s1.heap.get? b=some o->h2.get? b=some o:=fun b o e=>old b o (kp b o e);have B:s1.heap.get? h1.objs.size=none:=by
   cases hq:s1.heap.get? h1.objs.size with
   | none=>rfl
   | some o=>exact absurd (Fg (kp _ _ hq)) (Gy _)
  have Do:(L.map fun r=>r.1).Nodup:=by
   rw [<- l1] at l3;have:(L.map fun r=>FA r.1)=(L.map fun r=>r.1).map FA:=by simp
   rw [this] at l3;exact List.Pairwise.of_map _ (fun a b D6 he=>D6 (by rw [he])) l3
  have D5:∀ r∈L',r∈L:=fun r O=>p1.mem_iff.mp O;have hp:∀ r∈L,r.1≠h1.objs.size:=fun r O=>FR (Fg (l4 r O).2.2.2.2.1)
  let N:Addr->Option HO:=fun b=>if b=h1.objs.size then some (.lst (L'.map fun r=>V.ref r.1)) else (L.find? fun x=>decide (x.1=b)).map fun r => .tup [r.2.2.1,r.2.2.2.1]
  have Dg:N h1.objs.size=some (.lst (L'.map fun r=>V.ref r.1)):=by show (if _ then _ else _)=_;rw [if_pos rfl]
  have Dp:∀ r∈L,N r.1=some (.tup [r.2.2.1,r.2.2.2.1]):=fun r O=>by
   show (if _ then _ else _)=_
   rw [if_neg (hp r O),wv Do O];rfl
  have D9:∀ b o,N b=some o->b=h1.objs.size/\o = .lst (L'.map fun r=>V.ref r.1) ∨ ∃ r∈L,b=r.1/\o = .tup [r.2.2.1,r.2.2.2.1]:=fun b o e=>by
   by_cases hb:b=h1.objs.size
   ·subst hb;rw [Dg] at e;cases e;exact .inl ⟨rfl,rfl⟩
   ·right
    have e:((L.find? fun x=>decide (x.1=b)).map fun r=>HO.tup [r.2.2.1,r.2.2.2.1])=some o:=by
     have e':(if b=h1.objs.size then some (HO.lst (L'.map fun r=>V.ref r.1)) else (L.find? fun x=>decide (x.1=b)).map fun r=>HO.tup [r.2.2.1,r.2.2.2.1])=some o:=e
     rw [if_neg hb] at e';exact e'
    cases hf:L.find? fun x=>decide (x.1=b) with
    | none=>rw [hf] at e;cases e
    | some r =>
      rw [hf] at e;cases e;have Dq:=O9 hf;exact ⟨r,Kz hf,(by simpa using Dq:r.1=b).symm,rfl⟩
  have oldH:∀ b o,H1 b=some o->lay H1 N b=some o:=fun b o e=>by
   rw [gL]
   ·exact e
   ·cases hq:N b with
    | none=>rfl
    | some o' =>
      obtain ⟨ob,eo⟩:=(I1.hok b o e).there
      rcases D9 b o' hq with ⟨rfl,_⟩ | ⟨r,O,rfl,_⟩
      ·rw [B] at eo;cases eo
      ·rw [(l4 r O).2.2.2.2.2] at eo;cases eo
  have st:Stab H1 (lay H1 N):=⟨fun b xs e=>oldH b _ e,fun b o u e=>oldH b _ e⟩;have Da:L'.length=kvs.length:=by rw [p1.length_eq, <- l2];simp
  have Dr:=bj Dc;have I2:=I1.laidN (t':=tk) (h':=h2) (N:=N) Df (fun b o e=>by
   rcases D9 b o e with ⟨rfl,_⟩ | ⟨r,O,rfl,_⟩
   ·exact B
   ·exact (l4 r O).2.2.2.2.2) (fun b o e=>by
   rcases D9 b o e with ⟨rfl,rfl⟩ | ⟨r,O,rfl,rfl⟩
   ·refine ⟨by rw [Fd,Da,Dr];simpa using hz,out,n', ?_,g2⟩
    rw [<- p2];have:∀ l:List Rw,Vals (l.map fun r=>V.ref r.1) (l.map fun r=>FA r.1):=by
     intro l
     induction l with
     | nil=>exact .nil
     | cons r l ih=>exact .cons rfl ih
    exact this L'
   ·obtain ⟨q1,q2,q3,q4,q5,q6⟩:=l4 r O;exact ⟨by show 2<=Fj;decide,[r.2.2.2.2.key,r.2.2.2.2.val], .cons q2 (.cons q4 .nil),_,old _ _ q5,rfl,0,rfl⟩)
  refine ⟨.ref h1.objs.size,_,I2,rfl, ?_⟩;have Dh:Z h1.objs.size=none:=Y.out (I1.fresh' B);have Di:RDs X.K (lay H1 N) (L'.map fun r=>kvD r.2.1) (L'.map fun r=>V.ref r.1):=by
   have:∀ l:List Rw,(∀ r∈l,r∈L)->RDs X.K (lay H1 N) (l.map fun r=>kvD r.2.1) (l.map fun r=>V.ref r.1):=by
    intro l
    induction l with
    | nil=>intro _;exact RDs.nil
    | cons r l ih =>
      intro hl;obtain ⟨q1,q2,q3,q4,q5,q6⟩:=l4 r (hl r (by simp))
      refine RDs.cons (OU ⟨r.1,_,rfl,jY (Dp r (hl r (by simp))),RDs.cons (q1.mono st) (RDs.cons (q3.mono st) RDs.nil)⟩) (ih fun r' Ds=>hl r' (by simp [Ds]))
   exact this L' D5
  refine q h1.objs.size (L'.map fun r=>kvD r.2.1) Dh ?_ ?_ (.ref h1.objs.size) (lay H1 N) (x1.trans ⟨fun b o _ e=>oldH b o e,fun b o n e => ?_⟩) (fun a' o' e' => ?_) (OL.mpr rfl)
  ·have:=p1.map (fun r:Rw=>kvD r.2.1);rw [show L.map (fun r:Rw=>kvD r.2.1)=(L.map fun r=>r.2.1).map kvD by simp,l2] at this
   exact this
  ·unfold fg;rw [G7];rw [<- p2,G7] at De;refine De.imp_of_mem fun {a b} ha hb D6 => ?_;have rd:∀ r∈L',GZ h2 (FA r.1)=pd (kvD r.2.1):=fun r O=>by
    obtain ⟨q1,q2,q3,q4,q5,q6⟩:=l4 r (D5 r O);have hm:r.2.1∈kvs:=by rw [<- l2];exact Fy (D5 r O)
    obtain ⟨as,ra⟩:=Dd h2 r Df hm q1 q2 q3 q4 (old _ _ q5);exact HC (hS.lay _ (Fy (Fy hm))).1 ra
   rw [rd a ha,rd b hb] at D6;exact D6
  ·have hb:b≠h1.objs.size:=fun z=>by
    rw [z,I1.fresh' B] at e;cases e
   exact ak hb
  ·by_cases hz:a'=h1.objs.size
   ·subst hz;rw [ab] at e';cases e';exact ⟨_,jY Dg,Di⟩
   ·rw [ak hz] at e';exact (Y a' o' e').mono st fun ho e=>oldH a' ho e
end
section
noncomputable def jn (to tk tx:TEd):TEd:=fun ρ M Q=>to ρ M fun x M1 => ∃ a t kvs,x = .ref a/\M1 a=some (.dct t kvs)/\tk ρ M1 fun k M2=>tx ρ M2 fun z M3 => ∃ t' kvs',M3 a=some (.dct t' kvs')/\dL t' k=true/\Q ((dget kvs' k).getD z) M3
theorem ua {to tk tx:TEd} (h1:ad to) (h2:ad tk) (j:ad tx):ad (jn to tk tx):=fun ρ M Q Q' i q=>h1 _ _ _ _ (fun x L ⟨a,t,kvs,e,e1,B⟩=>⟨a,t,kvs,e,e1,h2 _ _ _ _ (fun k M2 F=>j _ _ _ _ (fun z O ⟨t',kvs',G,ok,J⟩=>⟨t',kvs',G,ok,i _ _ J⟩) F) B⟩) q
section
variable {X:Cx}
theorem AX {K:Frag} {M:Mem} {H:Hp} (rm:RM K M H) {a:Addr} {t:Bool} {kvs:List (D×D)} (e:M a=some (.dct t kvs)):IsD H a:=by
 have ro:=rm a _ e
 cases t with
 | false=>obtain ⟨ps,j,_⟩:=ro;exact .inl ⟨_,Rd.of j⟩
 | true=>obtain ⟨ps,j,_⟩:=ro;exact .inr ⟨_,Rd.of j⟩
theorem zn {o e f:Expr} {to tk tx:TEd} {apos cpos:Pos} (Y:X.A.units+1 < HQ) (mo:ad to) (mk:ad tk) (mx:ad tx) (ho:PE X o (lE X.K to)) (he:PE X e (lE X.K tk)) (hf:PE X f (lE X.K tx)) (m:M2 X o "get" apos e f cpos) :
 PE X (.Call (.Attribute o "get" apos) [e,f] [] cpos) (lE X.K (jn to tk tx)):=by
 refine PE.imp (vE Y ho he hf m) fun σ H Q h => ?_;obtain ⟨ρ,M,rs,rm,q⟩:=h;refine ⟨ρ,M,rs,rm,mo _ _ _ _ (fun x Z ⟨a,t,kvs,e,e1,q1⟩ v H1 L j rd1 => ?_) q⟩;subst e
 cases OL.mp rd1
 have B:=rs.mono (L.stab rm);refine ⟨a,rfl,AX j e1, ρ,Z,B,j,mk _ _ _ _ (fun k M2 q2 v2 H2 O F G => ?_) q1⟩;have J:=B.mono (O.stab j);refine ⟨ρ,M2,J,F,mx _ _ _ _ (fun z M3 ⟨t',kvs',e3,ok,q3⟩ v3 H3 U rm3 rd3 => ?_) q2⟩;obtain ⟨w,g,g1,g2⟩:=jT rm3 e3 ok (G.mono (U.stab F));refine ⟨w,g, ?_⟩;refine q3 _ H3 (L.trans (O.trans U)) rm3 ?_
 cases e4:dget kvs' k with
 | none=>rw [g2 e4];exact rd3
 | some d =>
   obtain ⟨w',e5,r5⟩:=g1 d e4;rw [e5];exact r5
end
end
end Mi
end L2
namespace L2
open PySem PySem.Spec PyProof.Rows
namespace Mi
end Mi
end L2
namespace L2
open PySem PySem.Spec PyProof.Rows
namespace Mi
end Mi
end L2
namespace L2
open PySem PySem.Spec PyProof.Rows
namespace Mi
end Mi
end L2
namespace L2
open PySem PySem.Spec PyProof.Rows
section
section
variable {prog:FI} {w:G2} {A:G8} {E:gV->tv->Prop} {s:tv}
theorem zo:typeLookup (.type "list") "keys" = pure none:=by rw [K8,II];kernel_rfl
theorem zp {l:Addr} {o:Obj} {xs:Array gV} {k:Nat} {Q:Option gV->tv->Prop} (B:A.handled=none) (ho:s.heap.get? l=some o) (z:o.cls = .type "list") (hd:o.data = .seq xs k) (j:o.dict=none)
 (q:∀ h' tk,(∀ b o,s.heap.get? b=some o->h'.get? b=some o)->Q none { s with heap:=h',toks:=tk }):Fq (model prog w) A (getAttr? (.ref l) "keys") Q E s:=by
 have ty:s.TypeIs (.ref l) "list" := ⟨_,ho,z⟩;unfold getAttr?;unfold mkText;refine e6 ?_;refine e6 (wpAny_fresh ?_);refine D1 ?_;unfold getAttrBy?;refine e6 (Ht ?_);unfold getAttrBy;refine Gc ?_;refine e6 (Hq (s := { s with toks:=s.toks+1 }) ty ?_)
 refine e6 (HR F.slot_list_getattribute.lookup ?_);refine Hi (by decide) ?_
 unfold getAttrByItsOwn hookBefore;rw [if_neg (by decide)]
 refine e6 (D1 ?_);refine e6 (Ht (Gc ?_));unfold callGetattribute boundAndCalled;rw [if_neg (by decide)]
 refine e6 (HR (F.slot_list_getattribute.bind _) ?_);dsimp only;obtain ⟨cls,dd,dat,sl⟩:=o;dsimp only at z hd j;subst z hd j;refine Nj F.slot_list_getattribute (s := { s with toks:=s.toks+1 }) ty am_entry_list_getattribute (F.args_list_getattribute_2 _ _) ((meets_getattribute_miss_list l xs k sl "keys" s.toks zo (by decide) (by decide)).inModel prog w) ⟨ho,B,fun h' tk a ne => ?_⟩
 ·have ne:s.heap.NewAttrErr h' a (.ref l) "keys" := ne;obtain ⟨t,u,he⟩:=ne.there;unfold getattributeRaised;refine e6 (HU (T := "AttributeError") (b:=true) ⟨_,he,rfl⟩ (by rw [HZ];kernel_rfl) ?_)
  rw [if_pos rfl];unfold hookBehind;rw [if_neg (by decide)]
  refine e6 (HR am_list_getattr_none ?_);unfold hookOrError attributeErrorLeaves;dsimp only;rw [if_pos (by decide)]
  refine e6 (LO ?_);refine e6 (HU (T := "AttributeError") (b:=true) ⟨_,he,rfl⟩ (by rw [HZ];kernel_rfl) ?_)
  rw [if_pos rfl];exact D1 (q h' tk ne.keeps)
end
end
section
theorem nE:Ow table "dict.update.loop" = some GR.«dict.update.loop» := La (by kernel_rfl)
theorem nF:plainId "dict.update.loop" = true:=by decide +kernel
section
variable {X:Cx} {pins:List (Addr×Obj)} {σ:St} {H:Hp}
def PrV (H:Hp) (v:V) (kv:List Key×V):Prop := ∃ t b,v = .ref t/\H t=some (.tup [.ref b,kv.2])/\H b=some (.tup (kv.1.map kV))
noncomputable abbrev bE (kvs:List (List Key×V)):List (List Key×V):=kvs.foldl (fun a kv=>be a kv.1 kv.2) []
theorem qX (kvs:List (List Key×V)):(bE kvs).length<=kvs.length:=by
 have g:∀ (r:List (List Key×V)) (a:List (List Key×V)),(r.foldl (fun a kv=>be a kv.1 kv.2) a).length<=a.length+r.length:=by
  intro r
  induction r with
  | nil=>intro a;simp
  | cons x r ih =>
    intro a;have h1:=ih (be a x.1 x.2);have h2:=cK a x.1 x.2;simp only [Jb,GQ];lia
 have:=g kvs [];simpa using this
theorem jo {α β:Type} {R : α -> β -> Prop}:∀ {l:List α} {m:List β} {i:Nat} {x : α},G5 R l m->l[i]? = some x -> ∃ y,m[i]? = some y/\R x y
 | _,_,_,_, .nil,e=>by simp at e
 | _,_,0,_, .cons r _,e=>by simp at e;subst e;exact ⟨_,rfl,r⟩
 | _,_,i+1,x, .cons _ t,e=>by
   simp at e;obtain ⟨y,h1,h2⟩:=jo t e;exact ⟨y,by simpa using h1,h2⟩
theorem zq {A:G8} (hu:A.units+1 < HQ) (hn:A.handled=none) {l it p:Addr} {vs:List V} {kvs:List (List Key×V)} (Z:H p=none) (Y:H l=some (.lst vs)) (G:G5 (PrV H) vs kvs) (hz:vs.length < Fj) {R:NF->tv->Prop} (hf:bS X pins H it) (j:it≠p) :
 ∀ (k i:Nat) (s:tv),vs.length - i=k->i<=vs.length->Inv X pins σ (upd H p (.dT (bE (kvs.take i)))) s->s.heap.IsListIter it l i ->
  (∀ s',Inv X pins σ (upd H p (.dT (bE kvs))) s'->R (.ok (.ret .none)) s') ->
  Ja (model X.prog X.w) A (.builtin "dict.update.loop" ⟨[.ref p, .ref it,Ik i, .none],[]⟩) R s:=by
 have J:l≠p:=fun z=>by rw [z,Z] at Y;cases Y
 have hlen:vs.length=kvs.length:=Ih G;obtain ⟨f0,f1,f2,f3,f4,f5⟩:=hf;intro k
 induction k with
 | zero =>
   intro i s hk hi I st q;have D4:i=vs.length:=by lia
   obtain ⟨its,rv,pl,_⟩:=I.list (SqL.of (K:=X.K) ((ai J).trans Y));refine HE nE ?_;unfold GR.«dict.update.loop»;dsimp only;refine e6 (LD hn st pl.isList (by have:=rv.length;simp;lia) fun h' eb => ?_)
   refine e6 ?_;unfold Builtin.Dict.addKeywords;refine e6 ?_;have B:=I.turned (t':=s.toks) (h':=h') (fun b o F e=>eb b o F e) ((ai j).trans f0) f1 f3 f4 f5;rw [D4,hlen,List.take_length] at B;exact D1 (D1 (D1 (q _ B)))
 | succ k ih =>
   intro i s hk hi I st q;have L:i < vs.length:=by lia
   obtain ⟨its,rv,pl,_⟩:=I.list (SqL.of (K:=X.K) ((ai J).trans Y));obtain ⟨u,D5,ru⟩:=rv.get (Fe L);obtain ⟨kv,D6,t,b,hv,ht,F⟩:=jo G (Fe L);rw [hv] at ru
   cases (show u=FA t from ru)
   refine HE nE ?_;rw [N5 (by rfl) (by rfl)]
   unfold GR.«dict.update.loop»;dsimp only;refine e6 (Li st pl.isList (x := .ref t) (by simpa using D5) fun h' st' sb => ?_)
   have B:=I.turned (t':=s.toks) (h':=h') (fun b o F e=>(sb.2 b F).trans e) ((ai j).trans f0) f1 f3 f4 f5;dsimp only;have D7:t≠p:=fun z=>by rw [z,Z] at ht;cases ht
   have D8:b≠p:=fun z=>by rw [z,Z] at F;cases F
   obtain ⟨tits,rt,tt,_⟩:=B.tuple (SqT.of (K:=X.K) ((ai D7).trans ht));obtain ⟨ob,O,D9,nt,Da⟩:=id tt
   cases rt with
   | cons r1 rt =>
     cases rt with
     | cons r2 rt =>
       cases rt
       cases (show _=FA b from r1)
       rename_i uv;refine e6 (Gc ?_);refine e6 (wpAny_tryCatch ?_);unfold Builtin.Dict.pairItems;refine e6 (Hq (T := "tuple") (s := { s with heap:=h' }) ⟨ob,O,D9⟩ ?_)
       rw [if_pos (by decide)]
       refine e6 (LN (s := { s with heap:=h' }) O Da ?_)
       refine D1 ?_;refine Gc ?_;obtain ⟨z,hd,xs,rel,dd⟩:=xA (a:=p) B.hok ar;have Db:xs.length<=Fj:=by rw [<- Ih rel];exact z
       have U:upd H p (.dT (bE (kvs.take i))) b=some (.tup (kv.1.map kV)):=(ai D8).trans F;have Dc:(be (bE (kvs.take i)) kv.1 kv.2).length<=Fj:=by
        have h1:=cK (bE (kvs.take i)) kv.1 kv.2;have h2:=qX (kvs.take i);rw [FU] at h2;lia
       have etk:be (bE (kvs.take i)) kv.1 kv.2=bE (kvs.take (i+1)):=by
        unfold bE;rw [List.take_succ,D6,List.foldl_append];rfl
       refine wpAny_dictSet_heap (hsz:=Db) (knd:=Jl (aD X.prog X.w)) (Iy hu) (ee B.hok U) dd fun h2 dd' hs => ?_;obtain ⟨q',es,ep,hq,g2,g3,g4,_,g5⟩:=dd';have I2:=jK (t':=s.toks+(Jl (aD X.prog X.w)).draws kv.1) B (a:=p) (ob := .dT (be (bE (kvs.take i)) kv.1 kv.2)) (by rw [ar];exact H8) hs ⟨q',hq⟩ ⟨Dc,hd,_,(rel.put kv.1 U r2).keeps fun c ys ec => ?_,q',es,ep,hq,g2,g3,g4,g5⟩
       ·rw [yc,etk] at I2;refine D1 ⟨JV nF _,ih (i+1) _ (by lia) (by lia) I2 ?_ q⟩
        exact st'.at fun o e=>(hs.2 it j).trans e
       ·rw [ai (xo ec ar (fun z=>nomatch z))];exact ec
end
section
variable {X:Cx}
theorem jq (hu:X.A.units+16 < HQ) (hc:X.calm=true):CallR X (.type "dict") (fun xs H Q => ∃ l vs kvs,xs=[V.ref l]/\H l=some (.lst vs)/\G5 (PrV H) vs kvs/\vs.length < Fj /\ ∀ p,H p=none->Q (.ref p) (upd H p (.dT (bE kvs)))):=by
 intro pins s σ H xs us Q I r h;obtain ⟨l,vs,kvs,rfl,J,L,hz,q⟩:=h
 cases r with
 | cons r1 rr =>
 cases rr
 cases (show _=FA l from r1)
 have Z:=I.ok.hd hc;have O:H s.heap.objs.size=none:=I.hok.fresh (Fl _);have I1:=I.laid (a:=s.heap.objs.size) (o := .dT []) (t':=s.toks) (fun _ _ q=>q7 _ q) (Fl _) (m8 s.heap I.big);have U:l≠s.heap.objs.size:=fun z=>by rw [z,O] at J;cases J
 refine callType_codes (Q₁ := fun obj s₁ => obj = .ref s.heap.objs.size/\s₁ = { s with heap:=s.heap.push { cls := .type "dict",data := .dict #[] } }) F.kt_called_dict (F.kt_typeCall_dict_1 _) F.entry_dict_init (kt_code_dict_new _ ⟨rfl,rfl⟩) fun obj s₁ h₁ => ?_
 obtain ⟨rfl,rfl⟩:=h₁;refine ⟨⟨_,Fh _ rfl,rfl⟩,F.args_dict_init_2 _ _, ?_⟩;unfold GR.«dict.__init__»;refine e6 ?_;unfold Builtin.Dict.selfAndRest;unfold Builtin.Dict.notOrdered;rw [if_pos (by decide)]
 have tyd:JU { s with heap:=s.heap.push { cls := .type "dict",data := .dict #[] } } (.ref s.heap.objs.size) "dict" := ⟨_,Fh _ rfl,rfl⟩
 refine e6 (e6 (Hq tyd ?_));rw [if_neg (by decide)]
 refine D1 ?_;refine e6 (D1 (D1 ?_));unfold Builtin.Dict.updateCommon Builtin.Dict.updateFrom;dsimp only;obtain ⟨its,rv,pl,_⟩:=I1.list (SqL.of (K:=X.K) ((ai U).trans J));have il:=pl.isList;refine e6 (Hq il.typeIs ?_);rw [if_pos (by decide)]
 obtain ⟨ob,nn,e1,j,B,G⟩:=id pl;refine e6 (zp Z e1 j G B fun h1 tk kp => ?_);rw [if_pos (show (none:Option gV).isNone=true from rfl)];refine e6 (Hz ?_);have Y:=I1.kept (t':=tk) kp;refine e6 (KL (s := { s with heap:=h1,toks:=tk }) (PlainL.isList (⟨ob,nn,kp _ _ e1,j,B,G⟩)) ?_)
 have I3:=Y.kept (t':=tk) (h':=h1.push { cls := .type "list_iterator",data := .fields #[.ref l, .int 0 0] }) fun b o e=>q7 _ e;refine D1 ⟨JV nF _, ?_⟩;have hle:s.heap.objs.size < h1.objs.size:=Fg (kp _ _ (Fh _ rfl));have hf:bS X pins H h1.objs.size:=by
  have:=Y.fpOk (H':=upd H s.heap.objs.size (.dT [])) (Fl _) (Y.hok.fresh (Fl _));exact ⟨by rw [<- this.1,ai (Gp hle)],this.2⟩
 refine zq (A:=X.A.in1) (X:=X) (pins:=pins) (σ := σ) (H:=H) (p:=s.heap.objs.size) (kvs:=kvs) (by have:X.A.in1.units=X.A.units+1:=rfl;lia) Z O J L hz hf (Gp hle) vs.length 0 _ (by lia) (by lia) I3 ⟨_,Fh _ rfl,rfl,rfl⟩ fun s' I' => ?_
 exact ⟨rfl, .ref s.heap.objs.size,_,I',rfl,q _ O⟩
end
end
end L2
namespace L2
namespace Mi
open PySem PySem.Spec PyProof.Rows
section
section
variable {X:Cx}
noncomputable def qY (kvs:List (D×D)):List (D×D):=kvs.foldl (fun a kv=>bJ a kv.1 kv.2) []
noncomputable def qZ:RAd:=fun ds M Q => ∃ a kvs,ds=[.ref a]/\M a=some (.lst (kvs.map fun kv:D×D => .tup [kv.1,kv.2]))/\(∀ kv∈kvs,bK kv.1=true)/\kvs.length < Fj /\ ∀ p,M p=none->Q (.ref p) (ag M p (.dct true (qY kvs)))
theorem lh:aO qZ:=fun _ _ _ _ h ⟨a,kvs,e,e1,e2,j,q⟩=>⟨a,kvs,e,e1,e2,j,fun p n=>h _ _ (q p n)⟩
theorem nG {K:Frag} {H:Hp}:∀ {kvs:List (D×D)} {vs:List V},RDs K H (kvs.map fun kv:D×D => .tup [kv.1,kv.2]) vs->(∀ kv∈kvs,bK kv.1=true) ->
 ∃ ps:List (List Key×V),G5 (PrV H) vs ps/\G5 (fun (p:D×D) (q:List Key×V)=>RKeys p.1 q.1/\RD K H p.2 q.2) kvs ps
 | [],vs,r,_=>by rw [RDs.nil_iff.mp r];exact ⟨[], .nil, .nil⟩
 | kv::kvs,vs,r,h=>by
   rw [FJ] at r;obtain ⟨v,vr,rfl,G,J⟩:=OM.mp r;obtain ⟨ps,h1,h2⟩:=nG J fun x hx=>h x (FN _ hx);have z:=h kv (Gd ..);obtain ⟨k,v⟩:=kv;obtain ⟨ks,j⟩:=jM z
   cases k <;> first
    | exact j.elim
    | (obtain ⟨t,us,rfl,B,ru⟩:=OZ rfl G
       obtain ⟨Z,ur,rfl,L,ru⟩:=OM.mp ru;obtain ⟨O,U,rfl,Y,ru⟩:=OM.mp ru;rw [RDs.nil_iff.mp ru] at B;obtain ⟨b,ws,rfl,F,rw'⟩:=OZ (jN z) L;rw [eR j rw'] at F;exact ⟨(ks,O)::ps, .cons ⟨t,b,rfl,B,F⟩ h1, .cons ⟨j,Y⟩ h2⟩)
theorem nH {K:Frag} {H:Hp}:∀ {kvs:List (D×D)} {ps:List (List Key×V)} {a:List (D×D)} {b:List (List Key×V)},G5 (fun (p:D×D) (q:List Key×V)=>RKeys p.1 q.1/\RD K H p.2 q.2) kvs ps->G5 (fun (p:D×D) (q:List Key×V)=>RKeys p.1 q.1/\RD K H p.2 q.2) a b ->
 G5 (fun (p:D×D) (q:List Key×V)=>RKeys p.1 q.1/\RD K H p.2 q.2) (kvs.foldl (fun a kv=>bJ a kv.1 kv.2) a) (ps.foldl (fun a kv=>be a kv.1 kv.2) b)
 | _,_,_,_, .nil,h=>h
 | _,_,_,_, .cons r t,h=>by
   have g:=nH t (ig (RK:=RKeys) RKeys.inj RKeys.fun r.1 r.2 h);exact g
theorem oT (j:X.A.units+16 < HQ) (B:X.calm=true):CallR X (.type "dict") (lR X.K qZ):=by
 refine CallR.of (jq j B) fun vs H Q h => ?_;obtain ⟨ds,M,rm,rs,a,kvs,rfl,e,F,G,q⟩:=h;obtain ⟨v,rfl,r⟩:=rs.one
 cases OL.mp r
 obtain ⟨us,J,ru⟩:=rm _ _ e;obtain ⟨ps,h1,h2⟩:=nG ru F;refine ⟨a,us,ps,rfl,J,h1,by rw [ru.length,Fd];exact G,fun p n => ?_⟩
 have st:Stab H (upd H p (.dT (bE ps))):=(OT (M:=M) n).stab rm;exact q p (rm.out n) (.ref p) _ (Ext.lay n) (rm.lay n ⟨_,ar,OO (nH h2 .nil) fun _ _ z=>⟨z.1,z.2.mono st⟩⟩) (OL.mpr rfl)
end
end
end Mi
end L2
namespace L2
namespace Dk
open PySem PySem.Spec PyProof.Rows
section
variable {prog:FI} {w:G2} {A:G8} {E:gV->tv->Prop} {s:tv}
noncomputable def kO (d:Addr) (i n ep:Nat):Obj := { cls := .type "dict_keyiterator",data := .fields #[.ref d, .int i 0, .int n 0, .int ep 0] }
theorem slot_next:Slot "dict_keyiterator" "__next__" "dict_keyiterator.__next__" := .of (owner := "dict_keyiterator") (n := "__next__") (by rw [K8,II];kernel_rfl) (by decide +kernel) (by decide +kernel) (by decide +kernel) (.inl (by decide +kernel)) (by rw [HZ];kernel_rfl)
theorem bB:Ow table "dict_keyiterator.__next__" = some GR.«dict_keyiterator.__next__» := La (by kernel_rfl)
theorem bN (a:gV):Ox "dict_keyiterator.__next__" ⟨[a],[]⟩:=by unfold Ox;kernel_rfl
theorem bD {it:Addr} (ty:s.TypeIs (.ref it) "dict_keyiterator") {types:List String} {Q:Bool->tv->Prop} (q:Q (types.any fun t => [FV "dict_keyiterator",FV "object"].contains (FV t)) s):Fq (model prog w) A (I0 (.ref it) types) Q E s:=by
 have hm:=MB;unfold I0
 wp_walk
 exact q
theorem nx_item {it d:Addr} {i ep:Nat} {cd:gV} {dd:Option Addr} {sl:Array (Option gV)} {es:Array G3} {e:G3} {Q:Option gV->tv->Prop} (hi:s.heap.get? it=some (kO d i es.size ep)) (hd:s.heap.get? d=some { cls:=cd,dict:=dd,data := .dict es ep,slots:=sl }) (he:es[i]? = some e)
 (q:∀ h',h'.get? it=some (kO d (i+1) es.size ep)->GP it s.heap h'->Q (some e.key) { s with heap:=h' }):Fq (model prog w) A (Ij (.ref it)) Q E s:=by
 have ty:s.TypeIs (.ref it) "dict_keyiterator" := ⟨_,hi,rfl⟩;unfold Ij;refine e6 (Ht (FY (name:=Gf "__next__") ty slot_next (FZ slot_next ty bB ?_ (bN _))));unfold GR.«dict_keyiterator.__next__»;have hm:=MB
 wp_walk
 dsimp only;rw [if_neg (by simp)]
 simp only [Gr,he];refine e6 (Gw (Q:=fun n s'=>n=0/\s'=s) ?_ (fun n s' hs => ?_) fun _ _ z=>z)
 ·wp_walk
  exact ⟨by kernel_rfl,rfl⟩
 obtain ⟨rfl,rfl⟩:=hs;refine e6 (bD ty ?_);refine e6 (FK hi (by simp) fun h1 e1 s1 => ?_)
 rw [if_neg (by decide +kernel)] at e1
 have e1:h1.get? it=some (kO d (i+1) es.size ep):=e1;have j:JU { s' with heap:=h1 } (.ref it) "dict_keyiterator" := ⟨_,e1,rfl⟩
 refine e6 (Gc ?_);refine e6 (bD j ?_);refine JE (by decide +kernel) ?_
 refine D1 (D1 ⟨_,rfl,D1 ?_⟩);exact q h1 e1 s1
theorem nx_end {it d:Addr} {ep:Nat} {cd:gV} {dd:Option Addr} {sl:Array (Option gV)} {es:Array G3} {Q:Option gV->tv->Prop} (j:A.handled=none) (hi:s.heap.get? it=some (kO d es.size es.size ep)) (hd:s.heap.get? d=some { cls:=cd,dict:=dd,data := .dict es ep,slots:=sl })
 (q:∀ h',(∀ b o,b≠it->s.heap.get? b=some o->h'.get? b=some o)->Q none { s with heap:=h' }):Fq (model prog w) A (Ij (.ref it)) Q E s:=by
 have ty:s.TypeIs (.ref it) "dict_keyiterator" := ⟨_,hi,rfl⟩;unfold Ij;refine e6 (Ht (FY (name:=Gf "__next__") ty slot_next (FZ slot_next ty bB ?_ (bN _))));unfold GR.«dict_keyiterator.__next__»;have hm:=MB
 wp_walk
 dsimp only;rw [if_neg (by simp)]
 have he:es[es.size]? = none:=IA (Fl _);simp only [Gr,he];refine e6 (Gw (Q:=fun n s'=>n=0/\s'=s) ?_ (fun n s' hs => ?_) fun _ _ z=>z)
 ·wp_walk
  exact ⟨by kernel_rfl,rfl⟩
 obtain ⟨rfl,rfl⟩:=hs;refine e6 (FK hi (by simp) fun h1 e1 s1 => ?_)
 refine e6 (m:=Oq (.type "StopIteration") []) ?_;simp only [Oq,Ot];refine e6 (Gz ?_ (by size_fits))
 refine e6 (m:=IS _ _) (HR (a:=He) (by first | rfl | (simp only [IS];rfl)) (Gz ?_ (by size_fits)))
 simp only [raiseNew];refine e6 (Mz ?_)
 first | rw [show A.in1.handled=none from j] | rw [j]
 refine e6 (D1 (LO ?_));exact e6 (HU (T := "StopIteration") (b:=true) ⟨_,Fh _ rfl,rfl⟩ LP (D1 (q _ fun b o B e=>q7 _ (q7 _ (s1.extBut b o B e)))))
theorem it_dict {d:Addr} {es:Array G3} {ep:Nat} {dd:Option Addr} {sl:Array (Option gV)} {Q:gV->tv->Prop} (j:(d==H0)=false) (hd:s.heap.get? d=some { cls := .type "dict",dict:=dd,data := .dict es ep,slots:=sl })
 (q:Q (.ref s.heap.objs.size) { s with heap:=s.heap.push (kO d 0 es.size ep) }):Fq (model prog w) A (Lh (.ref d)) Q E s:=by
 have ty:s.TypeIs (.ref d) "dict" := ⟨_,hd,rfl⟩;refine KN ty NP (FZ NP ty F.entry_dict_iter ?_ (F.args_dict_iter_1 _));unfold GR.«dict.__iter__»
 wp_walk
 exact ⟨_,rfl, "dict_keyiterator",_,⟨_,Fh _ rfl,rfl⟩,slot_next.lookup,q⟩
theorem walk (hn:A.handled=none) (it d:Addr) (hne:d≠it) (es:Array G3) (ep:Nat) :
 Walks prog w A it [it,d] [it] es.size (fun i v => ∃ e,es[i]? = some e/\v=e.key) (fun i h=>h.get? it=some (kO d i es.size ep) /\ ∃ cd dd sl,h.get? d=some { cls:=cd,dict:=dd,data := .dict es ep,slots:=sl }) where
 sub:=fun b hb=>by simp at hb;simp [hb]
 frame:=fun _ _ _ st k=>⟨k it (by simp) _ st.1,by obtain ⟨cd,dd,sl,h⟩:=st.2;exact ⟨cd,dd,sl,k d (by simp) _ h⟩⟩
 item:=fun i s Q E hi st q=>by
  obtain ⟨h1,cd,dd,sl,h2⟩:=st;refine nx_item (e:=es[i]) h1 h2 (FH hi) fun h' e' s' => ?_;exact q _ h' s.toks ⟨_,FH hi,rfl⟩ ⟨e',cd,dd,sl,s'.extBut d _ hne h2⟩ fun b o hb x=>s'.extBut b o (fun z=>hb (by simp [z])) x
 done:=fun s Q E st q=>by
  obtain ⟨h1,cd,dd,sl,h2⟩:=st;exact nx_end hn h1 h2 fun h' k=>q h' s.toks fun b o hb x=>k b o (fun z=>hb (by simp [z])) x
 self:=fun i s Q E st q=>LX ⟨_,st.1,rfl,rfl⟩ q
theorem ub {d:Addr} {Q:Bool->tv->Prop} (ty:s.TypeIs (.ref d) "dict") (q:Q false s):Fq (model prog w) A (HN (.ref d)) Q E s:=by
 unfold HN;refine e6 (wpAny_specialOf ty F.slot_dict_len.lookup ?_);generalize j:("dict.__len__":String)=z
 (fail_if_success (clear j z));wp_delta
 rw [show splitId z=some ("dict", "__len__") from by subst j;decide +kernel]
 subst j;refine e6 (HU (b:=true) ty (by rw [HZ];kernel_rfl) ?_)
 rw [if_neg (by decide)]
 refine JE (by decide +kernel) ?_
 refine e6 (Hq ty ?_);exact D1 q
open Builtin.List in
theorem wx (hn:A.handled=none) {S d:Addr} {es:Array G3} {ep c:Nat} {dd:Option Addr} {sl:Array (Option gV)} {R:NF->tv->Prop} (res:gV) (Z:(d==H0)=false) (hd:s.heap.get? d=some { cls := .type "dict",dict:=dd,data := .dict es ep,slots:=sl }) (Y:s.heap.get? S=some { cls := .type "list",data := .seq #[] c }) (hz:es.size<=Fj)
 (q:∀ (h':Heap) (tk:Nat) (acc':Array gV) (c':Nat),(∀ b o,b≠S->s.heap.get? b=some o->h'.get? b=some o)->h'.get? S=some { cls := .type "list",data := .seq acc' c' }->acc'.toList=es.toList.map (·.key)->s.toks<=tk->R (.ok (.ret res)) { s with heap:=h',toks:=tk }) :
 Fq (model prog w) A.in1 (listExtendWith (.ref S) (.ref d) res) (fun fin s'=>match fin with | .done f=>R (.ok f) s' | .again c'=>c'.quiet=true/\Ja (model prog w) A c' R s') (fun e s'=>R (.error e) s') s:=by
 have ty:s.TypeIs (.ref d) "dict" := ⟨_,hd,rfl⟩;have G:S≠d:=fun e=>by rw [e,hd] at Y;simp at Y
 have h1:listSameRef (.ref S) (.ref d)=false:=by simp [listSameRef,G]
 unfold listExtendWith;refine e6 (Hq ty ?_);rw [if_neg (by rw [h1];decide)]
 refine e6 (it_dict Z hd ?_);refine e6 (Gc (ub (s := { s with heap:=s.heap.push (kO d 0 es.size ep) }) ⟨_,q7 _ hd,rfl⟩ ?_))
 have B:=Fg Y;have J:=Fg hd;have W:=(walk (prog:=prog) (w:=w) (A:=A.in1) hn s.heap.objs.size d (FR J) es ep).toS;have D4:S∉[s.heap.objs.size,d]:=fun hm=>by
  simp only [Fo,Gn,or_false] at hm
  rcases hm with e | e
  ·exact absurd (e ▸ B) (Gy _)
  ·exact G e
 refine JE (by decide +kernel) ?_
 refine e6 (Hz ?_);unfold listTouch;have L:(s.heap.push (kO d 0 es.size ep)).get? S=some (N3 "list" #[] c):=q7 _ Y;refine e6 (e6 (Io L rfl ?_ (by simp) (by simp)))
 have O:=HD L (fun x=>x.push He);refine Io O rfl ?_ (by simp;decide) (by simp)
 have D5:=HD O (fun x=>x.pop);have oth:∀ b o,b≠S->s.heap.get? b=some o->(((s.heap.push (kO d 0 es.size ep)).update S (Hg fun x=>x.push He)).update S (Hg fun x=>x.pop)).get? b=some o:=fun b o U e=>by
  rw [G9 _ _ _ _ U,G9 _ _ _ _ U];exact q7 _ e
 have hit:(((s.heap.push (kO d 0 es.size ep)).update S (Hg fun x=>x.push He)).update S (Hg fun x=>x.pop)).get? s.heap.objs.size=some (kO d 0 es.size ep):=by
  rw [G9 _ _ _ _ (Gp B),G9 _ _ _ _ (Gp B)];exact Fh _ rfl
 refine D1 ⟨JV Kc _,codeAny_extend_loopS W hz _ D4 _ es.size 0 _ _ _ rfl (Ha _) ⟨hit,_,_,_,oth d _ G.symm hd⟩ D5 (ItemsOf.nil _) fun s' acc c' hm D6 ha => ?_⟩;rw [hm.eq_with];refine q _ _ acc c' (fun b o U e => ?_) D6 ?_ hm.toks
 ·exact hm.heap b o (fun z=>by
   simp only [Fo,Gn,or_false] at z
   rcases z with z | z
   ·exact U z
   ·exact absurd (z ▸ Fg e) (Gy _)) (oth b o U e)
 ·obtain ⟨g1,g2⟩:=ha;apply JB;intro j;rw [FG,FX,FG]
  by_cases hj:j < es.size
  ·obtain ⟨e,he,hv⟩:=g2 j (acc[j]'(by lia)) (FH (by lia))
   rw [FH (by lia),hv,he];rfl
  ·rw [IA (by lia),IA (by lia)];rfl
theorem collect_dict (L:A.handled=none) {d:Addr} {es:Array G3} {ep:Nat} {dd:Option Addr} {sl:Array (Option gV)} {Q:List gV->tv->Prop} (j:(d==H0)=false) (hd:s.heap.get? d=some { cls := .type "dict",dict:=dd,data := .dict es ep,slots:=sl }) (O:es.size<=Fj)
 (q:∀ (h':Heap) (tk:Nat),(∀ b o,s.heap.get? b=some o->h'.get? b=some o)->s.toks<=tk->Q (es.toList.map (·.key)) { s with heap:=h',toks:=tk }):Fq (model prog w) A (collect (.ref d)) Q E s:=by
 unfold collect;refine e6 (wpAny_runValue (HE LH ?_));unfold GR.«proto.collect»;dsimp only;refine e6 (JT ?_ (by simp))
 refine D1 ⟨N4 _ (by decide +kernel), ?_⟩
 refine HE NO ?_;unfold GR.«list.__iadd__»;refine e6 (HR (a:=(FA s.heap.objs.size,[FA d])) (by kernel_rfl) ?_)
 have z:(s.heap.push { cls:=FV "list",data:=Ir [].toArray }).get? s.heap.objs.size=some { cls:=FV "list",data:=Ir #[] 0 }:=Fh _ rfl;rw [N5 (by rfl) (by rfl)]
 refine Gw (wx (s := { s with heap:=s.heap.push { cls:=FV "list",data:=Ir [].toArray } }) (R:=fun r s'=>r = .ok (.ret (.ref s.heap.objs.size))/\Fq (model prog w) A (do
  let o <- load s.heap.objs.size
  match o.data with
  | .seq xs _=>pure xs.toList
  | _=>unsupported "internal:collect") Q E s') L (FA s.heap.objs.size) j (q7 _ hd) z O fun h' tk acc c' kp B U G=>⟨rfl, ?_⟩) (fun fn s' h => ?_) (fun e s' h => ?_)
 ·refine e6 (Oi B ?_);refine D1 ?_;rw [U];exact q h' tk (fun b o e=>kp b o (FR (Fg e)) (q7 _ e)) G
 ·cases fn with
  | done f =>
    obtain ⟨e,h⟩:=h
    cases e
    exact h
  | again c' =>
    refine ⟨h.1,IW h.2 fun r s1 J => ?_⟩;obtain ⟨rfl,J⟩:=J;exact J
 ·cases h.1
end
end Dk
end L2
namespace L2
namespace Mi
open PySem PySem.Spec PyProof.Rows L2.Srt
noncomputable def jr:RAd:=fun ds M Q => ∃ a t kvs sh,ds=[.ref a]/\M a=some (.dct t kvs)/\fP sh=true/\(∀ kv∈kvs,hs sh kv.1=true) /\ ∀ p ys,M p=none->ys.Perm (kvs.map (·.1))->fg ys->Q (.ref p) (ag M p (.lst ys))
theorem js:aO jr:=fun _ _ _ _ h ⟨a,t,kvs,sh,e,e1,e2,j,q⟩=>⟨a,t,kvs,sh,e,e1,e2,j,fun p ys n z hs=>h _ _ (q p ys n z hs)⟩
theorem pP {K:Frag} {H:Hp}:∀ {kvs:List (D×D)} {es:List G3},G5 (fR K H) kvs es -> ∃ vs,RDs K H (kvs.map (·.1)) vs/\Vals vs (es.map (·.key))
 | _,_, .nil=>⟨[],RDs.nil, .nil⟩
 | _,_, .cons r t=>by
   obtain ⟨vs,h1,h2⟩:=pP t;obtain ⟨kV,vV,g1,g2,_,_⟩:=r;exact ⟨kV::vs,RDs.cons g1 h1, .cons g2 h2⟩
section
variable {X:Cx}
theorem nI (L:X.A.units+16 < HQ) (O:X.calm=true):CallR X (.builtin "sorted") (lR X.K jr):=by
 intro pins s σ H xs us Q I r h;obtain ⟨ds,M,rm,rs,a,t,kvs,sh,rfl,e,hok,j,q⟩:=h;obtain ⟨v,rfl,rv⟩:=rs.one;obtain ⟨u,rfl,ru⟩:=dI r
 cases OL.mp rv
 cases (show u=FA a from ru)
 obtain ⟨cd,dd,sl,es,ep,hd,U,z,Y⟩:=pO I rm e;obtain ⟨t1,t2,B⟩:=eh I Y;obtain ⟨vs,h1,h2⟩:=pP z;have F:cd = .type "dict" := by
  obtain ⟨o,g1,g2⟩:=t1;rw [hd] at g1;cases g1;exact g2
 subst F;have Z:X.A.in1.handled=none:=I.ok.hd O;exact oS (cap:=Fj) jj L I rm h1 hok (fun d hd=>by
  obtain ⟨kv,G,rfl⟩:=Fw.mp hd;exact j kv G) q h2 (by have:=h2.length;rw [Fd] at this;simp at this;lia) (by have:=h2.length;rw [Fd] at this;simp at this;lia) fun E R hR=>Dk.collect_dict Z B hd U fun h' tk kp J=>hR h' tk kp J
end
end Mi
end L2
namespace L2
open PySem PySem.Spec PyProof.Rows
section
section
variable {X:Cx} {pins:List (Addr×Obj)} {σ:St} {H:Hp} {s:tv}
theorem zr {x:V} {u:gV} {t:String} (I:Inv X pins σ H s) (rx:RelV x u) (ty:bT X.K H x (.type t)):∃ P,PySem.W.KitX X.K u (.type t) P/\P s.heap/\u≠Value.builtin "__main__.__loader__#opaque" := by
 generalize j:FV t=T at ty
 cases ty with
 | non=>cases (show u=He from rx);exact ⟨_,Na,H8,fun z=>nomatch z⟩
 | bl y=>cases (show u=Lf y from rx);exact ⟨_,Nb,H8,fun z=>nomatch z⟩
 | int i=>obtain ⟨t,rfl⟩:=(show ∃ t,u=Mk i t from rx);exact ⟨_,NB,H8,fun z=>nomatch z⟩
 | str y=>obtain ⟨t,rfl⟩:=(show ∃ t,u=Ml y t from rx);exact ⟨_,ND,H8,fun z=>nomatch z⟩
 | flt y=>obtain ⟨t,rfl⟩:=(show ∃ t,u=NT y t from rx);exact ⟨_,MR,H8,fun z=>nomatch z⟩
 | @lst a xs ea =>
  cases (show u=FA a from rx)
  obtain ⟨_,_,n,_,h1⟩:=(show ObjOk X.prog X.w H s.heap a (.lst xs) from I.hok a _ ea);exact ⟨_,Js,⟨_,h1,rfl⟩,fun z=>nomatch z⟩
 | @frz a ob xs ea =>
  cases (show u=FA a from rx)
  obtain ⟨_,_,_,n,_,h1⟩:=(show ObjOk X.prog X.w H s.heap a (.frz ob (.lst xs)) from I.hok a _ ea);exact ⟨_,Js,⟨_,h1,rfl⟩,fun z=>nomatch z⟩
 | @tup a xs ea =>
  cases (show u=FA a from rx)
  obtain ⟨_,_,⟨o,h1,h2,_⟩,_⟩:=I.tuple ea;exact ⟨_,MU,⟨o,h1,h2⟩,fun z=>nomatch z⟩
 | @dK a kvs ea =>
  cases (show u=FA a from rx)
  obtain ⟨_,_,vs,_,o,es,ep,h1,h2,_⟩:=(show ObjOk X.prog X.w H s.heap a (.dK kvs) from I.hok a _ ea);exact ⟨_,Jt,⟨o,h1,h2.1⟩,fun z=>nomatch z⟩
 | @dT a kvs ea =>
  cases (show u=FA a from rx)
  obtain ⟨_,_,xs,_,o,es,ep,h1,h2,_⟩:=(show ObjOk X.prog X.w H s.heap a (.dT kvs) from I.hok a _ ea);exact ⟨_,Jt,⟨o,h1,h2.1⟩,fun z=>nomatch z⟩
 | ins=>cases j
end
namespace Mi
section
variable {X:Cx}
theorem zt (K:Frag) {T U:String} (q:T∈["bool", "int", "str", "tuple", "list", "dict"]) (z:U∈["bool", "int", "str", "tuple", "list", "dict"]) {t:String} (j:t∈cg):LY K (.type t) [.type T, .type U]=some (dw T t || dw U t):=by
 have h1:=jU K T q t j;have h2:=jU K U z t j;unfold LY;rw [h1]
 cases e1:dw T t with
 | true=>rfl
 | false =>
   dsimp only;unfold LY;rw [h2]
   cases dw U t <;> rfl
theorem r6 {T U:String} (z:T∈["bool", "int", "str", "tuple", "list", "dict"]) (B:U∈["bool", "int", "str", "tuple", "list", "dict"]):CallR X (.builtin "isinstance") (fun vs H Q => ∃ v t p,vs=[v, .ref p]/\H p=some (.tup [.ty T, .ty U])/\bT X.K H v (.type t)/\t∈cg/\Q (.bl (dw T t || dw U t)) H):=by
 intro pins s σ H xs us Q I r h;obtain ⟨v,t,p,rfl,F,ty,G,q⟩:=h;obtain ⟨u,c,rfl,ru,rc⟩:=qv r
 cases (show c=FA p from rc)
 obtain ⟨P,g1,g2,g3⟩:=zr I ru ty;obtain ⟨_,its,rv,⟨cls,dd,dat,sl⟩,h1,h2,n,j⟩:=(show ObjOk X.prog X.w H s.heap p (.tup [.ty T, .ty U]) from I.hok p _ F);dsimp only at h2 j;subst h2 j
 cases rv with
 | cons J rv =>
 cases rv with
 | cons L rv =>
 cases rv
 cases J
 cases L
 exact PySem.W.kia_tup g1 I.kIn g2 h1 (zt X.K z B G) g3 fun tk=>⟨.bl _,H,I.tok tk,rfl,q⟩
noncomputable def fU (T U:String) (ta:TEd):TEd:=fun ρ M Q=>ta ρ M fun x M1 => ∃ t,tyN M1 x=some t/\Q (.bl (dw T t || dw U t)) M1
theorem r8 {T U:String} {ta:TEd} (h:ad ta):ad (fU T U ta):=fun ρ M Q Q' i q=>h _ _ _ _ (fun x z ⟨t,e,j⟩=>⟨t,e,i _ _ j⟩) q
theorem wy {e:Expr} {ta:TEd} {T U:String} {y z:Str} {k:Nat} {p p2 j G pos:Pos} (hT:T∈["bool", "int", "str", "tuple", "list", "dict"]) (hU:U∈["bool", "int", "str", "tuple", "list", "dict"]) (m:ad ta) (he:PE X e (lE X.K ta)) (hg:Gl X "isinstance") (hm:X.mg "isinstance" = none)
 (J:Gl X y) (L:X.mg y=none) (hv:HI y=some (.type T)) (hn:y ≠ "__name__") (O:(y==("__debug__":Str))=false)
 (Y:Gl X z) (Z:X.mg z=none) (D4:HI z=some (.type U)) (D5:z ≠ "__name__") (B:(z==("__debug__":Str))=false)
 (hs:FO [e, .Tuple [.Name y p2, .Name z j] k G] X.env=(false,eval e X.env)::FO [.Tuple [.Name y p2, .Name z j] k G] X.env) :
 PE X (.Call (.Name "isinstance" p) [e, .Tuple [.Name y p2, .Name z j] k G] [] pos) (lE X.K (fU T U ta)):=by
 have h2:PE X (.Name y p2) (tC (.ty T)):=jG J L hv rfl hn O;have h3:PE X (.Name z j) (tC (.ty U)):=jG Y Z D4 rfl D5 B;have h4:PE X (.Tuple [.Name y p2, .Name z j] k G) _:=sB (cB h2 (cB h3 iL rfl) rfl);refine PE.imp (ca (r6 hT hU) hg hm (by decide +kernel) (cB he (cB h4 iL rfl) hs) (by decide) (by decide) hs rfl) fun σ H Q h => ?_
 obtain ⟨ρ,M,rs,rm,q⟩:=h;refine ⟨ρ,M,rs,rm,m _ _ _ _ (fun x M1 ⟨t,e,q1⟩ v H1 x1 rm1 D6 => ?_) q⟩;refine ⟨by simp;decide,fun pp n => ?_⟩
 have st:=(OT (M:=M1) (ho := .tup [.ty T, .ty U]) n).stab rm1;have F:=rm1.new (ho := .tup [.ty T, .ty U]) n;exact ⟨v,t,pp,rfl,ar,xD F (D6.mono st) e,pA e,q1 _ _ (x1.trans (OT n)) F (ON.mpr rfl)⟩
end
end Mi
end
section
section
variable {X:Cx} {pins:List (Addr×Obj)} {σ:St} {H:Hp} {s:tv}
theorem Inv.freeze (I:Inv X pins σ H s) {a:Addr} {ps:List (List Key×V)} (e:H a=some (.dT ps)):∃ o,Inv X pins σ (upd H a (.frz o (.dT ps))) s:=by
 obtain ⟨B,j,xs,pr,o,es,ep,h1,h2,F,G,J⟩:=id (I.hok a _ e);have mu:Mut (H a):=by rw [e];exact H8
 have u:Un X.fs [] H (upd H a (.frz o (.dT ps))) s.heap s.heap:=Un.write mu (.inl rfl) (fun b u _ q=>q) ⟨_,h1⟩;have ok:HOk X.prog X.w (upd H a (.frz o (.dT ps))) s.heap:=HOk.write I.hok mu (.inl rfl) (fun b u _ q=>q) ⟨_,h1⟩
  ⟨h1,(I.hok a _ e).stay (fun b u _ q=>q) (fun b q=>by rw [ai (fun z=>by subst z;rw [e] at q;cases q)];exact q) (fun b xs q=>by rw [ai (fun z=>by subst z;rw [e] at q;cases q)];exact q)⟩
 exact ⟨o,I.un (t':=s.toks) u ok⟩
end
noncomputable def Itk (n:Nat) (G:Hp->Prop) (yl:Nat->V->Hp->Prop):It:=⟨fun i H=>i < n/\G H,fun i H x H'=>H'=H/\yl i x H,fun i H=>n<=i/\G H⟩
theorem uc {P:FI} {w:G2} {K:Frag} {tg:Expr} (a it:Addr) {cd:gV} {dd:Option Addr} {sl:Array (Option gV)} {es:Array G3} {ep:Nat} {G:Hp->Prop} {yl:Nat->V->Hp->Prop}
 (U:∀ H,G H -> ∃ u,H a=some (.frz { cls:=cd,dict:=dd,data := .dict es ep,slots:=sl } u)) (Z:∀ i H h,HOk P w H h->G H -> ∀ e,es[i]? = some e -> ∃ x,RelV x e.key/\yl i x H) :
 fx P w K tg (Itk es.size G yl) [it] it (fun i h=>i<=es.size/\h.get? it=some (Dk.kO a i es.size ep)) where
 mem:=by simp
 obj:=fun i h st b q=>by
  have e:b=it:=by simpa using q
  subst e;exact ⟨_,st.2,fun v z=>by cases z⟩
 keep:=fun i h h' st k=>⟨st.1,k it (by simp) _ st.2⟩
 item:=by
  intro X B hw F Y i pins s σ H E I hf st j;subst B hw F;obtain ⟨hi,j⟩:=j;obtain ⟨u,J⟩:=U H j;obtain ⟨f0,f1,f2,L,f4,O⟩:=hf it (by simp)
  obtain ⟨x,rx,yx⟩:=Z i H s.heap I.hok j es[i] (FH hi);refine Dk.nx_item (e:=es[i]) st.2 (I.hok a _ J).1 (FH hi) fun h' st' sb => ?_;have I1:Inv X pins σ H { s with heap:=h' }:=I.turned (t':=s.toks) (fun b o q e=>(sb.2 b q).trans e) f0 f1 L f4 O
  exact ⟨_,rfl,lw (s := { s with heap:=h' }) (n := "dict_keyiterator") st' rfl rfl (by decide) ⟨x,H,I1,rx,⟨rfl,yx⟩,⟨hi,st'⟩,fun b q=>(hf b q).1⟩⟩
 done:=by
  intro X B hw F Y i pins s σ H E I hf st j;subst B hw F;obtain ⟨hi,j⟩:=j;obtain ⟨u,J⟩:=U H j;obtain ⟨f0,f1,f2,L,f4,O⟩:=hf it (by simp)
  have e:i=es.size:=by have:=st.1;lia
  subst e;exact Dk.nx_end (I.ok.hd Y) st.2 (I.hok a _ J).1 fun h' k=>⟨rfl,I.turned (t':=s.toks) (fun b o q e=>k b o q e) f0 f1 L f4 O⟩
 self:=fun A i s Q E st h=>LX ⟨_,st.2,rfl,rfl⟩ h
namespace Mi
section
variable {X:Cx}
noncomputable def r9 (i:Nat) (t:TSd):TSd:=fun A ρ M => ∃ a kvs, ρ[i]? = some (some (.ref a))/\((M a=some (.dct true kvs)/\t A ρ (ag M a (.fdc kvs)))∨(M a=some (.fdc kvs)/\t A ρ M))
theorem wz {i:Nat} {t:TSd} (h:aB t):aB (r9 i t):=fun a b ρ M l ⟨p,kvs,e,q⟩=>⟨p,kvs,e,q.imp (fun q=>⟨q.1,h _ _ _ _ l q.2⟩) fun q=>⟨q.1,h _ _ _ _ l q.2⟩⟩
theorem AY {st:Stmt} {i:Nat} {t:TSd} (h:PS X st (lS X.K t)):PS X st (lS X.K (r9 i t)):=by
 intro pins s σ H D I ⟨ρ,M,A,rs,rm,lk,a,kvs,e,q⟩
 rcases q with ⟨m,q⟩ | ⟨m,q⟩
 ·obtain ⟨ps,j,pr⟩:=rm a _ m;obtain ⟨o,I'⟩:=I.freeze j;have sb:Stab H (upd H a (.frz o (.dT ps))):=rm.stabPut m;exact h pins s σ _ D I' ⟨ρ,ag M a (.fdc kvs),A,rs.mono sb,rm.put m ⟨o,ps,ar,OO pr fun _ _ z=>⟨z.1,z.2.mono sb⟩⟩,lk.ext (Ext.put m),q⟩
 ·exact h pins s σ H D I ⟨ρ,M,A,rs,rm,lk,q⟩
noncomputable def jt (ta:TEd):TId:=fun ρ M R=>ta ρ M fun x M1 => ∃ a kvs,x = .ref a/\M1 a=some (.fdc kvs)/\R (kvs.map (·.1)) (fun _=>True) M1
theorem ud {ta:TEd} (h:ad ta):bY (jt ta):=fun ρ M Q Q' i q=>h _ _ _ _ (fun x z ⟨a,ds,e,e1,j⟩=>⟨a,ds,e,e1,i _ _ _ j⟩) q
theorem pQ {K:Frag} {H:Hp}:∀ {kvs:List (D×D)} {es:List G3},G5 (fR K H) kvs es -> ∀ (i:Nat) (e:G3),es[i]? = some e -> ∃ (kv:D×D) (v:V),kvs[i]? = some kv/\RD K H kv.1 v/\RelV v e.key
 | _,_, .nil,_,_,h=>by simp at h
 | _,_, .cons r t,0,_,h=>by
   simp at h;subst h;obtain ⟨kV,vV,g1,g2,_,_⟩:=r;exact ⟨_,kV,rfl,g1,g2⟩
 | _,_, .cons _ t,i+1,e,h=>by
   obtain ⟨kv,v,h1,h2⟩:=pQ t i e (by simpa using h)
   exact ⟨kv,v,by simpa using h1,h2⟩
theorem zu {tg e:Expr} {ta:TEd} (m:ad ta) (he:PE X e (lE X.K ta)):PI X tg e (lI X.K (jt ta)):=by
 intro pins s σ H R I h;obtain ⟨ρ,M,rs,rm,q⟩:=h;have hq:lE X.K ta σ H (fun v H1 => ∃ a kvs B,v = .ref a/\Ext M H B H1/\RM X.K B H1/\B a=some (.fdc kvs) /\ ∀ J,fF X.K H1 (kvs.map (·.1)) (fun _=>True) J->R J H1) :=
  ⟨ρ,M,rs,rm,m _ _ _ _ (fun x B ⟨a,kvs,e,e1,O⟩ v H1 U j rd1=>by
    subst e
    cases OL.mp rd1
    exact ⟨a,kvs,B,rfl,U,j,e1,fun J ij=>O J H1 U j ij⟩) q⟩
 refine thn (he pins s σ H _ I hq) fun u s1 ⟨x,H1,F,r1,a,kvs,B,e0,U,j,e1,O⟩ => ?_;subst e0
 cases r1
 obtain ⟨o,ps,Y,pr⟩:=j _ _ e1;obtain ⟨Z,ok⟩:=F.hok a _ Y;obtain ⟨cd,dd,sl,es,ep,g1,g2,g3⟩:=fS ok pr;obtain ⟨ty,_,D4⟩:=eh F (.inr ⟨ps, .inr ⟨o,Y⟩⟩);rw [Z] at g1
 cases g1
 have D5:cd = .type "dict" := by
  obtain ⟨o,h1,h2⟩:=ty;rw [Z] at h1;cases h1;exact h2
 subst D5;have lz:kvs.length=es.size:=by have:=bj g3;simpa using this
 refine Dk.it_dict D4 Z ?_;refine ⟨s1.heap.objs.size,[s1.heap.objs.size],_,_,H1,rfl,F.kept (t':=s1.toks) fun b o e=>q7 _ e,uc (G:=fun H=>H a=some (.frz { cls := .type "dict",dict:=dd,data := .dict es ep,slots:=sl } (.dT ps))/\G5 (fun (p:D×D) (q:List Key×V)=>RKeys p.1 q.1/\RD X.K H p.2 q.2) kvs ps) (yl:=fun i x H => ∃ kv,kvs[i]? = some kv/\RD X.K H kv.1 x) a _ (fun H h=>⟨_,h.1⟩) (fun i H h hok ⟨ha,pr'⟩ e he => ?_),⟨Ha _,Fh _ rfl⟩,fun b hb => ?_,O _ ?_⟩
 ·obtain ⟨z0,ok'⟩:=hok a _ ha;obtain ⟨cd,dd,sl',es',ep',z1,_,z3⟩:=fS ok' pr';rw [z0] at z1
  cases z1
  obtain ⟨kv,v,y1,y2,y3⟩:=pQ z3 i e (by simpa using he)
  exact ⟨v,y3,kv,y1,y2⟩
 ·have e:b=s1.heap.objs.size:=by simpa using hb
  subst e;exact F.fpOk (Fl _) (F.hok.fresh (Fl _))
 ·intro M' H' st rm' _ i;have L:=st.frz _ _ _ Y;have pr':G5 (fun (p:D×D) (q:List Key×V)=>RKeys p.1 q.1/\RD X.K H' p.2 q.2) kvs ps:=OO pr fun _ _ z=>⟨z.1,z.2.mono st⟩;rw [Fd,lz];refine ⟨fun hi=>⟨hi,L,pr'⟩,fun hi=>⟨⟨hi,L,pr'⟩,fun x H'' y => ?_⟩⟩;obtain ⟨e,kv,y1,y2⟩:=y;subst e;exact ⟨.inl rfl,kv.1,by rw [FX,y1];rfl,y2⟩
end
end Mi
end
end L2
namespace L2
open PySem PySem.Spec PyProof.Rows
namespace Mi
end Mi
end L2
namespace L2
namespace Mi
open PySem PySem.Spec PyProof.Rows
end Mi
end L2
namespace L2
open PySem PySem.Spec PyProof.Rows
namespace Mi
end Mi
end L2
namespace L2
namespace Mi
open PySem PySem.Spec PyProof.Rows
section
section
variable {X:Cx}
noncomputable def wB (neg:Bool):R2d:=fun k x M Q => ∃ a t kvs,x = .ref a/\M a=some (.dct t kvs)/\dL t k=true/\Q (.bl (if neg then !(dget kvs k).isSome else (dget kvs k).isSome)) M
theorem wD {neg:Bool}:aF (wB neg):=fun _ _ _ _ _ h ⟨a,t,kvs,e1,e2,j,q⟩=>⟨a,t,kvs,e1,e2,j,h _ _ q⟩
theorem AZ {K:Frag} {M:Mem} {H:Hp} {a:Addr} {t:Bool} {kvs:List (D×D)} {k:D} {v:V} (rm:RM K M H) (e:M a=some (.dct t kvs)) (ok:dL t k=true) (rk:RD K H k v):∃ o,DGet H a v o/\o.isSome=(dget kvs k).isSome:=by
 obtain ⟨o,g,g1,g2⟩:=jT rm e ok rk;refine ⟨o,g, ?_⟩
 cases h:dget kvs k with
 | none=>rw [g2 h];rfl
 | some d=>obtain ⟨w,rfl,_⟩:=g1 d h;rfl
theorem ue (j:X.A.units+1 < HQ):OpR X (Hx .NotIn) (l2 X.K (wB true)):=by
 intro pins s σ H y x u v Q I ry rx h;obtain ⟨dk,dx,M,rm,rk,rd,a,t,kvs,rfl,e,ok,q⟩:=h
 cases OL.mp rd
 cases rx
 obtain ⟨o,g,ho⟩:=AZ rm e ok rk;exact yz j I g ry fun s' I'=>⟨.bl (!o.isSome),H,I',rfl,by rw [ho];exact q _ H Ext.refl rm (ON.mpr rfl)⟩
end
end
end Mi
end L2
namespace L2
namespace It
open PySem PySem.Spec PyProof.Rows
section
variable {prog:FI} {w:G2} {A:G8} {E:gV->tv->Prop} {s:tv}
theorem wF {it d:Addr} {i n ep:Nat} {k v ok ov:gV} {Q:gV->tv->Prop} (hi:s.heap.get? it=some (iO .none false d i n ep ok ov))
 (q:∀ h',h'.get? it=some (iO (Ik s.heap.objs.size) false d i n ep k v)->h'.get? s.heap.objs.size=some { cls := .type "tuple",data := .seq #[k,v] }->(∀ b o,b≠it->s.heap.get? b=some o->h'.get? b=some o)->Q (.ref s.heap.objs.size) { s with heap:=h' }):Fq (model prog w) A (Gu (.ref it) 6 k v) Q E s:=by
 unfold Gu;refine e6 (Jx ?_ (by size_fits))
 have B:=Fg hi;have j:=q7 ({ cls := .type "tuple",data := .seq [k,v].toArray }) hi;unfold GY;refine e6 (e6 (Gi j rfl (x := .none) rfl (D1 ?_)));dsimp only;rw [if_pos rfl];refine e6 (Gi j rfl (x:=ok) rfl ?_);refine e6 (Gi j rfl (x:=ov) rfl ?_);refine e6 (FK j (by simp) fun h1 e1 s1 => ?_)
 refine e6 (FK e1 (by simp) fun h2 e2 s2 => ?_)
 refine e6 (FK e2 (by simp) fun L G s3 => ?_)
 refine e6 (FK G (by simp) fun F J s4 => ?_)
 refine e6 (NX ?_);have kp:∀ b o,b≠it->(s.heap.push { cls := .type "tuple",data := .seq [k,v].toArray }).get? b=some o->F.get? b=some o:=fun b o z e=>s4.extBut b o z (s3.extBut b o z (s2.extBut b o z (s1.extBut b o z e)));refine D1 (q F J (kp _ _ (Gp B) (Fh _ rfl)) fun b o z e=>kp b o z (q7 _ e))
theorem nx_any {it d:Addr} {i ep:Nat} {cd ok ov:gV} {dd:Option Addr} {sl:Array (Option gV)} {es:Array G3} {e:G3} {Q:Option gV->tv->Prop} (hi:s.heap.get? it=some (iO .none false d i es.size ep ok ov)) (hd:s.heap.get? d=some { cls:=cd,dict:=dd,data := .dict es ep,slots:=sl }) (he:es[i]? = some e)
 (q:∀ h',h'.get? it=some (iO (Ik s.heap.objs.size) false d (i+1) es.size ep e.key e.val)->h'.get? s.heap.objs.size=some { cls := .type "tuple",data := .seq #[e.key,e.val] }->(∀ b o,b≠it->s.heap.get? b=some o->h'.get? b=some o)->Q (some (.ref s.heap.objs.size)) { s with heap:=h' }):Fq (model prog w) A (Ij (.ref it)) Q E s:=by
 have ty:s.TypeIs (.ref it) "dict_itemiterator" := ⟨_,hi,rfl⟩;unfold Ij;refine e6 (Ht (FY (name:=Gf "__next__") ty slot_next (FZ slot_next ty bB ?_ (bN _))));unfold GR.«dict_itemiterator.__next__»;have hm:=fO
 wp_walk
 dsimp only;rw [if_neg (by simp)]
 wp_walk
 simp only [Gr,he];refine e6 (Gw (Q:=fun n s'=>n=2/\s'=s) ?_ (fun n s' hs => ?_) fun _ _ z=>z)
 ·wp_walk
  exact ⟨by kernel_rfl,rfl⟩
 obtain ⟨rfl,rfl⟩:=hs;refine e6 (bD ty ?_);refine e6 (FK hi (by simp) fun h1 e1 s1 => ?_)
 refine e6 (Gc ?_);have j:JU { s' with heap:=h1 } (.ref it) "dict_itemiterator" := ⟨_,e1,rfl⟩
 refine e6 (bD j ?_);rw [if_neg (by decide +kernel)] at e1
 have e1:h1.get? it=some (iO .none false d (i+1) es.size ep ok ov):=e1;have hsz:h1.objs.size=s'.heap.objs.size:=s1.1;refine Hi (by decide +kernel) ?_
 refine e6 (bD j ?_);refine Hi (by decide +kernel) ?_
 refine wF (s := { s' with heap:=h1 }) e1 fun h2 e2 B G => ?_
 refine D1 ⟨_,rfl,D1 ?_⟩;dsimp only at e2 B ⊢;rw [hsz] at e2 B ⊢;exact q h2 e2 B fun b o F e=>G b o F (s1.extBut b o F e)
theorem lj:Slot "dict_itemiterator" "__iter__" "dict_itemiterator.__iter__" := .of (owner := "dict_itemiterator") (n := "__iter__") (by rw [K8,II];kernel_rfl) (by decide +kernel) (by decide +kernel) (by decide +kernel) (.inl (by decide +kernel)) (by rw [HZ];kernel_rfl)
theorem rf:Ow table "dict_itemiterator.__iter__" = some GR.«dict_keyiterator.__iter__» :=
 entryFor_alias (id' := "dict_keyiterator.__iter__") (by kernel_rfl) (by first | rfl | decide +kernel | (unfold String.splitOn;simp +decide [String.splitOnAux])) (by decide +kernel) (by kernel_rfl)
theorem uf (a:gV):Ox "dict_itemiterator.__iter__" ⟨[a],[]⟩:=by unfold Ox;kernel_rfl
theorem it_self {it:Addr} {f0 ok ov:gV} {b:Bool} {d:Addr} {i n ep:Nat} {Q:gV->tv->Prop} (hi:s.heap.get? it=some (iO f0 b d i n ep ok ov)) (h:Q (.ref it) s):Fq (model prog w) A (Lh (.ref it)) Q E s:=by
 have ty:s.TypeIs (.ref it) "dict_itemiterator" := ⟨_,hi,rfl⟩;refine KN ty lj (FZ lj ty rf ?_ (uf _));exact D1 ⟨_,rfl, "dict_itemiterator",_,ty,slot_next.lookup,h⟩
end
end It
open PySem PySem.Spec PyProof.Rows
noncomputable def Itp (n:Nat) (G:Hp->Prop) (yl:Nat->V->V->Hp->Prop):It:=⟨fun i H=>i < n/\G H,fun i H x H' => ∃ p u v,H p=none/\x = .ref p/\H'=upd H p (.tup [u,v])/\yl i u v H,fun i H=>n<=i/\G H⟩
theorem rg {P:FI} {w:G2} {K:Frag} {elts:List Expr} {cx} {pos:Pos} (a it:Addr) {cd:gV} {dd:Option Addr} {sl:Array (Option gV)} {es:Array G3} {ep:Nat} {G:Hp->Prop} {yl:Nat->V->V->Hp->Prop}
 (O:∀ H,G H -> ∃ u,H a=some (.frz { cls:=cd,dict:=dd,data := .dict es ep,slots:=sl } u)) (U:∀ i H h,HOk P w H h->G H -> ∀ e,es[i]? = some e -> ∃ u v,RelV u e.key/\RelV v e.val/\yl i u v H) :
 fx P w K (.Tuple elts cx pos) (Itp es.size G yl) [it] it (fun i h=>i<=es.size /\ ∃ ok ov,h.get? it=some (It.iO .none false a i es.size ep ok ov)) where
 mem:=by simp
 obj:=fun i h st b B=>by
  have e:b=it:=by simpa using B
  subst e;obtain ⟨_,ok,ov,e⟩:=st;exact ⟨_,e,fun v z=>by cases z⟩
 keep:=fun i h h' st k=>by
  obtain ⟨h1,ok,ov,e⟩:=st;exact ⟨h1,ok,ov,k it (by simp) _ e⟩
 item:=by
  intro X F hw J j i pins s σ H E I hf st q;subst F hw J;obtain ⟨hi,q⟩:=q;obtain ⟨_,ok,ov,st⟩:=st;obtain ⟨u',L⟩:=O H q;obtain ⟨u,v,ru,rv,yx⟩:=U i H s.heap I.hok q es[i] (FH hi);refine It.nx_any (e:=es[i]) st (I.hok a _ L).1 (FH hi) fun h1 e1 Y Z=>⟨_,rfl, ?_⟩;refine wpAny_letOwnedTupleGo_items (s := { s with heap:=h1 }) e1 fun h2 e2 s2 => ?_
  have lt:∀ {c o},s.heap.get? c=some o->c≠s.heap.objs.size:=fun e=>FR (Fg e);have nz:s.heap.objs.size≠it:=(lt st).symm;have up:∀ c o,c≠it->h1.get? c=some o->h2.get? c=some o:=fun c o n e=>s2.extBut _ _ n e;have IL:Inv X pins σ (upd H s.heap.objs.size (.tup [u,v])) { s with heap:=s.heap.push { cls := .type "tuple",data := .seq #[es[i].key,es[i].val] } } :=
   I.laid (t':=s.toks) (fun b o e=>q7 _ e) (Fl _) ⟨by rw [Fb];simp,[es[i].key,es[i].val], .cons ru (.cons rv .nil),Ki _ _⟩
  have un:∀ c∈[it],upd H s.heap.objs.size (.tup [u,v]) c=none:=fun c j=>by
   have e:c=it:=by simpa using j
   rw [e,ai nz.symm];exact (hf it (by simp)).1
  have kk:∀ c o,c∉[it]->(s.heap.push { cls := .type "tuple",data := .seq #[es[i].key,es[i].val] }).get? c=some o->h2.get? c=some o:=fun c o j e=>by
   simp only [Fo,Gn,or_false] at j
   rcases LQ e with ⟨rfl,rfl⟩ | e
   ·exact up _ _ nz Y
   ·exact up _ _ j (Z c o j e)
  have I2:Inv X pins σ (upd H s.heap.objs.size (.tup [u,v])) { s with heap:=h2 } :=
   Inv.turnedL (s := { s with heap:=s.heap.push { cls := .type "tuple",data := .seq #[es[i].key,es[i].val] } }) (h':=h2) (t':=s.toks) (fp := [it]) IL (fun c j=>⟨un c j,(hf c j).2⟩) kk
  exact ⟨.ref s.heap.objs.size,_,I2,rfl,⟨_,u,v,I.hok.fresh (Fl _),rfl,rfl,yx⟩,⟨hi,_,_,e2⟩,un⟩
 done:=by
  intro X F hw J j i pins s σ H E I hf st q;subst F hw J;obtain ⟨hi,q⟩:=q;obtain ⟨h0,ok,ov,st⟩:=st;obtain ⟨u,L⟩:=O H q;obtain ⟨f0,f1,f2,f3,f4,f5⟩:=hf it (by simp)
  have e:i=es.size:=by lia
  subst e;exact It.nx_end (I.ok.hd j) st (I.hok a _ L).1 fun h' k=>⟨rfl,I.turned (t':=s.toks) (fun b o B e=>k b o B e) f0 f1 f3 f4 f5⟩
 self:=fun A i s Q E st h=>by
  obtain ⟨_,ok,ov,e⟩:=st;exact It.it_self e h
namespace Mi
section
variable {X:Cx}
noncomputable def fV (ta:TEd):TId:=fun ρ M R=>ta ρ M fun x M1 => ∃ a kvs,x = .ref a/\M1 a=some (.fdc kvs)/\R (kvs.map kvD) (fun _=>True) M1
theorem rh {ta:TEd} (h:ad ta):bY (fV ta):=fun ρ M Q Q' i q=>h _ _ _ _ (fun x z ⟨a,ds,e,e1,j⟩=>⟨a,ds,e,e1,i _ _ _ j⟩) q
theorem nJ {K:Frag} {H:Hp}:∀ {kvs:List (D×D)} {es:List G3},G5 (fR K H) kvs es -> ∀ (i:Nat) (e:G3),es[i]? = some e -> ∃ (kv:D×D) (u v:V),kvs[i]? = some kv/\RD K H kv.1 u/\RelV u e.key/\RD K H kv.2 v/\RelV v e.val
 | _,_, .nil,_,_,h=>by simp at h
 | _,_, .cons r t,0,_,h=>by
   simp at h;subst h;obtain ⟨kV,vV,g1,g2,g3,j⟩:=r;exact ⟨_,kV,vV,rfl,g1,g2,g3,j⟩
 | _,_, .cons _ t,i+1,e,h=>by
   obtain ⟨kv,u,v,h1,h2⟩:=nJ t i e (by simpa using h)
   exact ⟨kv,u,v,by simpa using h1,h2⟩
theorem wG {elts:List Expr} {cx} {tpos:Pos} {e:Expr} {ta:TEd} {apos cpos:Pos} (m:ad ta) (he:PE X e (lE X.K ta)) (B:J5 e "items" X.env (eval e X.env)=eval e X.env) (L:(apos.endLine==cpos.line)=true) :
 PI X (.Tuple elts cx tpos) (.Call (.Attribute e "items" apos) [] [] cpos) (lI X.K (fV ta)):=by
 intro pins s σ H R I h;obtain ⟨ρ,M,rs,rm,q⟩:=h;have hq:lE X.K ta σ H (fun v H1 => ∃ a kvs O,v = .ref a/\Ext M H O H1/\RM X.K O H1/\O a=some (.fdc kvs) /\ ∀ J,fF X.K H1 (kvs.map kvD) (fun _=>True) J->R J H1) :=
  ⟨ρ,M,rs,rm,m _ _ _ _ (fun x O ⟨a,kvs,e,e1,q1⟩ v H1 x1 j rd1=>by
    subst e
    cases OL.mp rd1
    exact ⟨a,kvs,O,rfl,x1,j,e1,fun J ij=>q1 J H1 x1 j ij⟩) q⟩
 refine Jq B L (thn (he pins s σ H _ I hq) fun u s1 ⟨x,H1,I1,r1,a,kvs,O,e0,x1,j,e1,q1⟩ => ?_);subst e0;obtain rfl:u=FA a:=r1;obtain ⟨o,ps,hp,pr⟩:=j _ _ e1;obtain ⟨Z,ok⟩:=I1.hok a _ hp;obtain ⟨cd,dd,sl,es,ep,g1,g2,g3⟩:=fS ok pr;obtain ⟨ty,t2,D4⟩:=eh I1 (.inr ⟨ps, .inr ⟨o,hp⟩⟩);rw [Z] at g1
 cases g1
 have D5:cd = .type "dict" := by
  obtain ⟨o,h1,h2⟩:=ty;rw [Z] at h1;cases h1;exact h2
 subst D5;have lz:kvs.length=es.size:=by have:=bj g3;simpa using this
 refine ⟨"dict", "dict.items",Nv,KO,Nw,ty,t2,HK rfl (Kb ?_)⟩;refine lg ty D4 Z ?_;have kpv:∀ b o,s1.heap.get? b=some o->(s1.heap.push { cls:=FV "dict_items",data:=Jn #[FA a] }).get? b=some o:=fun b o e=>q7 _ e;have I2:Inv X pins σ H1 { s1 with heap:=s1.heap.push { cls:=FV "dict_items",data:=Jn #[FA a] } }:=I1.kept (t':=s1.toks) kpv
 refine It.it_view (s := { s1 with heap:=s1.heap.push { cls:=FV "dict_items",data:=Jn #[FA a] } }) (Fh _ rfl) (kpv _ _ Z) ?_
 refine ⟨_,_,_,_,H1,rfl,I2.kept (t':=s1.toks) fun b o e=>q7 _ e,rg (G:=fun H=>H a=some (.frz { cls := .type "dict",dict:=dd,data := .dict es ep,slots:=sl } (.dT ps))/\G5 (fun (p:D×D) (q:List Key×V)=>RKeys p.1 q.1/\RD X.K H p.2 q.2) kvs ps) (yl:=fun i u v H => ∃ kv,kvs[i]? = some kv/\RD X.K H kv.1 u/\RD X.K H kv.2 v) a _ (fun H h=>⟨_,h.1⟩) (fun i H h hok ⟨ha,pr'⟩ e he => ?_),⟨Ha _,_,_,Fh _ rfl⟩,fun b hb => ?_,q1 _ ?_⟩
 ·obtain ⟨z0,ok'⟩:=hok a _ ha;obtain ⟨cd,dd,sl',es',ep',z1,_,z3⟩:=fS ok' pr';rw [z0] at z1
  cases z1
  obtain ⟨kv,u,v,y1,y2,y3,y4,y5⟩:=nJ z3 i e (by simpa using he)
  exact ⟨u,v,y3,y5,kv,y1,y2,y4⟩
 ·have e:b=(s1.heap.push { cls:=FV "dict_items",data:=Jn #[FA a] }).objs.size:=by simpa using hb
  subst e;exact I2.fpOk (Fl _) (I2.hok.fresh (Fl _))
 ·intro M' H' st rm' _ i;have U:=st.frz _ _ _ hp;have pr':G5 (fun (p:D×D) (q:List Key×V)=>RKeys p.1 q.1/\RD X.K H' p.2 q.2) kvs ps:=OO pr fun _ _ z=>⟨z.1,z.2.mono st⟩;rw [Fd,lz];refine ⟨fun hi=>⟨hi,U,pr'⟩,fun hi=>⟨⟨hi,U,pr'⟩,fun x H'' y => ?_⟩⟩;obtain ⟨p,u,v,n,e,e2,kv,y1,y2,y3⟩:=y;subst e e2;have Y:Stab H' (upd H' p (.tup [u,v])):=(OT (M:=M') n).stab rm';exact ⟨.inr ⟨p,[u,v],n,rfl⟩,kvD kv,by rw [FX,y1];rfl,OU ⟨p,[u,v],rfl,ar,RDs.cons (y2.mono Y) (RDs.cons (y3.mono Y) RDs.nil)⟩⟩
end
end Mi
end L2
namespace L2
open PySem PySem.Spec PyProof.Rows
namespace Mi
end Mi
end L2
namespace L2
open PySem PySem.Spec PyProof.Rows
namespace Mi
open L2.Srt
end Mi
end L2
namespace L2
open PySem PySem.Spec PyProof.Rows
end L2
namespace L2
namespace Mi
open PySem PySem.Spec PyProof.Rows
end Mi
end L2
namespace L2
open PySem PySem.Spec PyProof.Rows
namespace Mi
end Mi
end L2
namespace L2
namespace Mi
open PySem PySem.Spec PyProof.Rows
section
mutual
noncomputable def GV (K:Frag):D->gV->Prop
 | .int i,v => ∃ t,v = .int i t
 | .str x,v => ∃ t,v = .str x t
 | .tup ds,v => ∃ a o its n,v = .ref a/\K.lookup a=some o/\o.cls = .type "tuple" /\ o.data = .seq its n/\its.size<=Fj/\fk ds=false/\GVs K ds its.toList
 | _,_=>False
noncomputable def GVs (K:Frag):List D->List gV->Prop
 | [],us=>us=[]
 | d::ds,us => ∃ u r,us=u::r/\GV K d u/\GVs K ds r
end
end
section
inductive BOp where | add | sub | mul | fdiv | mod | pow
inductive COp where | eq | ne | lt | gt | ge | ninD
inductive BF where | len | abs | min2 | int | list | tuple | all | dict | sortk
inductive MF where | append
inductive MF0 where | clear
mutual
inductive MG where
 | name (i:Nat)
 | tup (gs:MGs)
inductive MGs where
 | nil
 | cons (g:MG) (r:MGs)
end
mutual
inductive ME where
 | var (i:Nat)
 | int (i:Int)
 | bl (b:Bool)
 | non
 | bin (op:BOp) (a b:ME)
 | neg (a:ME)
 | cmp (op:COp) (a b:ME)
 | and (es:MEs)
 | or (es:MEs)
 | not (a:ME)
 | ite (c:MT) (a b:ME)
 | tup (es:MEs)
 | lst (es:MEs)
 | ix (a b:ME)
 | sl (a:ME) (lo hi:MO)
 | call (f:Nat) (es:MEs)
 | callv (i:Nat) (cs:List (Str×Nat)) (es:MEs)
 | fnv (x:Str) (f:Nat)
 | blt (f:BF) (es:MEs)
 | isin (a:ME) (T:String)
 | isin2 (a:ME) (T U:String)
 | dnew (t:Bool)
 | sortI (a:ME)
 | dget (o k x:ME)
 | meth (m:MF) (o a:ME)
 | meth0 (m:MF0) (o:ME)
 | comp (fr:List (Option Nat)) (N:List Str) (c:MC)
inductive MEs where
 | nil
 | cons (e:ME) (r:MEs)
inductive MO where
 | none
 | some (e:ME)
inductive MT where
 | tru (e:ME)
 | cmp (op:COp) (a b:ME)
 | and (ts:MTs)
 | or (ts:MTs)
 | not (t:MT)
inductive MTs where
 | nil
 | cons (t:MT) (r:MTs)
inductive MI where
 | seq (e:ME)
 | rng1 (a:ME)
 | enum (a:ME)
 | keys (a:ME)
 | items (a:ME)
inductive MC where
 | last (src:MI) (g:MG) (ifs:MTs) (elt:ME)
 | more (src:MI) (g:MG) (ifs:MTs) (rest:MC)
end
mutual
inductive MS where
 | asg (g:MG) (e:ME)
 | par (i j:Nat) (a b:ME)
 | put (o i e:ME)
 | augI (o i:ME) (op:BOp) (e:ME)
 | drop (e:ME)
 | ret (e:ME)
 | ite (c:MT) (a b:MSs)
 | for (g:MG) (src:MI) (b:MSs)
 | while (c:MT) (b:MSs)
 | frz (i:Nat) (s:MS)
 | pass | brk | cnt
inductive MSs where
 | nil
 | cons (s:MS) (r:MSs)
end
noncomputable def opB:BOp->R2d
 | .add=>fD | .sub=>qF | .mul=>jR | .fdiv=>lB | .mod=>qG | .pow=>qH
noncomputable def opC:COp->R2d
 | .eq=>wEq | .ne=>wNe | .lt=>wLt| .gt=>wGt | .ge=>wGe| .ninD=>wB true
noncomputable def opF:BF->RAd
 | .len=>eS | .abs=>mz| .min2=>lD | .int=>mC | .list=>qM | .tuple=>mG| .all=>qS| .dict=>qZ | .sortk=>jr
noncomputable def opM:MF->D->List D->Mem->QD->Prop
 | .append=>jV
noncomputable def rj:MF0->D->List D->Mem->QD->Prop
 | .clear=>mN
noncomputable def opI:BOp->R2d
 | .add=>lF | .sub=>lH | .mul=>lJ | _=>fun _ _ _ _=>False
theorem nK:∀ o,aF (opB o)
 | .add=>vK | .sub=>vL | .mul=>vM | .fdiv=>sW | .mod=>vN | .pow=>vO
theorem fh:∀ o,aF (opC o)
 | .eq=>yG | .ne=>yH | .lt=>yK| .gt=>yL | .ge=>yM| .ninD=>wD
theorem wH:∀ o,aO (opF o)
 | .len=>mw | .abs=>mD| .min2=>kI | .int=>mF | .list=>kJ | .tuple=>j0| .all=>n9| .dict=>lh | .sortk=>js
theorem wJ:∀ o,eV (opM o)
 | .append=>hJ
theorem ug:∀ o,eV (rj o)
 | .clear=>j9
theorem wK:∀ o,aF (opI o)
 | .add=>kR | .sub=>kS | .mul=>kT
 | .fdiv=>fun _ _ _ _ _ _ q=>q.elim | .mod=>fun _ _ _ _ _ _ q=>q.elim | .pow=>fun _ _ _ _ _ _ q=>q.elim
noncomputable abbrev Phi:=Nat->RAd
mutual
noncomputable def bG:MG->BT
 | .name i=>bg i
 | .tup gs=>jW (bGs gs)
noncomputable def bGs:MGs->BTs
 | .nil=>eX
 | .cons g r=>bw (bG g) (bGs r)
end
noncomputable def fW (Φ:Phi) (i:Nat) (cs:List (Str×Nat)) (t:TAd):TEd:=fun ρ M Q => ∃ x f, ρ[i]? = some (some (.fn x))/\(x,f)∈cs/\wAr (Φ f) t ρ M Q
theorem rl {Φ:Phi} {i:Nat} {cs:List (Str×Nat)} {t:TAd} (hΦ:∀ f,aO (Φ f)) (mt:aW t):ad (fW Φ i cs t):=fun ρ M Q Q' h ⟨x,f,e,hm,q⟩=>⟨x,f,e,hm,eB (hΦ f) mt _ _ _ _ h q⟩
mutual
noncomputable def wE (Φ:Phi):ME->TEd
 | .var i=>bU i
 | .int i=>wC (.int i)
 | .bl b=>wC (.bl b)
 | .non=>wC .non
 | .bin op a b=>wOp (opB op) (wE Φ a) (wE Φ b)
 | .neg a=>wUn qI (wE Φ a)
 | .cmp op a b=>wOp (opC op) (wE Φ a) (wE Φ b)
 | .and es=>wAnds Φ es
 | .or es=>wOrs Φ es
 | .not a=>j6 (wE Φ a)
 | .ite c a b=>wIf (wT Φ c) (wE Φ a) (wE Φ b)
 | .tup es=>wAr jP (wA Φ es)
 | .lst es=>wAr mn (wA Φ es)
 | .ix a b=>wOp wIx (wE Φ a) (wE Φ b)
 | .sl a lo hi=>wSl (wE Φ a) (wO Φ lo) (wO Φ hi)
 | .call f es=>wAr (Φ f) (wA Φ es)
 | .callv i cs es=>fW Φ i cs (wA Φ es)
 | .fnv x _=>wC (.fn x)
 | .blt f es=>wAr (opF f) (wA Φ es)
 | .isin a T=>j8 T (wE Φ a)
 | .isin2 a T U=>fU T U (wE Φ a)
 | .dnew t=>jg t
 | .sortI a=>fQ (wE Φ a)
 | .dget o k x=>jn (wE Φ o) (wE Φ k) (wE Φ x)
 | .meth m o a=>wBM (opM m) (wE Φ o) (bv (wE Φ a) cb)
 | .meth0 m o=>wBM (rj m) (wE Φ o) cb
 | .comp fr _ c=>wCmp Φ fr c
noncomputable def wA (Φ:Phi):MEs->TAd
 | .nil=>cb
 | .cons e r=>bv (wE Φ e) (wA Φ r)
noncomputable def wAnds (Φ:Phi):MEs->TEd
 | .nil=>fun _ _ _=>False
 | .cons e .nil=>wE Φ e
 | .cons e (.cons f r)=>j5 (wE Φ e) (wAnds Φ (.cons f r))
noncomputable def wOrs (Φ:Phi):MEs->TEd
 | .nil=>fun _ _ _=>False
 | .cons e .nil=>wE Φ e
 | .cons e (.cons f r)=>mL (wE Φ e) (wOrs Φ (.cons f r))
noncomputable def wO (Φ:Phi):MO->TOd
 | .none=>eD
 | .some e=>j7 (wE Φ e)
noncomputable def wT (Φ:Phi):MT->TTd
 | .tru e=>mJ (wE Φ e)
 | .cmp op a b=>i7 (wOp (opC op) (wE Φ a) (wE Φ b))
 | .and ts=>wAndTs Φ ts
 | .or ts=>wOrTs Φ ts
 | .not t=>j3 (wT Φ t)
noncomputable def wAndTs (Φ:Phi):MTs->TTd
 | .nil=>fun _ _ _=>False
 | .cons e .nil=>wT Φ e
 | .cons e (.cons f r)=>j4 (wT Φ e) (wAndTs Φ (.cons f r))
noncomputable def wOrTs (Φ:Phi):MTs->TTd
 | .nil=>fun _ _ _=>False
 | .cons e .nil=>wT Φ e
 | .cons e (.cons f r)=>mK (wT Φ e) (wOrTs Φ (.cons f r))
noncomputable def wTl (Φ:Phi):MTs->List TTd
 | .nil => []
 | .cons t r=>wT Φ t::wTl Φ r
noncomputable def wI (Φ:Phi):MI->TId
 | .seq e=>mQ (wE Φ e)
 | .rng1 a=>ja (bv (wE Φ a) cb)
 | .enum a=>jb (wE Φ a)
 | .keys a=>jt (wE Φ a)
 | .items a=>fV (wE Φ a)
noncomputable def wCl (Φ:Phi):MC->TCd
 | .last src g ifs elt=>dl (wI Φ src) (bG g) (bh (wTl Φ ifs) (cq (wE Φ elt)))
 | .more src g ifs rest=>dl (wI Φ src) (bG g) (bh (wTl Φ ifs) (wCl Φ rest))
noncomputable def wCmp (Φ:Phi) (fr:List (Option Nat)):MC->TEd
 | .last src g ifs elt=>gB fr (wI Φ src) (bG g) (bh (wTl Φ ifs) (cq (wE Φ elt)))
 | .more src g ifs rest=>gB fr (wI Φ src) (bG g) (bh (wTl Φ ifs) (wCl Φ rest))
end
mutual
noncomputable def wS (Φ:Phi):MS->TSd
 | .asg g e=>ie (wE Φ e) (bG g)
 | .par i j a b=>mW (bv (wE Φ a) (bv (wE Φ b) cb)) (bw (bg i) (bw (bg j) eX))
 | .put o i e=>mY (wE Φ e) (wE Φ o) (wE Φ i)
 | .augI o i op e=>jf (wE Φ o) (wE Φ i) (wE Φ e) (opI op)
 | .drop e=>je (wE Φ e)
 | .ret e=>mV (wE Φ e)
 | .ite c a b=>sIf (wT Φ c) (wSs Φ a) (wSs Φ b)
 | .for g src b=>mX (wI Φ src) (bG g) (wSs Φ b)
 | .while c b=>fJ (wT Φ c) (wSs Φ b)
 | .frz i s=>r9 i (wS Φ s)
 | .pass=>gC
 | .brk=>fI
 | .cnt=>jd
noncomputable def wSs (Φ:Phi):MSs->TSd
 | .nil=>gC
 | .cons s r=>mU (wS Φ s) (wSs Φ r)
end
section
variable {Φ:Phi} (hΦ:∀ f,aO (Φ f))
include hΦ
mutual
theorem mE:∀ m,ad (wE Φ m)
 | .var _=>vH
 | .int _=>iY
 | .bl _=>iY
 | .non=>iY
 | .bin op a b=>eA (nK op) (mE a) (mE b)
 | .neg a=>yD mv (mE a)
 | .cmp op a b=>eA (fh op) (mE a) (mE b)
 | .and es=>mAnds es
 | .or es=>mOrs es
 | .not a=>t8 (mE a)
 | .ite c a b=>yS (mT c) (mE a) (mE b)
 | .tup es=>eB sR (mA es)
 | .lst es=>eB sU (mA es)
 | .ix a b=>eA pj (mE a) (mE b)
 | .sl a lo hi=>yV (mE a) (mO lo) (mO hi)
 | .call f es=>eB (hΦ f) (mA es)
 | .callv i cs es=>rl hΦ (mA es)
 | .fnv _ _=>iY
 | .blt f es=>eB (wH f) (mA es)
 | .isin a T=>tj (mE a)
 | .isin2 a T U=>r8 (mE a)
 | .dnew _=>tQ
 | .sortI a=>qW (mE a)
 | .dget o k x=>ua (mE o) (mE k) (mE x)
 | .meth m o a=>pB (wJ m) (mE o) (b9 (mE a) aP)
 | .meth0 m o=>pB (ug m) (mE o) aP
 | .comp fr _ c=>mCmp fr c
theorem mA:∀ m,aW (wA Φ m)
 | .nil=>aP
 | .cons e r=>b9 (mE e) (mA r)
theorem mAnds:∀ m,ad (wAnds Φ m)
 | .nil=>fun _ _ _ _ _ q=>q.elim
 | .cons e .nil=>mE e
 | .cons e (.cons f r)=>t7 (mE e) (mAnds (.cons f r))
theorem mOrs:∀ m,ad (wOrs Φ m)
 | .nil=>fun _ _ _ _ _ q=>q.elim
 | .cons e .nil=>mE e
 | .cons e (.cons f r)=>w4 (mE e) (mOrs (.cons f r))
theorem mO:∀ m,eU (wO Φ m)
 | .none=>oM
 | .some e=>tf (mE e)
theorem mT:∀ m,aA (wT Φ m)
 | .tru e=>vY (mE e)
 | .cmp op a b=>vI (eA (fh op) (mE a) (mE b))
 | .and ts=>mAndTs ts
 | .or ts=>mOrTs ts
 | .not t=>t5 (mT t)
theorem mAndTs:∀ m,aA (wAndTs Φ m)
 | .nil=>fun _ _ _ _ _ q=>q.elim
 | .cons e .nil=>mT e
 | .cons e (.cons f r)=>t6 (mT e) (mAndTs (.cons f r))
theorem mOrTs:∀ m,aA (wOrTs Φ m)
 | .nil=>fun _ _ _ _ _ q=>q.elim
 | .cons e .nil=>mT e
 | .cons e (.cons f r)=>vZ (mT e) (mOrTs (.cons f r))
theorem mTl:∀ m, ∀ t∈wTl Φ m,aA t
 | .nil=>by rw [wTl];intro t j;simp at j
 | .cons t r=>by
  rw [wTl];intro t' j
  rcases Fo.mp j with e | e
  ·rw [e];exact mT t
  ·exact mTl r t' e
theorem mI:∀ m,bY (wI Φ m)
 | .seq e=>w9 (mE e)
 | .rng1 a=>tu (b9 (mE a) aP)
 | .enum a=>tz (mE a)
 | .keys a=>ud (mE a)
 | .items a=>rh (mE a)
theorem mCl:∀ m,bQ (wCl Φ m)
 | .last src g ifs elt=>hW (mI src) (aH (br (mE elt)) (mTl ifs))
 | .more src g ifs rest=>hW (mI src) (aH (mCl rest) (mTl ifs))
theorem mCmp (fr:List (Option Nat)):∀ m,ad (wCmp Φ fr m)
 | .last src g ifs elt=>kK (mI src) (aH (br (mE elt)) (mTl ifs))
 | .more src g ifs rest=>kK (mI src) (aH (mCl rest) (mTl ifs))
end
mutual
theorem mS:∀ m,aB (wS Φ m)
 | .asg g e=>wd (mE hΦ e)
 | .par i j a b=>we (b9 (mE hΦ a) (b9 (mE hΦ b) aP))
 | .put o i e=>wm (mE hΦ e) (mE hΦ o) (mE hΦ i)
 | .augI o i op e=>tO (mE hΦ o) (mE hΦ i) (mE hΦ e) (wK op)
 | .drop e=>tF (mE hΦ e)
 | .ret e=>wb (mE hΦ e)
 | .ite c a b=>wc (mT hΦ c) (mSs a) (mSs b)
 | .for g src b=>wf (mI hΦ src) (mSs b)
 | .while c b=>qP (mT hΦ c) (mSs b)
 | .frz i s=>wz (mS s)
 | .pass=>kM
 | .brk=>qO
 | .cnt=>tD
theorem mSs:∀ m,aB (wSs Φ m)
 | .nil=>kM
 | .cons s r=>tE (mS s) (mSs r)
end
end
end
section
structure Ctx where
 Γ:List Str
 N:List Str
 sc:Scope
 fn:List Str
 cs:List (Str×D)
noncomputable def glB (sc:Scope) (x:Str):Bool:=sc.names.lookup x==some .globalImplicit
noncomputable def rn (sc:Scope) (x:Str):Bool:=sc.names.lookup x==some .local || sc.names.lookup x==some .cell || sc.names.lookup x==some .free
noncomputable def wL (sc:Scope) (x:Str):Bool:=sc.names.lookup x==some .local || sc.names.lookup x==some .cell
noncomputable def aU:Expr->Bool
 | .Starred .. => false
 | _=>true
noncomputable def nL:Expr->Bool
 | .Name .. | .Call .. | .Subscript .. | .Constant .. | .BinOp .. | .Attribute .. => true
 | _=>false
noncomputable def cF:Expr->Bool
 | .Slice .. => false
 | _=>true
noncomputable def fX:Expr->Bool
 | .ListComp .. | .SetComp .. | .DictComp .. => false
 | _=>true
noncomputable def ju:Expr->Bool
 | .Set .. => false
 | _=>true
noncomputable def cG:Expr->Bool
 | .Call .. => false
 | _=>true
noncomputable def opO:BOp->Jr
 | .add => .Add | .sub => .Sub | .mul => .Mult | .fdiv => .FloorDiv | .mod => .Mod | .pow => .Pow
noncomputable def wM:COp->CmpOp
 | .eq => .Eq | .ne => .NotEq | .lt => .Lt| .gt => .Gt | .ge => .GtE| .ninD => .NotIn
noncomputable def nM:BF->Str
 | .len => "len" | .abs => "abs"| .min2 => "min" | .int => "int" | .list => "list" | .tuple => "tuple"| .all => "all"| .dict => "dict" | .sortk => "sorted"
noncomputable def B0:MF->Str
 | .append => "append"
noncomputable def zv:MF0->Str
 | .clear => "clear"
noncomputable def bltNames:List Str := ["len", "abs", "max", "min", "int", "list", "tuple", "sum", "isinstance", "range", "bool", "str", "dict", "zip", "enumerate", "reversed", "sorted", "all", "any", "set"]
noncomputable def iu (sc osc:Scope):Scope :=
 { sc with names:=sc.names.map fun (n,k)=>if (k == .free&&osc.kind == .function&&osc.names.lookup n==some .cell) then (n, .cell) else (n,k) }
theorem oU (sc:Scope) (env:Env):relabel sc env=iu sc env.scope:=rfl
noncomputable def wN (sc osc:Scope) (oN N':List Str) (fr:List (Option Nat)):Bool :=
 decide (sc.kind = .function)&&decide ((sc.names.map (·.1)).Nodup)&&decide (N'.Nodup)
  && sc.names.all (fun x => !(x.2 == .free) || osc.names.lookup x.1==some .cell || osc.names.lookup x.1==some .free)
  && decide (fr.length=N'.length)
  && (Hf N'.length).all fun i=>match fr[i]?,N'[i]? with
   | some (some j),some x=>decide (oN[j]? = some x)&&sc.names.any (fun y=>decide (y=(x,G0)))
   | _,_=>true
theorem pk {p:Prop} [d:Decidable p] {t:p->Bool} (h:dite p t (fun _=>false)=true):∃ c,t c=true:=by
 cases d with
 | isTrue c=>exact ⟨c,h⟩
 | isFalse c=>cases h
noncomputable def cL (e:Expr) (f:Str->Pos->Bool):Bool:=if h:e.ctorIdx=23 then @OE.elim (fun _=>Bool) e h f else false
@[elab_as_elim]
theorem db {P:Expr->Prop} (e:Expr) {f:Str->Pos->Bool} (h:cL e f=true) (k:∀ a b,f a b=true->P (.Name a b)):P e :=
 (pk h).elim fun c => @OE.elim (fun e => ∀ c, @OE.elim (fun _=>Bool) e c f=true->P e) e c (fun a b _ h=>k a b h) c
noncomputable def dQ (e:Expr) (f:Const->Nat->Pos->Bool):Bool:=if h:e.ctorIdx=19 then @MD.elim (fun _=>Bool) e h f else false
@[elab_as_elim]
theorem fY {P:Expr->Prop} (e:Expr) {f:Const->Nat->Pos->Bool} (h:dQ e f=true) (k:∀ a b c,f a b c=true->P (.Constant a b c)):P e :=
 (pk h).elim fun c => @MD.elim (fun e => ∀ c, @MD.elim (fun _=>Bool) e c f=true->P e) e c (fun a b c _ h=>k a b c h) c
noncomputable def uh (e:Expr) (f:Expr->Jr->Expr->Pos->Bool):Bool:=if h:e.ctorIdx=2 then @Oy.elim (fun _=>Bool) e h f else false
@[elab_as_elim]
theorem B1 {P:Expr->Prop} (e:Expr) {f:Expr->Jr->Expr->Pos->Bool} (h:uh e f=true) (k:∀ a b c d,f a b c d=true->P (.BinOp a b c d)):P e :=
 (pk h).elim fun c => @Oy.elim (fun e => ∀ c, @Oy.elim (fun _=>Bool) e c f=true->P e) e c (fun a b c d _ h=>k a b c d h) c
noncomputable def fi (e:Expr) (f:UnaryOp->Expr->Pos->Bool):Bool:=if h:e.ctorIdx=3 then @Nx.elim (fun _=>Bool) e h f else false
@[elab_as_elim]
theorem iw {P:Expr->Prop} (e:Expr) {f:UnaryOp->Expr->Pos->Bool} (h:fi e f=true) (k:∀ a b c,f a b c=true->P (.UnaryOp a b c)):P e :=
 (pk h).elim fun c => @Nx.elim (fun e => ∀ c, @Nx.elim (fun _=>Bool) e c f=true->P e) e c (fun a b c _ h=>k a b c h) c
noncomputable def iy (e:Expr) (f:Expr->List CmpOp->List Expr->Pos->Bool):Bool:=if h:e.ctorIdx=15 then @Ny.elim (fun _=>Bool) e h f else false
@[elab_as_elim]
theorem nN {P:Expr->Prop} (e:Expr) {f:Expr->List CmpOp->List Expr->Pos->Bool} (h:iy e f=true) (k:∀ a b c d,f a b c d=true->P (.Compare a b c d)):P e :=
 (pk h).elim fun c => @Ny.elim (fun e => ∀ c, @Ny.elim (fun _=>Bool) e c f=true->P e) e c (fun a b c d _ h=>k a b c d h) c
noncomputable def eG (e:Expr) (f:BoolOp->List Expr->Pos->Bool):Bool:=if h:e.ctorIdx=0 then @O2.elim (fun _=>Bool) e h f else false
@[elab_as_elim]
theorem gN {P:Expr->Prop} (e:Expr) {f:BoolOp->List Expr->Pos->Bool} (h:eG e f=true) (k:∀ a b c,f a b c=true->P (.BoolOp a b c)):P e :=
 (pk h).elim fun c => @O2.elim (fun e => ∀ c, @O2.elim (fun _=>Bool) e c f=true->P e) e c (fun a b c _ h=>k a b c h) c
noncomputable def ui (e:Expr) (f:Expr->Expr->Expr->Pos->Bool):Bool:=if h:e.ctorIdx=5 then @Oz.elim (fun _=>Bool) e h f else false
@[elab_as_elim]
theorem B2 {P:Expr->Prop} (e:Expr) {f:Expr->Expr->Expr->Pos->Bool} (h:ui e f=true) (k:∀ a b c d,f a b c d=true->P (.IfExp a b c d)):P e :=
 (pk h).elim fun c => @Oz.elim (fun e => ∀ c, @Oz.elim (fun _=>Bool) e c f=true->P e) e c (fun a b c d _ h=>k a b c d h) c
noncomputable def cP (e:Expr) (f:List Expr->Nat->Pos->Bool):Bool:=if h:e.ctorIdx=25 then @OA.elim (fun _=>Bool) e h f else false
@[elab_as_elim]
theorem dB {P:Expr->Prop} (e:Expr) {f:List Expr->Nat->Pos->Bool} (h:cP e f=true) (k:∀ a b c,f a b c=true->P (.Tuple a b c)):P e :=
 (pk h).elim fun c => @OA.elim (fun e => ∀ c, @OA.elim (fun _=>Bool) e c f=true->P e) e c (fun a b c _ h=>k a b c h) c
noncomputable def xM (e:Expr) (f:List Expr->Pos->Bool):Bool:=if h:e.ctorIdx=24 then @OF.elim (fun _=>Bool) e h f else false
@[elab_as_elim]
theorem C7 {P:Expr->Prop} (e:Expr) {f:List Expr->Pos->Bool} (h:xM e f=true) (k:∀ a b,f a b=true->P (.List a b)):P e :=
 (pk h).elim fun c => @OF.elim (fun e => ∀ c, @OF.elim (fun _=>Bool) e c f=true->P e) e c (fun a b _ h=>k a b h) c
noncomputable def cu (e:Expr) (f:Expr->Expr->Pos->Bool):Bool:=if h:e.ctorIdx=21 then @LZ.elim (fun _=>Bool) e h f else false
@[elab_as_elim]
theorem de {P:Expr->Prop} (e:Expr) {f:Expr->Expr->Pos->Bool} (h:cu e f=true) (k:∀ a b c,f a b c=true->P (.Subscript a b c)):P e :=
 (pk h).elim fun c => @LZ.elim (fun e => ∀ c, @LZ.elim (fun _=>Bool) e c f=true->P e) e c (fun a b c _ h=>k a b c h) c
noncomputable def rp (e:Expr) (f:Expr->List Expr->List Lp->Pos->Bool):Bool:=if h:e.ctorIdx=16 then @OG.elim (fun _=>Bool) e h f else false
@[elab_as_elim]
theorem xN {P:Expr->Prop} (e:Expr) {f:Expr->List Expr->List Lp->Pos->Bool} (h:rp e f=true) (k:∀ a b c d,f a b c d=true->P (.Call a b c d)):P e :=
 (pk h).elim fun c => @OG.elim (fun e => ∀ c, @OG.elim (fun _=>Bool) e c f=true->P e) e c (fun a b c d _ h=>k a b c d h) c
noncomputable def jv (e:Expr) (f:Expr->Str->Pos->Bool):Bool:=if h:e.ctorIdx=20 then @Mg.elim (fun _=>Bool) e h f else false
@[elab_as_elim]
theorem rq {P:Expr->Prop} (e:Expr) {f:Expr->Str->Pos->Bool} (h:jv e f=true) (k:∀ a b c,f a b c=true->P (.Attribute a b c)):P e :=
 (pk h).elim fun c => @Mg.elim (fun e => ∀ c, @Mg.elim (fun _=>Bool) e c f=true->P e) e c (fun a b c _ h=>k a b c h) c
noncomputable def uj (e:Expr) (f:Option Expr->Option Expr->Option Expr->Pos->Bool):Bool:=if h:e.ctorIdx=26 then @OB.elim (fun _=>Bool) e h f else false
@[elab_as_elim]
theorem B3 {P:Expr->Prop} (e:Expr) {f:Option Expr->Option Expr->Option Expr->Pos->Bool} (h:uj e f=true) (k:∀ a b c d,f a b c d=true->P (.Slice a b c d)):P e :=
 (pk h).elim fun c => @OB.elim (fun e => ∀ c, @OB.elim (fun _=>Bool) e c f=true->P e) e c (fun a b c d _ h=>k a b c d h) c
noncomputable def ll (e:Expr) (f:Expr->List Gk->Scope->Pos->Bool):Bool:=if h:e.ctorIdx=8 then @MJ.elim (fun _=>Bool) e h f else false
@[elab_as_elim]
theorem uk {P:Expr->Prop} (e:Expr) {f:Expr->List Gk->Scope->Pos->Bool} (h:ll e f=true) (k:∀ a b c d,f a b c d=true->P (.ListComp a b c d)):P e :=
 (pk h).elim fun c => @MJ.elim (fun e => ∀ c, @MJ.elim (fun _=>Bool) e c f=true->P e) e c (fun a b c d _ h=>k a b c d h) c
noncomputable def xO (e:Expr) (f:List (Option Expr)->List Expr->Pos->Bool):Bool:=if h:e.ctorIdx=6 then @OH.elim (fun _=>Bool) e h f else false
@[elab_as_elim]
theorem C8 {P:Expr->Prop} (e:Expr) {f:List (Option Expr)->List Expr->Pos->Bool} (h:xO e f=true) (k:∀ a b c,f a b c=true->P (.Dict a b c)):P e :=
 (pk h).elim fun c => @OH.elim (fun e => ∀ c, @OH.elim (fun _=>Bool) e c f=true->P e) e c (fun a b c _ h=>k a b c h) c
noncomputable def fj (e:Stmt) (f:List Expr->Expr->Pos->Bool):Bool:=if h:e.ctorIdx=5 then @O3.elim (fun _=>Bool) e h f else false
@[elab_as_elim]
theorem iz {P:Stmt->Prop} (e:Stmt) {f:List Expr->Expr->Pos->Bool} (h:fj e f=true) (k:∀ a b c,f a b c=true->P (.Assign a b c)):P e :=
 (pk h).elim fun c => @O3.elim (fun e => ∀ c, @O3.elim (fun _=>Bool) e c f=true->P e) e c (fun a b c _ h=>k a b c h) c
noncomputable def i4 (e:Stmt) (f:Expr->Jr->Expr->Pos->Bool):Bool:=if h:e.ctorIdx=7 then @Mh.elim (fun _=>Bool) e h f else false
@[elab_as_elim]
theorem oV {P:Stmt->Prop} (e:Stmt) {f:Expr->Jr->Expr->Pos->Bool} (h:i4 e f=true) (k:∀ a b c d,f a b c d=true->P (.AugAssign a b c d)):P e :=
 (pk h).elim fun c => @Mh.elim (fun e => ∀ c, @Mh.elim (fun _=>Bool) e c f=true->P e) e c (fun a b c d _ h=>k a b c d h) c
noncomputable def um (e:Stmt) (f:Expr->Pos->Bool):Bool:=if h:e.ctorIdx=24 then @OI.elim (fun _=>Bool) e h f else false
@[elab_as_elim]
theorem B4 {P:Stmt->Prop} (e:Stmt) {f:Expr->Pos->Bool} (h:um e f=true) (k:∀ a b,f a b=true->P (.Expr a b)):P e :=
 (pk h).elim fun c => @OI.elim (fun e => ∀ c, @OI.elim (fun _=>Bool) e c f=true->P e) e c (fun a b _ h=>k a b h) c
noncomputable def nO (e:Stmt) (f:Option Expr->Pos->Bool):Bool:=if h:e.ctorIdx=3 then @O4.elim (fun _=>Bool) e h f else false
@[elab_as_elim]
theorem wP {P:Stmt->Prop} (e:Stmt) {f:Option Expr->Pos->Bool} (h:nO e f=true) (k:∀ a b,f a b=true->P (.Return a b)):P e :=
 (pk h).elim fun c => @O4.elim (fun e => ∀ c, @O4.elim (fun _=>Bool) e c f=true->P e) e c (fun a b _ h=>k a b h) c
noncomputable def B5 (e:Stmt) (f:Expr->List Stmt->List Stmt->Pos->Bool):Bool:=if h:e.ctorIdx=12 then @Stmt.If.elim (fun _=>Bool) e h f else false
@[elab_as_elim]
theorem CQ {P:Stmt->Prop} (e:Stmt) {f:Expr->List Stmt->List Stmt->Pos->Bool} (h:B5 e f=true) (k:∀ a b c d,f a b c d=true->P (.If a b c d)):P e :=
 (pk h).elim fun c => @Stmt.If.elim (fun e => ∀ c, @Stmt.If.elim (fun _=>Bool) e c f=true->P e) e c (fun a b c d _ h=>k a b c d h) c
noncomputable def xP (e:Stmt) (f:Expr->Expr->List Stmt->List Stmt->Pos->Bool):Bool:=if h:e.ctorIdx=9 then @Stmt.For.elim (fun _=>Bool) e h f else false
@[elab_as_elim]
theorem C9 {P:Stmt->Prop} (e:Stmt) {f:Expr->Expr->List Stmt->List Stmt->Pos->Bool} (h:xP e f=true) (k:∀ a b c d e,f a b c d e=true->P (.For a b c d e)):P e :=
 (pk h).elim fun c => @Stmt.For.elim (fun e => ∀ c, @Stmt.For.elim (fun _=>Bool) e c f=true->P e) e c (fun a b c d e _ h=>k a b c d e h) c
noncomputable def pR (e:Stmt) (f:Expr->List Stmt->List Stmt->Pos->Bool):Bool:=if h:e.ctorIdx=11 then @OC.elim (fun _=>Bool) e h f else false
@[elab_as_elim]
theorem zw {P:Stmt->Prop} (e:Stmt) {f:Expr->List Stmt->List Stmt->Pos->Bool} (h:pR e f=true) (k:∀ a b c d,f a b c d=true->P (.While a b c d)):P e :=
 (pk h).elim fun c => @OC.elim (fun e => ∀ c, @OC.elim (fun _=>Bool) e c f=true->P e) e c (fun a b c d _ h=>k a b c d h) c
noncomputable def uo (e:Stmt) (f:Pos->Bool):Bool:=if h:e.ctorIdx=25 then @OJ.elim (fun _=>Bool) e h f else false
@[elab_as_elim]
theorem B6 {P:Stmt->Prop} (e:Stmt) {f:Pos->Bool} (h:uo e f=true) (k:∀ a,f a=true->P (.Pass a)):P e :=
 (pk h).elim fun c => @OJ.elim (fun e => ∀ c, @OJ.elim (fun _=>Bool) e c f=true->P e) e c (fun a _ h=>k a h) c
noncomputable def pS (e:Stmt) (f:Pos->Bool):Bool:=if h:e.ctorIdx=26 then @OD.elim (fun _=>Bool) e h f else false
@[elab_as_elim]
theorem zx {P:Stmt->Prop} (e:Stmt) {f:Pos->Bool} (h:pS e f=true) (k:∀ a,f a=true->P (.Break a)):P e :=
 (pk h).elim fun c => @OD.elim (fun e => ∀ c, @OD.elim (fun _=>Bool) e c f=true->P e) e c (fun a _ h=>k a h) c
noncomputable def jw (e:Stmt) (f:Pos->Bool):Bool:=if h:e.ctorIdx=27 then @MK.elim (fun _=>Bool) e h f else false
@[elab_as_elim]
theorem rA {P:Stmt->Prop} (e:Stmt) {f:Pos->Bool} (h:jw e f=true) (k:∀ a,f a=true->P (.Continue a)):P e :=
 (pk h).elim fun c => @MK.elim (fun e => ∀ c, @MK.elim (fun _=>Bool) e c f=true->P e) e c (fun a _ h=>k a h) c
noncomputable def lv0 {α:Type} (xs:List α) (b:Bool):Bool:=xs.isEmpty&&b
noncomputable def lvc {α:Type} (xs:List α) (f : α -> List α -> Bool):Bool:=match xs with
 | y::r=>f y r
 | [] => false
noncomputable def lv1 {α:Type} (xs:List α) (f : α -> Bool):Bool:=lvc xs fun y r=>lv0 r (f y)
noncomputable def lv2 {α:Type} (xs:List α) (f : α -> α -> Bool):Bool:=lvc xs fun y r=>lv1 r (f y)
noncomputable def os {α:Type} (o:Option α) (f : α -> Bool):Bool:=match o with
 | some x=>f x
 | none=>false
noncomputable def on {α:Type} (o:Option α) (b:Bool):Bool:=o.isNone&&b
@[elab_as_elim]
theorem dZ {α:Type} {P:List α -> Prop} (xs:List α) {b:Bool} (h:lv0 xs b=true) (k:b=true->P []):P xs:=by
 cases xs with
 | nil=>exact k h
 | cons _ _=>cases h
@[elab_as_elim]
theorem B7 {α:Type} {P:List α -> Prop} (xs:List α) {f : α -> List α -> Bool} (h:lvc xs f=true) (k:∀ y r,f y r=true->P (y::r)):P xs:=by
 cases xs with
 | nil=>cases h
 | cons y r=>exact k y r h
@[elab_as_elim]
theorem cT {α:Type} {P:List α -> Prop} (xs:List α) {f : α -> Bool} (h:lv1 xs f=true) (k:∀ y,f y=true->P [y]):P xs :=
 B7 xs h fun y r h=>dZ r h fun h=>k y h
@[elab_as_elim]
theorem jZ {α:Type} {P:List α -> Prop} (xs:List α) {f : α -> α -> Bool} (h:lv2 xs f=true) (k:∀ y z,f y z=true->P [y,z]):P xs :=
 B7 xs h fun y r h=>cT r h fun z h=>k y z h
@[elab_as_elim]
theorem jos {α:Type} {P:Option α -> Prop} (o:Option α) {f : α -> Bool} (h:os o f=true) (k:∀ x,f x=true->P (some x)):P o:=by
 cases o with
 | none=>cases h
 | some x=>exact k x h
@[elab_as_elim]
theorem jon {α:Type} {P:Option α -> Prop} (o:Option α) {b:Bool} (h:on o b=true) (k:b=true->P none):P o:=by
 cases o with
 | none=>exact k h
 | some x=>cases h
theorem bF {a b:Bool} (h:(a&&b)=true):a=true/\b=true:=by rwa [D0] at h
noncomputable def cv (e:Expr) (g:Str->List Expr->Bool):Bool:=rp e fun f xs ks _=>lv0 ks (cL f fun x _=>g x xs)
@[elab_as_elim]
theorem cQ {P:Expr->Prop} (e:Expr) {g:Str->List Expr->Bool} (h:cv e g=true) (k:∀ x xs p pos,g x xs=true->P (.Call (.Name x p) xs [] pos)):P e :=
 xN e h fun f xs ks pos h=>dZ ks h fun h=>db f h fun x p h=>k x xs p pos h
noncomputable def gO (e:Expr) (g:Expr->Str->List Expr->Pos->Pos->Bool):Bool:=rp e fun f xs ks p=>lv0 ks (jv f fun o n q=>g o n xs q p)
@[elab_as_elim]
theorem jx {P:Expr->Prop} (e:Expr) {g:Expr->Str->List Expr->Pos->Pos->Bool} (h:gO e g=true) (k:∀ o n xs q p,g o n xs q p=true->P (.Call (.Attribute o n q) xs [] p)):P e :=
 xN e h fun f xs ks pos h=>dZ ks h fun h=>rq f h fun o n q h=>k o n xs q pos h
noncomputable def iSl (e:Expr) (g:Expr->Option Expr->Option Expr->Option Expr->Bool):Bool:=cu e fun x y _=>uj y fun l u s _=>g x l u s
@[elab_as_elim]
theorem jSl {P:Expr->Prop} (e:Expr) {g:Expr->Option Expr->Option Expr->Option Expr->Bool} (h:iSl e g=true) (k:∀ x l u s p pos,g x l u s=true->P (.Subscript x (.Slice l u s p) pos)):P e :=
 de e h fun x y pos h=>B3 y h fun l u s p h=>k x l u s p pos h
mutual
noncomputable def okG:MG->Ctx->Expr->Bool
 | .name i,C,e=>cL e fun x _=>decide (C.N[i]? = some x)&&wL C.sc x&&(C.sc.names.lookup x==some .local || C.fn.contains x)
 | .tup gs,C,e=>cP e fun es _ _=>okGs gs C es
noncomputable def okGs:MGs->Ctx->List Expr->Bool
 | .nil,_,es=>es.isEmpty
 | .cons g r,C,es=>match es with
  | e::es=>aU e&&okG g C e&&okGs r C es
  | [] => false
end
mutual
noncomputable def okE:ME->Ctx->Expr->Bool
 | .var i,C,e=>cL e fun x _=>decide (C.N[i]? = some x)&&rn C.sc x && !(x==("__debug__":Str)) && !(x==("__classdict__":Str))
 | .int i,_,e=>dQ e fun c _ _=>decide (c = .int i)
 | .bl i,_,e=>dQ e fun c _ _=>decide (c = .bool i)
 | .non,_,e=>dQ e fun c _ _=>decide (c = .none)
 | .bin op a b,C,e=>uh e fun l o r _=>decide (o=opO op)&&okE a C l&&okE b C r
 | .neg a,C,e=>fi e fun o x _=>decide (o = .USub)&&okE a C x
 | .cmp op a b,C,e=>iy e fun l os rs _=>lv1 os fun o=>lv1 rs fun r=>decide (o=wM op)&&okE a C l&&okE b C r && !(J2 o r)
 | .and es,C,e=>eG e fun o xs _=>decide (o = .And) && !xs.isEmpty&&okEs es C xs
 | .or es,C,e=>eG e fun o xs _=>decide (o = .Or) && !xs.isEmpty&&okEs es C xs
 | .not a,C,e=>fi e fun o x _=>decide (o = .Not)&&okE a C x
 | .ite c a b,C,e=>ui e fun t x y _=>okT c C t&&okE a C x&&okE b C y
 | .tup es,C,e=>cP e fun xs _ _=>okEs es C xs
 | .lst es,C,e=>xM e fun xs _=>okEs es C xs
 | .ix a b,C,e=>cu e fun x y _=>cF y&&okE a C x&&okE b C y
 | .sl a lo hi,C,e=>iSl e fun x l u s=>on s (okE a C x&&okO lo C l&&okO hi C u)
 | .callv i cs es,C,e=>cv e fun x xs=>decide (C.N[i]? = some x)&&rn C.sc x && !(x==("__debug__":Str)) && !(x==("__classdict__":Str))&&cs.all (fun z=>decide (C.Γ[z.2]? = some z.1)) && !xs.isEmpty&&okEs es C xs
 | .fnv z f,C,e=>cL e fun x _=>decide (x=z)&&decide (C.Γ[f]? = some z)&&glB C.sc z && !(z==("__debug__":Str))
 | .call f es,C,e=>cv e fun x xs=>decide (C.Γ[f]? = some x)&&glB C.sc x && !(x==("__debug__":Str))&&okEs es C xs
 | .blt f es,C,e=>cv e fun x xs=>decide (x=nM f)&&glB C.sc x && !xs.isEmpty&&okEs es C xs
 | .isin2 a T U,C,e=>cv e fun x xs=>lv2 xs fun y w=>cP w fun ws _ _=>lv2 ws fun z' v'=>cL z' fun z _=>cL v' fun v _=>decide (x = "isinstance")&&glB C.sc x&&glB C.sc z&&glB C.sc v&&decide (z=Gf T)&&decide (v=Gf U)&&decide (T∈["bool", "int", "str", "tuple", "list", "dict"])&&decide (U∈["bool", "int", "str", "tuple", "list", "dict"])&&aU y&&okE a C y
 | .isin a T,C,e=>cv e fun x xs=>lv2 xs fun y w=>cL w fun z _=>decide (x = "isinstance")&&glB C.sc x&&glB C.sc z&&decide (z=Gf T)&&decide (T∈["bool", "int", "str", "tuple", "list", "dict"])&&aU y&&okE a C y
 | .dnew _,_,e=>xO e fun ks vs _=>lv0 ks (lv0 vs true)
 | .sortI a,C,e=>cv e fun x xs=>lv1 xs fun w=>gO w fun y n ys ap cp=>lv0 ys (decide (x = "sorted")&&glB C.sc x&&decide (n = "items")&&cG y&&(ap.endLine==cp.line)&&okE a C y)
 | .dget o k x,C,e=>gO e fun y n xs ap cp=>lv2 xs fun e1 e2=>decide (n = "get")&&cG y&&(ap.endLine==cp.line)&&aU e1&&aU e2&&okE o C y&&okE k C e1&&okE x C e2
 | .meth m o a,C,e=>gO e fun x n xs ap cp=>lv1 xs fun y=>decide (n=B0 m)&&cG x&&(ap.endLine==cp.line)&&aU y&&okE o C x&&okE a C y
 | .meth0 m o,C,e=>gO e fun x n xs ap cp=>lv0 xs (decide (n=zv m)&&cG x&&(ap.endLine==cp.line)&&okE o C x)
 | .comp fr N' c,C,e=>ll e fun elt gens sc _=>wN sc C.sc C.N N' fr&&okC c C ⟨C.Γ,N',iu sc C.sc,(sc.names.filter (·.2 == .cell)).map (·.1),C.cs⟩ gens elt
noncomputable def okEs:MEs->Ctx->List Expr->Bool
 | .nil,_,es=>es.isEmpty
 | .cons m r,C,es=>match es with
  | e::es=>aU e&&okE m C e&&okEs r C es
  | [] => false
noncomputable def okO:MO->Ctx->Option Expr->Bool
 | .none,_,e=>e.isNone
 | .some m,C,e=>match e with
  | some e=>okE m C e
  | none=>false
noncomputable def okT:MT->Ctx->Expr->Bool
 | .tru m,C,e=>nL e&&okE m C e
 | .cmp op a b,C,e=>iy e fun l os rs _=>lv1 os fun o=>lv1 rs fun r=>decide (o=wM op)&&okE a C l&&okE b C r && !(J2 o r)
 | .and ts,C,e=>eG e fun o xs _=>decide (o = .And) && !xs.isEmpty&&okTs ts C xs
 | .or ts,C,e=>eG e fun o xs _=>decide (o = .Or) && !xs.isEmpty&&okTs ts C xs
 | .not t,C,e=>fi e fun o x _=>decide (o = .Not)&&okT t C x
noncomputable def okTs:MTs->Ctx->List Expr->Bool
 | .nil,_,es=>es.isEmpty
 | .cons m r,C,es=>match es with
  | e::es=>okT m C e&&okTs r C es
  | [] => false
noncomputable def okI:MI->Ctx->Expr->Expr->Bool
 | .seq m,C,_,e=>ju e&&okE m C e
 | .keys m,C,_,e=>ju e&&okE m C e
 | .items a,C,t,e=>gO e fun x n xs ap cp=>lv0 xs (cP t fun _ _ _=>decide (n = "items")&&cG x&&(ap.endLine==cp.line)&&okE a C x)
 | .rng1 a,C,_,e=>cv e fun x xs=>lv1 xs fun y=>decide (x = "range")&&glB C.sc x&&aU y&&okE a C y
 | .enum a,C,t,e=>cv e fun x xs=>lv1 xs fun y=>cP t fun _ _ _=>decide (x = "enumerate")&&glB C.sc x&&aU y&&okE a C y
noncomputable def okC:MC->Ctx->Ctx->List Gk->Expr->Bool
 | .last src g ifs m,Cs,C,gens,elt=>match gens with
  | [⟨t,it,fs,a⟩] => decide (a=0)&&okI src Cs t it&&okG g C t&&okTs ifs C fs&&okE m C elt
  | _=>false
 | .more src g ifs rest,Cs,C,gens,elt=>match gens with
  | ⟨t,it,fs,a⟩::g2::gs=>decide (a=0)&&okI src Cs t it&&okG g C t&&okTs ifs C fs&&okC rest C C (g2::gs) elt
  | _=>false
end
noncomputable def aX (sc:Scope) (ts:List Expr):List Str:=ts.filterMap fun
 | .Name id pos=>if sc.names.lookup id==some .local&&pos.line==(ts.head?.map (·.pos.line)).getD 0 then some id else none
 | _=>none
noncomputable def rB (sc:Scope) (ts vs:List Expr):Bool := !(ts.length==2 || ts.length==3) || vs.length != ts.length || (aX sc ts).length != ts.length || (aX sc ts).eraseDups.length != (aX sc ts).length || vs.all (MM 8)
noncomputable def rC (C:Ctx) (i:Nat) (x:Str):Bool:=decide (C.N[i]? = some x)&&decide (C.sc.names.lookup x=some .local)
noncomputable def rD (sc:Scope) (ts vs:List Expr) (ns:List Str):Bool := !(!(ts.length==2 || ts.length==3) || vs.length != ts.length) && !(vs.any fun | .Starred .. => true | _=>false)&&decide (aX sc ts=ns) && !((aX sc ts).length != ts.length || (aX sc ts).eraseDups.length != (aX sc ts).length) && !(vs.all (MM 8)) && !(vs.all (constantsAlone 8))
noncomputable def jy (sc:Scope) (tg e:Expr):Bool:=match tg,e with
 | .Tuple ts _ _, .Tuple vs _ _=>rB sc ts vs
 | .Tuple ..,_=>true
 | .Name ..,_=>true
 | _,_=>false
noncomputable def B8 (sc:Scope) (x:Str) (px:Pos) (e:Expr):Bool:=match e with
 | .DictComp _ _ _ s _ => !(sc.names.lookup x==some .local&&px.line==e.pos.line && !(s.names.any fun (n,k)=>n==x&&(k == .local || k == .cell)))
 | _=>true
noncomputable def rE (sc:Scope) (x:Str) (px:Pos) (e:Expr):Bool:=match e with
 | .ListComp _ _ s _=>sc.names.lookup x==some .local&&px.line==e.pos.line && !(s.names.any fun (n,k)=>n==x&&(k == .local || k == .cell))
 | _=>false
mutual
noncomputable def okS:MS->Ctx->Stmt->Bool
 | .asg g m,C,s=>fj s fun ts e _=>lv1 ts fun tg=>okG g C tg&&okE m C e&&jy C.sc tg e&&(match tg with | .Name x px=>B8 C.sc x px e | _=>fX e)
 | .par i j a b,C,s=>fj s fun ts e _=>lv1 ts fun tg=>cP tg fun ts _ _=>cP e fun es _ _=>lv2 ts fun t u=>lv2 es fun e f=>cL t fun x px=>cL u fun y py=>rC C i x&&rC C j y&&decide (i≠j)&&aU e&&aU f&&okE a C e&&okE b C f&&rD C.sc [.Name x px, .Name y py] [e,f] [x,y]
 | .put o i m,C,s=>fj s fun ts e _=>lv1 ts fun tg=>cu tg fun x y _=>cF y&&fX e&&okE o C x&&okE i C y&&okE m C e
 | .augI o i op m,C,s=>i4 s fun t o' e _=>cu t fun x y _=>decide (o'=opO op)&&(match op with | .add | .sub | .mul=>true | _=>false)&&cF y&&okE o C x&&okE i C y&&okE m C e
 | .drop m,C,s=>um s fun e _=>fX e&&okE m C e
 | .ret m,C,s=>nO s fun o _=>os o fun e=>okE m C e
 | .ite c a b,C,s=>B5 s fun t x y _=>okT c C t&&okSs a C x&&okSs b C y
 | .for g src b,C,s=>xP s fun tg it body els _=>lv0 els (ju it&&okG g C tg&&okI src C tg it&&okSs b C body)
 | .while c b,C,s=>pR s fun t body els _=>lv0 els (okT c C t&&okSs b C body)
 | .frz _ m,C,s=>okS m C s
 | .pass,_,s=>uo s fun _=>true
 | .brk,_,s=>pS s fun _=>true
 | .cnt,_,s=>jw s fun _=>true
noncomputable def okSs:MSs->Ctx->List Stmt->Bool
 | .nil,_,ss=>ss.isEmpty
 | .cons m r,C,ss=>match ss with
  | s::ss=>okS m C s&&okSs r C ss
  | [] => false
end
theorem av {e:Expr} {es:List Expr} {env:Env} (h:aU e=true):FO (e::es) env=(false,eval e env)::FO es env:=by
 cases e <;> first | rfl | (simp [aU] at h;done)
theorem lm {e:Expr} {es:List Expr} {env:Env} (h:aU e=true):Hl (e::es) env=(false,assign e env)::Hl es env:=by
 cases e <;> first | rfl | (simp [aU] at h;done)
theorem rF {e:Expr} {env:Env} (h:nL e=true):∀ whole,isTrue e env whole=(do let v <- whole;KG e.pos;holding [v] (truthy v)):=by
 intro w
 cases e <;> first | rfl | (simp [nL] at h;done)
theorem wQ {e:Expr} (h:cF e=true):jJ e:=by
 intro o i
 cases e <;> first | rfl | (simp [cF] at h;done)
theorem nP {e:Expr} {env:Env} (h:ju e=true):∀ x,Hw e env x=pure x:=by
 intro x
 cases e <;> first | rfl | (simp [ju] at h;done)
theorem dC {e:Expr} {n:Str} {env:Env} (h:cG e=true):J5 e n env (eval e env)=eval e env:=by
 cases e <;> first | rfl | (simp [cG] at h;done)
theorem ka {e:Expr} {t:Option Expr} {l:Nat} {env:Env} (h:fX e=true):Jm e t l env=pure false:=by
 cases e <;> first | rfl | (simp [fX] at h;done)
end
section
noncomputable def lSp (K:Frag) (r:RAd):Sp:=fun vs H Q _=>lR K r vs H Q
structure Good (C:Ctx) (Φ:Phi) (k:Nat) (X:Cx):Prop where
 hx:∀ e s,X.xe e s->False
 calm:X.calm=true
 N:X.N=C.N
 sc:X.env.scope=C.sc
 nd:X.N.Nodup
 fn:∀ x∈C.fn,X.fn x=true
 room:Room k X.A
 mgB:∀ x∈bltNames,X.mg x=none
 fns:∀ (i:Nat) (x:Str),C.Γ[i]? = some x -> ∃ f fd ps,X.mg x=some (.ref f)/\Jy X.K GD x=some (some (.ref f))/\IQ X.K (.ref f)=true/\Binds X.K fd ps []/\du X.prog X.w X.K X.mg X.base CX0 k f fd ps (lSp X.K (Φ i))
 mono:∀ f,aO (Φ f)
 cs:∀ x d,(x,d)∈C.cs -> ∃ u,X.mg x=some u/\GV X.K d u
section
variable {C:Ctx} {Φ:Phi} {k:Nat} {X:Cx}
theorem Good.units (G:Good C Φ k X):X.A.units+64 < HQ:=G.room.units
theorem Good.gl (G:Good C Φ k X) {x:Str} (h:glB C.sc x=true):Gl X x:=by
 show X.env.scope.names.lookup x=_;rw [G.sc];simpa [glB] using h
theorem Good.vis (G:Good C Φ k X) {x:Str} (h:rn C.sc x=true):Vis X.env.scope x:=by
 unfold Vis;rw [G.sc];simp [rn] at h
 rcases h with (h | h) | h
 ·exact .inl h
 ·exact .inr (.inl h)
 ·exact .inr (.inr h)
theorem Good.loc (G:Good C Φ k X) {x:Str} (h:wL C.sc x=true):Loc X.env.scope x:=by
 unfold Loc;rw [G.sc];simpa [wL] using h
theorem Good.own (G:Good C Φ k X) {x:Str} (h:(C.sc.names.lookup x==some .local || C.fn.contains x)=true):X.fn x=true∨X.env.scope.names.lookup x=some .local:=by
 rw [G.sc];simp at h
 rcases h with h | h
 ·exact .inr h
 ·exact .inl (G.fn x h)
theorem B9 (G:Good C Φ k X):∀ o:BOp,OpR X (GX (opO o)) (l2 X.K (opB o))
 | .add=>vP | .sub=>vQ | .mul=>vR | .fdiv=>sX | .mod=>vT | .pow=>vU
theorem pT (G:Good C Φ k X):∀ o:COp,OpR X (Hx (wM o)) (l2 X.K (opC o))
 | .eq=>yI (by have:=G.units;lia) | .ne=>yJ (by have:=G.units;lia) | .lt=>yN| .gt=>yO | .ge=>yP| .ninD=>ue (by have:=G.units;lia)
theorem Ba (G:Good C Φ k X) {f:BF} {e:Expr} {es:List Expr} {t:TAd} {p pos:Pos} (mt:aW t) (q:Gl X (nM f)) (z:PA X (e::es) (lA X.K t))
 (he:FO (e::es) X.env=(false,eval e X.env)::FO es X.env) (j:(J0 pos (FO es X.env)).any (·.1)=false):PE X (.Call (.Name (nM f) p) (e::es) [] pos) (lE X.K (wAr (opF f) t)):=by
 cases f with
 | len=>exact PE.imp (ca qJ q (G.mgB _ (by decide)) PySem.boot_len z (by decide) (by decide) he j) (bq mw mt)
 | abs=>exact PE.imp (ca qK q (G.mgB _ (by decide)) (by decide +kernel) z (by decide) (by decide) he j) (bq mD mt)
 | min2=>exact PE.imp (ca (oJ G.calm) q (G.mgB _ (by decide)) (by decide +kernel) z (by decide) (by decide) he j) (bq kI mt)
 | int=>exact PE.imp (dJ qL q (G.mgB _ (by decide)) (by decide +kernel) z (by decide) (by decide) he j) (bq mF mt)
 | list=>exact PE.imp (dJ oK q (G.mgB _ (by decide)) (by decide +kernel) z (by decide) (by decide) he j) (bq kJ mt)
 | tuple=>exact PE.imp (dJ mH q (G.mgB _ (by decide)) (by decide +kernel) z (by decide) (by decide) he j) (bq j0 mt)
 | all=>exact PE.imp (ca (qT G.calm) q (G.mgB _ (by decide)) (by decide +kernel) z (by decide) (by decide) he j) (bq n9 mt)
 | dict=>exact PE.imp (dJ (oT (by have:=G.units;lia) G.calm) q (G.mgB _ (by decide)) (by decide +kernel) z (by decide) (by decide) he j) (bq lh mt)
 | sortk=>exact PE.imp (ca (nI (by have:=G.units;lia) G.calm) q (G.mgB _ (by decide)) (by decide +kernel) z (by decide) (by decide) he j) (bq js mt)
theorem zy (G:Good C Φ k X) {f:Nat} {x:Str} {e:Expr} {es:List Expr} {t:TAd} {p pos:Pos} (mt:aW t) (hf:C.Γ[f]? = some x) (z:Gl X x) (j:(x==("__debug__":Str))=false) (B:PA X (e::es) (lA X.K t))
 (he:FO (e::es) X.env=(false,eval e X.env)::FO es X.env) (q:(J0 pos (FO es X.env)).any (·.1)=false):PE X (.Call (.Name x p) (e::es) [] pos) (lE X.K (wAr (Φ f) t)):=by
 obtain ⟨a,fd,ps,hm,_,J,L,F⟩:=G.fns f x hf;refine PE.imp (yt F G.room z hm J L .nil qC B j he q) fun σ H Q h => ?_;have h2:=bq (G.mono f) mt σ H Q h;have:(fun vs H1=>lSp X.K (Φ f) (vs++[]) H1 Q E0)=fun vs H1=>lR X.K (Φ f) vs H1 Q:=by
  funext vs H1;rw [GB];rfl
 show (lA X.K t) σ H _;rw [this];exact h2
theorem wR (G:Good C Φ k X) {f:Nat} {x:Str} {p pos:Pos} (hf:C.Γ[f]? = some x) (z:Gl X x) (j:(x==("__debug__":Str))=false):PE X (.Call (.Name x p) [] [] pos) (lE X.K (wAr (Φ f) cb)):=by
 obtain ⟨a,fd,ps,hm,_,B,J,F⟩:=G.fns f x hf;refine PE.imp (vq F G.room z hm B J .nil qC j) fun σ H Q h => ?_;obtain ⟨ρ,M,rs,rm,q⟩:=h;exact ⟨[],M,rm,RDs.nil,q⟩
theorem Bb (G:Good C Φ k X) {f:Nat} {x:Str} {pos:Pos} (hf:C.Γ[f]? = some x) (z:Gl X x) (j:(x==("__debug__":Str))=false):PE X (.Name x pos) (lE X.K (wC (.fn x))):=by
 obtain ⟨a,fd,ps,hm,B,J,L,F⟩:=G.fns f x hf;exact PE.imp (yf (v := .ref a) z hm rfl j) fun σ H Q ⟨ρ,M,rs,rm,q⟩=>q _ H Ext.refl rm (P1.mpr ⟨a,rfl,B⟩)
theorem wU (G:Good C Φ k X) {i:Nat} {y:Str} {cs:List (Str×Nat)} {e:Expr} {es:List Expr} {t:TAd} {p pos:Pos} (mt:aW t) (hN:X.N[i]? = some y) (B:Vis X.env.scope y) (J:(y==("__debug__":Str))=false) (L:(y==("__classdict__":Str))=false) (O:∀ z∈cs,C.Γ[z.2]? = some z.1) (ha:PA X (e::es) (lA X.K t))
 (he:FO (e::es) X.env=(false,eval e X.env)::FO es X.env) (U:(J0 pos (FO es X.env)).any (·.1)=false):PE X (.Call (.Name y p) (e::es) [] pos) (lE X.K (fW Φ i cs t)):=by
 intro pins s σ H Q I h;obtain ⟨ρ,M,rs,rm,x,f,er,hm,q⟩:=h;obtain ⟨v,ev,rd⟩:=rs.2 i _ er;obtain ⟨a0,rfl,Y⟩:=P1.mp rd;obtain ⟨a,fd,ps,D4,j,hk,hb,F⟩:=G.fns f x (O _ hm);rw [Y] at j
 cases j
 refine HX (thn (sd hN B J L pins s σ H (fun v H'=>v = .ref a0/\H'=H) I ⟨_,ev,rfl,rfl⟩) fun u s1 ⟨v,H1,Z,r,B,hH⟩ => ?_);subst B hH
 cases r
 have h2:=bq (G.mono f) mt σ H1 Q ⟨ρ,M,rs,rm,q⟩;have e2:(fun vs H1=>lSp X.K (Φ f) (vs++[]) H1 Q E0)=fun vs H1=>lR X.K (Φ f) vs H1 Q:=by
  funext vs H1;rw [GB];rfl
 refine MV (h₀ := X.base) Z.ok.mod.kin hk (thn (ha pos pins s1 σ H1 (fun vs H1=>lSp X.K (Φ f) (vs++[]) H1 Q E0) Z (by rw [e2];exact h2)) fun us s2 ⟨vs,H2,I2,r,q⟩=>⟨I2.kIn, ?_⟩) he U
 exact lP F G.room hb .nil qC I2 r q
theorem fo {env:Env} {pos:Pos}:∀ {es:List Expr},es.all aU=true->(J0 pos (FO es env)).any (·.1)=false
 | [],_=>rfl
 | e::es,h=>by
   simp only [J7,D0] at h;rw [av h.1];show (false || (J0 pos (FO es env)).any (·.1))=false
   rw [fo h.2];rfl
theorem dR:∀ {ms:MEs} {es:List Expr},okEs ms C es=true->es.all aU=true
 | .nil,[],_=>rfl
 | .nil,_::_,h=>by simp [okEs] at h
 | .cons m r,[],h=>by simp [okEs] at h
 | .cons m r,e::es,h=>by
  simp only [okEs,D0] at h;simp only [J7,D0];exact ⟨h.1.1,dR h.2⟩
theorem pU:∀ {gs:MGs} {es:List Expr},okGs gs C es=true -> ∀ ds ρ ρ',bGs gs ds ρ = some ρ'->ds.length=es.length
 | .nil,es,h,ds, ρ, ρ',e=>by
  simp [okGs] at h;subst h;rw [bGs] at e
  cases ds with
  | nil=>rfl
  | cons _ _=>cases e
 | .cons g r,[],h,_,_,_,_=>by simp [okGs] at h
 | .cons g r,x::es,h,ds, ρ, ρ',e=>by
  simp only [okGs,D0] at h;rw [bGs] at e
  cases ds with
  | nil=>cases e
  | cons d ds =>
    simp only [bw] at e
    cases e1:bG g d ρ with
    | none=>rw [e1] at e;cases e
    | some ρ1 =>
      rw [e1] at e;simp [pU h.2 ds ρ1 ρ' e]
theorem nQ {env:Env}:∀ {gs:MGs} {es:List Expr},okGs gs C es=true->(Hl es env).length=es.length/\(Hl es env).findIdx? (·.1)=none
 | .nil,es,h=>by simp [okGs] at h;subst h;exact ⟨rfl,rfl⟩
 | .cons g r,[],h=>by simp [okGs] at h
 | .cons g r,x::es,h=>by
  simp only [okGs,D0] at h;obtain ⟨a,b⟩:=nQ (env:=env) h.2;rw [lm h.1.1];refine ⟨by simp [a], ?_⟩
  rw [List.findIdx?_cons];simp [b]
mutual
theorem sG (G:Good C Φ k X):∀ (m:MG) (e:Expr),okG m C e=true->PG X e (lG X.K (bG m))
 | .name i,e,h=>by
  refine db e h fun x _ h => ?_;simp only [D0] at h;exact yZ G.nd (by rw [G.N];exact of_decide_eq_true h.1.1) (G.loc h.1.2) (G.own h.2)
 | .tup gs,e,h=>by
  refine dB e h fun es _ _ h => ?_;rw [bG];obtain ⟨a,b⟩:=nQ (env:=X.env) h;exact AM G.calm (pU h) (sGs G gs _ h) a b
theorem sGs (G:Good C Φ k X):∀ (m:MGs) (es:List Expr),okGs m C es=true->PGs X es (lGs X.K (bGs m))
 | .nil,es,h=>by
  simp [okGs] at h;subst h;exact z4
 | .cons g r,[],h=>by simp [okGs] at h
 | .cons g r,e::es,h=>by
  simp only [okGs,D0] at h;exact w8 (sG G g e h.1.2) (sGs G r es h.2) (by rw [lm h.1.1];rfl)
end
theorem PB.imp {F:Sem Fin->Sem Fin} {t t':TC} (h:PB X F t) (i:∀ σ H N,t' σ H N->t σ H N):PB X F t':=fun pins s σ H N k Q E I q hk=>h pins s σ H N k Q E I (i _ _ _ q) hk
theorem jz {sc osc:Scope} {oN N':List Str} {fr:List (Option Nat)} (h:wN sc osc oN N' fr=true):aZ sc osc oN N' fr:=by
 simp only [wN,D0,decide_eq_true_eq] at h;obtain ⟨⟨⟨⟨⟨h1,h2⟩,F⟩,G⟩,J⟩,L⟩:=h;refine ⟨h1,h2,F,fun x hx e => ?_,J,fun i j x hi hf => ?_⟩
 ·have z:=IY.mp G x hx;rw [e] at z;simpa using z
 ·have B:i < N'.length:=(FC.mp hi).1;have q:=IY.mp L i (Kj.mpr B);rw [hf,hi] at q;simp only [D0,decide_eq_true_eq,HW] at q;obtain ⟨a,y,O,e⟩:=q;exact ⟨a,by rw [<- e];exact O⟩
theorem Good.blk (G:Good C Φ k X) {sc:Scope} {N':List Str} {fr:List (Option Nat)} (B:aZ sc C.sc C.N N' fr) (s:tv) (H:Hp) (fp:List Addr) :
 Good ⟨C.Γ,N',iu sc C.sc,(sc.names.filter (·.2 == .cell)).map (·.1),C.cs⟩ Φ k (aE X sc N' s H fp):=by
 refine ⟨fun _ _ h=>h,G.calm,rfl, ?_,B.ndN,fun x hx => ?_,G.room,G.mgB,G.fns,G.mono,G.cs⟩
 ·show relabel sc X.env=_;rw [oU,G.sc]
 ·obtain ⟨y,q,e⟩:=Fw.mp hx;obtain ⟨h1,h2⟩:=Hh.mp q;obtain ⟨n,kd⟩:=y;have j:kd = .cell:=by simpa using h2
  subst j;have e':n=x:=e;subst e';show (sc.names.lookup n==some .cell)=true;rw [aK B.nd h1];rfl
end
end
section
section
variable {Φ:Phi} {k:Nat}
theorem dq {C:Ctx} {X:Cx} (G:Good C Φ k X) {F:Sem Fin->Sem Fin} {p:Addr} {tb:TCd} {ifs:List Expr} {ts:List TTd} (mb:bQ tb) (mt:∀ t∈ts,aA t) (j:PB X F (lC X.K p tb)) (q:G5 (fun c t=>PT X c t) ifs (ts.map (lT X.K))) :
 PB X (fun k=>bf ifs X.env >>= fun ok=>if ok=true then F k else k) (lC X.K p (bh ts tb)) :=
 PB.imp (vF G.hx j q) (jc mb mt)
theorem fZ {m:MC} {Cs C:Ctx} {g2:Gk} {gs:List Gk} {elt:Expr} (h:okC m Cs C (g2::gs) elt=true):g2.is_async=0:=by
 obtain ⟨t,i,f,a⟩:=g2
 cases m with
 | last src g ifs m =>
   cases gs with
   | nil=>simp only [okC,D0,decide_eq_true_eq] at h;exact h.1.1.1.1
   | cons _ _=>simp [okC] at h
 | more src g ifs rest =>
   cases gs with
   | nil=>simp [okC] at h
   | cons _ _=>simp only [okC,D0,decide_eq_true_eq] at h;exact h.1.1.1.1
theorem iA {C:Ctx} {X:Cx} (G:Good C Φ k X):∀ T∈["bool", "int", "str", "tuple", "list", "dict"],X.mg (Gf T)=none/\HI (Gf T)=some (.type T)/\Gf T ≠ "__name__" /\ (Gf T==("__debug__":Str))=false:=by
 intro T j;simp only [Fo,Gn,or_false] at j
 rcases j with rfl | rfl | rfl | rfl | rfl | rfl
 all_goals exact ⟨G.mgB _ (by decide),by decide +kernel,by decide,by decide⟩
mutual
theorem sE:∀ (m:ME) {C:Ctx} {X:Cx} (G:Good C Φ k X) (e:Expr),okE m C e=true->PE X e (lE X.K (wE Φ m))
 | .var i,C,X,G,e,h=>by
  refine db e h fun x _ h => ?_;simp only [D0,GI,decide_eq_true_eq] at h;exact Ay (by rw [G.N];exact h.1.1.1) (G.vis h.1.1.2) h.1.2 h.2
 | .int i,C,X,G,e,h=>by
  refine fY e h fun c _ _ h => ?_;rw [of_decide_eq_true h];exact Az
 | .bl i,C,X,G,e,h=>by
  refine fY e h fun c _ _ h => ?_;rw [of_decide_eq_true h];exact BS
 | .non,C,X,G,e,h=>by
  refine fY e h fun c _ _ h => ?_;rw [of_decide_eq_true h];exact AA
 | .bin op a b,C,X,G,e,h=>by
  refine B1 e h fun l o r _ h => ?_;simp only [D0,decide_eq_true_eq] at h;rw [h.1.1];exact BU (B9 G op) (nK op) (mE G.mono a) (mE G.mono b) (sE a G _ h.1.2) (sE b G _ h.2)
 | .neg a,C,X,G,e,h=>by
  refine iw e h fun o x _ h => ?_;replace h:=bF h;obtain ⟨ho,h⟩:=h
  cases of_decide_eq_true ho
  exact BV vW mv (mE G.mono a) (sE a G _ h)
 | .cmp op a b,C,X,G,e,h=>by
  refine nN e h fun l os rs pos h => ?_;refine cT os h fun o h => ?_;refine cT rs h fun r h => ?_;simp only [D0,decide_eq_true_eq] at h;obtain ⟨⟨⟨ho,O⟩,hb⟩,hm⟩:=h;rw [GI] at hm;subst ho;exact AB (pT G op) (fh op) (mE G.mono a) (mE G.mono b) (sE a G _ O) (sE b G _ hb) hm
 | .and es,C,X,G,e,h=>by
  refine gN e h fun o xs _ h => ?_;replace h:=bF h;obtain ⟨ho,h⟩:=h;obtain ⟨ho,q⟩:=bF ho
  cases of_decide_eq_true ho
  exact sAnds es G _ _ h (by intro z;rw [z] at q;cases q)
 | .or es,C,X,G,e,h=>by
  refine gN e h fun o xs _ h => ?_;replace h:=bF h;obtain ⟨ho,h⟩:=h;obtain ⟨ho,q⟩:=bF ho
  cases of_decide_eq_true ho
  exact sOrs es G _ _ h (by intro z;rw [z] at q;cases q)
 | .not a,C,X,G,e,h=>by
  refine iw e h fun o x _ h => ?_;replace h:=bF h;obtain ⟨ho,h⟩:=h
  cases of_decide_eq_true ho
  exact AL (mE G.mono a) (sE a G _ h)
 | .ite c a b,C,X,G,e,h=>by
  refine B2 e h fun t x y _ h => ?_;simp only [D0] at h;exact C2 (mT G.mono c) (mE G.mono a) (mE G.mono b) (sT c G _ h.1.1) (sE a G _ h.1.2) (sE b G _ h.2)
 | .tup es,C,X,G,e,h=>by
  refine dB e h fun xs _ _ h => ?_;exact AD (mA G.mono es) (sA es G _ h)
 | .lst es,C,X,G,e,h=>by
  refine C7 e h fun xs _ h => ?_;exact AE (mA G.mono es) (sA es G _ h)
 | .ix a b,C,X,G,e,h=>by
  refine de e h fun x y _ h => ?_;simp only [D0] at h;exact BW (CM (by have:=G.units;lia)) pj (mE G.mono a) (mE G.mono b) (sE a G _ h.1.2) (sE b G _ h.2) (wQ h.1.1)
 | .sl a lo hi,C,X,G,e,h=>by
  refine jSl e h fun x l u s p pos h => ?_;refine jon s h fun  h => ?_;simp only [D0] at h;exact C3 (mE G.mono a) (mO G.mono lo) (mO G.mono hi) (sE a G _ h.1.1) (sO lo G _ h.1.2) (sO hi G _ h.2)
 | .call f es,C,X,G,e,h=>by
  refine cQ e h fun x xs p pos h => ?_;simp only [D0,decide_eq_true_eq,GI] at h;have hA:=sA es G _ h.2;have j:=dR h.2
  cases xs with
  | nil =>
    cases es with
    | nil=>exact wR G h.1.1.1 (G.gl h.1.1.2) h.1.2
    | cons _ _=>simp [okEs] at h
  | cons y ys =>
    simp only [J7,D0] at j;exact zy G (mA G.mono es) h.1.1.1 (G.gl h.1.1.2) h.1.2 hA (av j.1) (fo j.2)
 | .fnv z f,C,X,G,e,h=>by
  refine db e h fun x _ h => ?_;simp only [D0,GI,decide_eq_true_eq] at h;obtain ⟨⟨⟨rfl,hf⟩,L⟩,hd⟩:=h;exact Bb G hf (G.gl L) hd
 | .callv i cs es,C,X,G,e,h=>by
  refine cQ e h fun x xs p pos h => ?_;simp only [D0,decide_eq_true_eq,GI,IY] at h;obtain ⟨⟨⟨⟨⟨⟨h1,h2⟩,h3⟩,h4⟩,h5⟩,h6⟩,h7⟩:=h;have hA:=sA es G _ h7;have j:=dR h7
  cases xs with
  | nil=>cases h6
  | cons y ys =>
    simp only [J7,D0] at j;exact wU G (mA G.mono es) (by rw [G.N];exact h1) (G.vis h2) h3 h4 h5 hA (av j.1) (fo j.2)
 | .blt f es,C,X,G,e,h=>by
  refine cQ e h fun x xs p pos h => ?_;simp only [D0,decide_eq_true_eq,GI] at h;have hA:=sA es G _ h.2;have j:=dR h.2;obtain ⟨⟨⟨rfl,L⟩,q⟩,_⟩:=h
  cases xs with
  | nil=>simp at q
  | cons y ys =>
    simp only [J7,D0] at j;exact Ba G (mA G.mono es) (G.gl L) hA (av j.1) (fo j.2)
 | .dnew t,C,X,G,e,h=>by
  refine C8 e h fun ks vs _ h => ?_;refine dZ ks h fun  h => ?_;refine dZ vs h fun  h => ?_;exact zc
 | .sortI a,C,X,G,e,h=>by
  refine cQ e h fun x xs p pos h => ?_;refine cT xs h fun w h => ?_;refine jx w h fun y n ys ap cp h => ?_;refine dZ ys h fun  h => ?_;simp only [D0,decide_eq_true_eq] at h;obtain ⟨⟨⟨⟨⟨rfl,L⟩,rfl⟩,J⟩,Y⟩,O⟩:=h;exact ww (by have:=G.units;lia) (mE G.mono a) G.calm (sE a G _ O) (G.gl L) (G.mgB _ (by decide)) (dC J) Y
 | .dget o k' x,C,X,G,e,h=>by
  refine jx e h fun y n xs ap cp h => ?_;refine jZ xs h fun e1 e2 h => ?_;simp only [D0,decide_eq_true_eq] at h;obtain ⟨⟨⟨⟨⟨⟨⟨rfl,J⟩,Y⟩,D4⟩,D5⟩,ho⟩,hk⟩,hx⟩:=h;have st:FO [e1,e2] X.env=[(false,eval e1 X.env),(false,eval e2 X.env)]:=by
   rw [av D4,av D5];rfl
  refine zn (by have:=G.units;lia) (mE G.mono o) (mE G.mono k') (mE G.mono x) (sE o G _ ho) (sE k' G _ hk) (sE x G _ hx) ⟨dC J, ?_,Y, ?_⟩
  ·rw [st];rfl
  ·rw [st];rfl
 | .isin2 a T U,C,X,G,e,h=>by
  refine cQ e h fun x xs p pos h => ?_;refine jZ xs h fun y w h => ?_;refine dB w h fun ws k1 p1 h => ?_;refine jZ ws h fun z' v' h => ?_;refine db z' h fun z p2 h => ?_;refine db v' h fun v p3 h => ?_;simp only [D0,decide_eq_true_eq] at h;obtain ⟨⟨⟨⟨⟨⟨⟨⟨⟨rfl,L⟩,Z⟩,D6⟩,hz⟩,hy⟩,hT⟩,hU⟩,hs⟩,O⟩:=h;obtain ⟨n1,n2,n3,n4⟩:=iA G T hT;obtain ⟨m1,m2,m3,m4⟩:=iA G U hU;subst hz hy;exact wy hT hU (mE G.mono a) (sE a G _ O) (G.gl L) (G.mgB _ (by decide)) (G.gl Z) n1 n2 n3 n4 (G.gl D6) m1 m2 m3 m4 (av hs)
 | .isin a T,C,X,G,e,h=>by
  refine cQ e h fun x xs p pos h => ?_;refine jZ xs h fun y w h => ?_;refine db w h fun z p2 h => ?_;simp only [D0,decide_eq_true_eq] at h;obtain ⟨⟨⟨⟨⟨⟨rfl,L⟩,Z⟩,hz⟩,hT⟩,hs⟩,O⟩:=h;obtain ⟨n1,n2,n3,n4⟩:=iA G T hT;subst hz;exact yW hT (mE G.mono a) (sE a G _ O) (G.gl L) (G.mgB _ (by decide)) (G.gl Z) n1 n2 n3 n4 (av hs) rfl
 | .meth m o a,C,X,G,e,h=>by
  refine jx e h fun x n xs ap cp h => ?_;refine cT xs h fun y h => ?_;simp only [D0,decide_eq_true_eq] at h;obtain ⟨⟨⟨⟨⟨hn,J⟩,Y⟩,hs⟩,ho⟩,O⟩:=h;subst hn;have pa:PA X [y] (lA X.K (bv (wE Φ a) cb)):=di (mE G.mono a) aP (sE a G _ O) fC (av hs);have few:((J0 cp (FO [y] X.env)).all (fun x => !x.1)&&(backToKw cp (NU [] X.env)).all (fun x=>x.1.isSome)&&decide (([y]:List Expr).length+([]:List Lp).length+(if ([]:List Lp).isEmpty then 0 else 1) < 30))=true:=by
   rw [av hs];rfl
  cases m with
  | append=>exact PE.imp (BP Lb PySem.F.slot_list_append PySem.F.type_list_append kB (sE o G _ ho) pa (dC J) few Y (av hs) rfl) (yX hJ (mE G.mono o) (b9 (mE G.mono a) aP) w6)
 | .meth0 m o,C,X,G,e,h=>by
  refine jx e h fun x n xs ap cp h => ?_;refine dZ xs h fun  h => ?_;simp only [D0,decide_eq_true_eq] at h;obtain ⟨⟨⟨hn,J⟩,Y⟩,ho⟩:=h;subst hn
  cases m with
  | clear=>exact PE.imp (Aq Lb PySem.F.slot_list_clear PySem.F.type_list_clear vy (sE o G _ ho) (dC J) Y) (w5 j9 (mE G.mono o) yY)
 | .comp fr N' c,C,X,G,e,h=>by
  refine uk e h fun elt gens sc pos h => ?_;simp only [D0] at h;have B:aZ sc X.env.scope X.N N' fr:=by rw [G.sc,G.N];exact jz h.1
  have B':aZ sc C.sc C.N N' fr:=jz h.1
  cases c with
  | last src g ifs m =>
    have h2:=h.2;simp only [okC] at h2
    split at h2
    ·rename_i t it fs a;simp only [D0,decide_eq_true_eq] at h2;obtain ⟨⟨⟨⟨rfl,hi⟩,L⟩,ht⟩,he⟩:=h2;refine PE.imp (gZ G.calm G.hx B (fun g' z=>by simp at z) (sI src G _ t hi).1 (fun s H fp=>sG (G.blk B' s H fp) g t L) (tb:=fun p=>lC X.K p (bh (wTl Φ ifs) (cq (wE Φ m)))) (fun s H fp p => ?_) (sI src G _ t hi).2) (dM (mI G.mono src) (aH (br (mE G.mono m)) (mTl G.mono ifs)))
     have G':=G.blk B' s H fp;exact dq (p:=p) G' (br (mE G.mono m)) (mTl G.mono ifs) (PB.imp (jL G'.hx (sE m G' elt he) rfl) (fH (mE G.mono m))) (sTl ifs G' fs ht)
    ·cases h2
  | more src g ifs rest =>
    have h2:=h.2;simp only [okC] at h2
    split at h2
    ·rename_i t it fs a g2 gs;simp only [D0,decide_eq_true_eq] at h2;obtain ⟨⟨⟨⟨rfl,hi⟩,L⟩,ht⟩,he⟩:=h2;have D7:∀ g',(g2::gs)[0]? = some g'->g'.is_async=0:=fun g' z=>by
      have z':g2=g':=by simpa using z
      subst z';exact fZ he
     refine PE.imp (gZ G.calm G.hx B D7 (sI src G _ t hi).1 (fun s H fp=>sG (G.blk B' s H fp) g t L) (tb:=fun p=>lC X.K p (bh (wTl Φ ifs) (wCl Φ rest))) (fun s H fp p => ?_) (sI src G _ t hi).2) (dM (mI G.mono src) (aH (mCl G.mono rest) (mTl G.mono ifs)));have G':=G.blk B' s H fp;exact dq (p:=p) G' (mCl G.mono rest) (mTl G.mono ifs) (sCl rest G' elt (⟨t,it,fs,0⟩::g2::gs) sc pos 0 (.inl rfl) p he) (sTl ifs G' fs ht)
    ·cases h2
theorem sA:∀ (m:MEs) {C:Ctx} {X:Cx} (G:Good C Φ k X) (es:List Expr),okEs m C es=true->PA X es (lA X.K (wA Φ m))
 | .nil,C,X,G,es,h=>by
  simp [okEs] at h;subst h;exact fC
 | .cons m r,C,X,G,[],h=>by simp [okEs] at h
 | .cons m r,C,X,G,e::es,h=>by
  simp only [okEs,D0] at h;exact di (mE G.mono m) (mA G.mono r) (sE m G e h.1.2) (sA r G es h.2) (av h.1.1)
theorem sAnds:∀ (m:MEs) {C:Ctx} {X:Cx} (G:Good C Φ k X) (es:List Expr) (pos:Pos),okEs m C es=true->es≠[]->PE X (.BoolOp .And es pos) (lE X.K (wAnds Φ m))
 | .nil,C,X,G,es,pos,h,j=>by simp [okEs] at h;exact absurd h j
 | .cons m r,C,X,G,[],pos,h,j=>absurd rfl j
 | .cons m .nil,C,X,G,e::es,pos,h,_=>by
  simp only [okEs,D0] at h;obtain ⟨h1,h2⟩:=h;simp at h2;subst h2;exact t9 (sE m G e h1.2)
 | .cons m (.cons m2 r),C,X,G,e::es,pos,h,_=>by
  simp only [okEs,D0] at h;obtain ⟨h1,h2⟩:=h
  cases es with
  | nil=>simp at h2
  | cons f fs =>
    exact AK (mE G.mono m) (mAnds G.mono _) (sE m G e h1.2) (sAnds (.cons m2 r) G (f::fs) pos (by simpa only [okEs,D0] using h2) (by simp))
theorem sOrs:∀ (m:MEs) {C:Ctx} {X:Cx} (G:Good C Φ k X) (es:List Expr) (pos:Pos),okEs m C es=true->es≠[]->PE X (.BoolOp .Or es pos) (lE X.K (wOrs Φ m))
 | .nil,C,X,G,es,pos,h,j=>by simp [okEs] at h;exact absurd h j
 | .cons m r,C,X,G,[],pos,h,j=>absurd rfl j
 | .cons m .nil,C,X,G,e::es,pos,h,_=>by
  simp only [okEs,D0] at h;obtain ⟨h1,h2⟩:=h;simp at h2;subst h2;exact t9 (sE m G e h1.2)
 | .cons m (.cons m2 r),C,X,G,e::es,pos,h,_=>by
  simp only [okEs,D0] at h;obtain ⟨h1,h2⟩:=h
  cases es with
  | nil=>simp at h2
  | cons f fs =>
    exact C1 (mE G.mono m) (mOrs G.mono _) (sE m G e h1.2) (sOrs (.cons m2 r) G (f::fs) pos (by simpa only [okEs,D0] using h2) (by simp))
theorem sO:∀ (m:MO) {C:Ctx} {X:Cx} (G:Good C Φ k X) (e:Option Expr),okO m C e=true->PO X e (lO X.K (wO Φ m))
 | .none,C,X,G,e,h=>by
  simp [okO] at h;subst h;exact yT
 | .some m,C,X,G,none,h=>by simp [okO] at h
 | .some m,C,X,G,some e,h=>by
  simp only [okO] at h;exact yU (mE G.mono m) (sE m G e h)
theorem sT:∀ (m:MT) {C:Ctx} {X:Cx} (G:Good C Φ k X) (e:Expr),okT m C e=true->PT X e (lT X.K (wT Φ m))
 | .tru m,C,X,G,e,h=>by
  simp only [okT,D0] at h;exact AG (mE G.mono m) (sE m G e h.2) (rF h.1)
 | .cmp op a b,C,X,G,e,h=>by
  refine nN e h fun l os rs pos h => ?_;refine cT os h fun o h => ?_;refine cT rs h fun r h => ?_;simp only [D0,decide_eq_true_eq] at h;obtain ⟨⟨⟨ho,q⟩,B⟩,hm⟩:=h;rw [GI] at hm;subst ho;exact AC (pT G op) (fh op) (mE G.mono a) (mE G.mono b) (sE a G _ q) (sE b G _ B) hm
 | .and ts,C,X,G,e,h=>by
  refine gN e h fun o xs _ h => ?_;replace h:=bF h;obtain ⟨ho,h⟩:=h;obtain ⟨ho,j⟩:=bF ho
  cases of_decide_eq_true ho
  exact (sAndTs ts G _ _ h (by intro z;rw [z] at j;cases j)).pt
 | .or ts,C,X,G,e,h=>by
  refine gN e h fun o xs _ h => ?_;replace h:=bF h;obtain ⟨ho,h⟩:=h;obtain ⟨ho,j⟩:=bF ho
  cases of_decide_eq_true ho
  exact (sOrTs ts G _ _ h (by intro z;rw [z] at j;cases j)).pt
 | .not t,C,X,G,e,h=>by
  refine iw e h fun o x _ h => ?_;replace h:=bF h;obtain ⟨ho,h⟩:=h
  cases of_decide_eq_true ho
  exact AH (mT G.mono t) (sT t G _ h)
theorem sAndTs:∀ (m:MTs) {C:Ctx} {X:Cx} (G:Good C Φ k X) (es:List Expr) (pos:Pos),okTs m C es=true->es≠[]->PW X (.BoolOp .And es pos) (lT X.K (wAndTs Φ m))
 | .nil,C,X,G,es,pos,h,j=>by simp [okTs] at h;exact absurd h j
 | .cons m r,C,X,G,[],pos,h,j=>absurd rfl j
 | .cons m .nil,C,X,G,e::es,pos,h,_=>by
  simp only [okTs,D0] at h;obtain ⟨h1,h2⟩:=h;simp at h2;subst h2;exact yR (sT m G e h1)
 | .cons m (.cons m2 r),C,X,G,e::es,pos,h,_=>by
  simp only [okTs,D0] at h;obtain ⟨h1,h2⟩:=h
  cases es with
  | nil=>simp at h2
  | cons f fs =>
    exact AJ (mT G.mono m) (mAndTs G.mono _) (sT m G e h1) (sAndTs (.cons m2 r) G (f::fs) pos (by simpa only [okTs,D0] using h2) (by simp))
theorem sOrTs:∀ (m:MTs) {C:Ctx} {X:Cx} (G:Good C Φ k X) (es:List Expr) (pos:Pos),okTs m C es=true->es≠[]->PW X (.BoolOp .Or es pos) (lT X.K (wOrTs Φ m))
 | .nil,C,X,G,es,pos,h,j=>by simp [okTs] at h;exact absurd h j
 | .cons m r,C,X,G,[],pos,h,j=>absurd rfl j
 | .cons m .nil,C,X,G,e::es,pos,h,_=>by
  simp only [okTs,D0] at h;obtain ⟨h1,h2⟩:=h;simp at h2;subst h2;exact AI (sT m G e h1)
 | .cons m (.cons m2 r),C,X,G,e::es,pos,h,_=>by
  simp only [okTs,D0] at h;obtain ⟨h1,h2⟩:=h
  cases es with
  | nil=>simp at h2
  | cons f fs =>
    exact BZ (mT G.mono m) (mOrTs G.mono _) (sT m G e h1) (sOrTs (.cons m2 r) G (f::fs) pos (by simpa only [okTs,D0] using h2) (by simp))
theorem sTl:∀ (m:MTs) {C:Ctx} {X:Cx} (G:Good C Φ k X) (es:List Expr),okTs m C es=true->G5 (fun c t=>PT X c t) es ((wTl Φ m).map (lT X.K))
 | .nil,C,X,G,es,h=>by
  simp [okTs] at h;subst h;exact .nil
 | .cons m r,C,X,G,[],h=>by simp [okTs] at h
 | .cons m r,C,X,G,e::es,h=>by
  simp only [okTs,D0] at h;exact .cons (sT m G e h.1) (sTl r G es h.2)
theorem sI:∀ (m:MI) {C:Ctx} {X:Cx} (G:Good C Φ k X) (e tg:Expr),okI m C tg e=true->PI X tg e (lI X.K (wI Φ m)) /\ ∀ x,Hw e X.env x=pure x
 | .seq m,C,X,G,e,tg,h=>by
  simp only [okI,D0] at h;exact ⟨AQ (mE G.mono m) (sE m G e h.2),nP h.1⟩
 | .keys m,C,X,G,e,tg,h=>by
  simp only [okI,D0] at h;exact ⟨zu (mE G.mono m) (sE m G e h.2),nP h.1⟩
 | .rng1 a,C,X,G,e,tg,h=>by
  refine cQ e h fun x xs p pos h => ?_;refine cT xs h fun y h => ?_;simp only [D0,decide_eq_true_eq] at h;obtain ⟨⟨⟨rfl,q⟩,hs⟩,j⟩:=h;exact ⟨z8 (b9 (mE G.mono a) aP) (G.gl q) (G.mgB _ (by decide)) (di (mE G.mono a) aP (sE a G _ j) fC (av hs)) (av hs),fun x=>rfl⟩
 | .enum a,C,X,G,e,tg,h=>by
  refine cQ e h fun x xs p pos h => ?_;refine cT xs h fun y h => ?_;refine dB tg h fun ts kt pt h => ?_;simp only [D0,decide_eq_true_eq] at h;obtain ⟨⟨⟨rfl,q⟩,hs⟩,j⟩:=h;exact ⟨z9 (mE G.mono a) (G.gl q) (G.mgB _ (by decide)) (di (mE G.mono a) aP (sE a G _ j) fC (av hs)) (av hs),fun x=>rfl⟩
 | .items a,C,X,G,e,tg,h=>by
  refine jx e h fun x n xs ap cp h => ?_;refine dZ xs h fun  h => ?_;refine dB tg h fun ts kt pt h => ?_;simp only [D0,decide_eq_true_eq] at h;obtain ⟨⟨⟨rfl,z⟩,B⟩,j⟩:=h;exact ⟨wG (mE G.mono a) (sE a G _ j) (dC z) B,fun x=>rfl⟩
theorem sCl:∀ (m:MC) {C:Ctx} {X:Cx} (G:Good C Φ k X) (elt:Expr) (gens:List Gk) (sc:Scope) (pos:Pos) (d:Nat) (_:d=0∨d=d) (p:Addr),okC m C C (gens.drop (d+1)) elt=true ->
 PB X (aY elt gens sc pos d (.ref p) X.env) (lC X.K p (wCl Φ m))
 | .last src g ifs m,C,X,G,elt,gens,sc,pos,d,_,p,h=>by
  simp only [okC] at h
  split at h
  ·rename_i t it fs a hd;simp only [D0,decide_eq_true_eq] at h;obtain ⟨⟨⟨⟨rfl,hi⟩,j⟩,q⟩,he⟩:=h;have e1:gens[d+1]? = some ⟨t,it,fs,0⟩:=by
    have z:(gens.drop (d+1))[0]? = some ⟨t,it,fs,0⟩:=by rw [hd];rfl
    rw [Jj] at z;simpa using z
   have e2:gens[d+1+1]? = none:=by
    have z:(gens.drop (d+1))[1]? = none:=by rw [hd];rfl
    rw [Jj] at z;simpa using z
   refine PB.imp (kF G.hx G.calm e1 (fun g' z=>by rw [e2] at z;cases z) (sI src G _ t hi).1 (sG G g t j) (dq (p:=p) G (br (mE G.mono m)) (mTl G.mono ifs) (PB.imp (jL G.hx (sE m G elt he) e2) (fH (mE G.mono m))) (sTl ifs G fs q)) (sI src G _ t hi).2) (i3 (mI G.mono src) (aH (br (mE G.mono m)) (mTl G.mono ifs)))
  ·cases h
 | .more src g ifs rest,C,X,G,elt,gens,sc,pos,d,_,p,h=>by
  simp only [okC] at h
  split at h
  ·rename_i t it fs a g2 gs hd;simp only [D0,decide_eq_true_eq] at h;obtain ⟨⟨⟨⟨rfl,hi⟩,j⟩,q⟩,he⟩:=h;have e1:gens[d+1]? = some ⟨t,it,fs,0⟩:=by
    have z:(gens.drop (d+1))[0]? = some ⟨t,it,fs,0⟩:=by rw [hd];rfl
    rw [Jj] at z;simpa using z
   have e2:gens[d+1+1]? = some g2:=by
    have z:(gens.drop (d+1))[1]? = some g2:=by rw [hd];rfl
    rw [Jj] at z;simpa using z
   have F:gens.drop (d+1+1)=g2::gs:=by
    have z:(gens.drop (d+1)).drop 1=g2::gs:=by rw [hd];rfl
    rw [Kt] at z;simpa using z
   have B:∀ g',gens[d+1+1]? = some g'->g'.is_async=0:=fun g' z=>by
    rw [e2] at z;cases z;exact fZ he
   refine PB.imp (kF G.hx G.calm e1 B (sI src G _ t hi).1 (sG G g t j) (dq (p:=p) G (mCl G.mono rest) (mTl G.mono ifs) (sCl rest G elt gens sc pos (d+1) (.inr rfl) p (by rw [F];exact he)) (sTl ifs G fs q)) (sI src G _ t hi).2) (i3 (mI G.mono src) (aH (mCl G.mono rest) (mTl G.mono ifs)))
  ·cases h
end
end
end
section
section
variable {Φ:Phi} {k:Nat} {C:Ctx} {X:Cx}
theorem wV {sc:Scope} {ts vs:List Expr} {kk j:Nat} {pp p2:Pos} {env:Env} (hs:env.scope=sc) (q:sc.kind = .function) (h:rB sc ts vs=true):Ii [.Tuple ts kk pp] (.Tuple vs j p2) env=pure none:=by
 have z:env.blockKind = .function:=by unfold KW;rw [hs,q];rfl
 have h':rB sc ts vs=true:=h;unfold Ii;dsimp only;rw [z]
 by_cases c1:(!(ts.length==2 || ts.length==3) || vs.length != ts.length)=true
 ·simp only [c1,Bool.true_or,if_true]
 ·simp only [JO] at c1;rw [c1];simp only [KR,bne_self_eq_false,Hm,if_false]
  split
  ·rfl
  ·
    generalize B:List.filterMap _ ts=L;obtain rfl:L=aX sc ts:=by
     rw [<- B];unfold aX;congr 1
     funext x
     cases x <;> first | rfl | (unfold N6;rw [hs])
    unfold rB at h';rw [c1] at h';simp only [KR,LB] at h'
    by_cases c3:((aX sc ts).length != ts.length || (aX sc ts).eraseDups.length != (aX sc ts).length)=true
    ·rw [if_pos c3]
    ·rw [if_neg c3];have F:vs.all (MM 8)=true:=by
      rcases h' with h' | h'
      ·exact absurd (LB _ _ |>.mpr h') c3
      ·exact h'
     rw [if_pos F]
theorem zz {sc:Scope} {ts vs:List Expr} {ns:List Str} {kk j:Nat} {pp p2:Pos} {env:Env} (hs:env.scope=sc) (q:sc.kind = .function) (h:rD sc ts vs ns=true):Ii [.Tuple ts kk pp] (.Tuple vs j p2) env=pure (some ns):=by
 have B:env.blockKind = .function:=by unfold KW;rw [hs,q];rfl
 simp only [rD,D0,GI,decide_eq_true_eq] at h;obtain ⟨⟨⟨⟨⟨c1,c2⟩,F⟩,G⟩,J⟩,O⟩:=h;unfold Ii;dsimp only;rw [B,c1];simp only [KR,bne_self_eq_false,Hm,if_false]
 split
 ·next z=>exact absurd z (by rw [JO];exact c2)
 ·generalize U:List.filterMap _ ts=L;obtain rfl:L=aX sc ts:=by
   rw [<- U];unfold aX;congr 1
   funext x
   cases x <;> first | rfl | (unfold N6;rw [hs])
  rw [G,J,O,F];rfl
theorem pV {C:Ctx} {i:Nat} {x:Str} (h:rC C i x=true):C.N[i]? = some x/\C.sc.names.lookup x=some .local:=by
 simpa [rC] using h
theorem dr {tg e:Expr} {l:Nat} {env:Env} {b:Bool} (h:Jm e (some tg) l env=pure b):J1 [tg] e l env=pure b:=by
 unfold J1;exact h
theorem zA {sc:Scope} {tg e:Expr} {env:Env} (hs:env.scope=sc) (j:sc.kind = .function) (h:jy sc tg e=true):Ii [tg] e env=pure none:=by
 cases tg with
 | Tuple ts kk pp =>
   cases e with
   | Tuple vs q p2=>exact wV hs j h
   | _=>rfl
 | _=>first | rfl | (simp [jy] at h;done)
theorem nR {elt:Expr} {gens:List Gk} {s sc:Scope} {pos px:Pos} {x:Str} {l:Nat} {env:Env} (hs:env.scope=sc) (j:sc.kind = .function) :
 Jm (.ListComp elt gens s pos) (some (.Name x px)) l env=pure (rE sc x px (.ListComp elt gens s pos)):=by
 have q:env.blockKind = .function:=by unfold KW;rw [hs,j];rfl
 unfold Jm;dsimp only;rw [q];unfold rE N6;rw [hs];rfl
theorem uq {ek ev:Expr} {gens:List Gk} {s sc:Scope} {pos px:Pos} {x:Str} {l:Nat} {env:Env} (hs:env.scope=sc) (j:sc.kind = .function) :
 Jm (.DictComp ek ev gens s pos) (some (.Name x px)) l env=pure (sc.names.lookup x==some .local&&px.line==(Expr.DictComp ek ev gens s pos).pos.line && !(s.names.any fun (n,k)=>n==x&&(k == .local || k == .cell))):=by
 have q:env.blockKind = .function:=by unfold KW;rw [hs,j];rfl
 unfold Jm;dsimp only;rw [q];unfold N6;rw [hs];rfl
mutual
theorem sS:∀ (m:MS) (G:Good C Φ k X) (q:C.sc.kind = .function) (s:Stmt),okS m C s=true->PS X s (lS X.K (wS Φ m))
 | .asg g m,G,q,s,h=>by
  refine iz s h fun ts e pos h1 => ?_;clear h;refine cT ts h1 fun tg h => ?_;clear h1;simp only [D0] at h;obtain ⟨⟨⟨F,he⟩,J⟩,Y⟩:=h;have hw:=zA G.sc q J;have pg:=sG G g tg F;have plain:J1 [tg] e pos.line X.env=pure false->PS X (.Assign [tg] e pos) (lS X.K (ie (wE Φ m) (bG g))):=fun hs =>
   PS.imp (sg (sE m G e he) pg hs hw (by cases tg <;> first | rfl | (simp [jy] at J;done))) (wk (mE G.mono m))
  cases tg with
  | Tuple ts a b=>exact plain (dr (ka Y))
  | Name x px =>
    cases e with
    | ListComp elt gens sc cpos =>
      by_cases sw:rE C.sc x px (.ListComp elt gens sc cpos)=true
      ·cases g with
       | tup gs=>exact absurd F Fp
       | name i =>
         cases m with
         | comp fr N' c =>
           replace he:=bF he;have B:aZ sc X.env.scope X.N N' fr:=by rw [G.sc,G.N];exact jz he.1
           have B':aZ sc C.sc C.N N' fr:=jz he.1;have Z:PG X (.Name x px) (iI i):=by
            have F:=bF F;have F:=JN (bF F.1) F.2;exact p7 G.nd (by rw [G.N];exact of_decide_eq_true F.1.1) (G.loc F.1.2) (G.own F.2)
           have D4:∀ l,Jm (.ListComp elt gens sc cpos) (some (.Name x px)) l X.env=pure true:=fun l=>by rw [nR G.sc q,sw]
           have mc:=mCmp G.mono fr c
           cases c with
           | last src g ifs m =>
             have h2:=he.2;simp only [okC] at h2
             split at h2
             ·rename_i t it fs a;simp only [D0,decide_eq_true_eq] at h2;obtain ⟨⟨⟨⟨rfl,hi⟩,O⟩,ht⟩,L⟩:=h2;refine PS.imp (iX (i:=i) (g:=lG X.K (bG g)) (wi:=lI X.K (wI Φ src)) G.calm G.hx B (fun g' z=>by simp at z) (sI src G _ t hi).1 (fun s H fp=>sG (G.blk B' s H fp) g t O) (tb:=fun p=>lC X.K p (bh (wTl Φ ifs) (cq (wE Φ m)))) (fun s H fp p => ?_) (sI src G _ t hi).2 Z (D4 _)) fun D σ H h => ?_
              ·have G':=G.blk B' s H fp;exact dq (p:=p) G' (br (mE G.mono m)) (mTl G.mono ifs) (PB.imp (jL G'.hx (sE m G' elt L) rfl) (fH (mE G.mono m))) (sTl ifs G' fs ht)
              ·exact dM (mI G.mono src) (aH (br (mE G.mono m)) (mTl G.mono ifs)) σ H _ (kP mc D σ H h)
             ·cases h2
           | more src g ifs rest =>
             have h2:=he.2;simp only [okC] at h2
             split at h2
             ·rename_i t it fs a g2 gs;simp only [D0,decide_eq_true_eq] at h2;obtain ⟨⟨⟨⟨rfl,hi⟩,O⟩,ht⟩,L⟩:=h2;have D5:∀ g',(g2::gs)[0]? = some g'->g'.is_async=0:=fun g' z=>by
               have z':g2=g':=by simpa using z
               subst z';exact fZ L
              refine PS.imp (iX (i:=i) (g:=lG X.K (bG g)) (wi:=lI X.K (wI Φ src)) G.calm G.hx B D5 (sI src G _ t hi).1 (fun s H fp=>sG (G.blk B' s H fp) g t O) (tb:=fun p=>lC X.K p (bh (wTl Φ ifs) (wCl Φ rest))) (fun s H fp p => ?_) (sI src G _ t hi).2 Z (D4 _)) fun D σ H h => ?_
              ·have G':=G.blk B' s H fp;exact dq (p:=p) G' (mCl G.mono rest) (mTl G.mono ifs) (sCl rest G' elt (⟨t,it,fs,0⟩::g2::gs) sc cpos 0 (.inl rfl) p L) (sTl ifs G' fs ht)
              ·exact dM (mI G.mono src) (aH (mCl G.mono rest) (mTl G.mono ifs)) σ H _ (kP mc D σ H h)
             ·cases h2
         | _=>exact absurd he Fp
      ·refine plain ?_;simp only [JO] at sw;refine dr ?_;rw [nR G.sc q,sw]
    | SetComp _ _ _ _=>cases m <;> exact absurd he Fp
    | DictComp _ _ _ _ _ =>
      refine plain (dr ?_);rw [uq G.sc q];unfold B8 at Y;simp only [GI] at Y;rw [Y]
    | _=>exact plain (dr rfl)
  | _=>simp [jy] at J
 | .par i j a b,G,q,s,h=>by
  refine iz s h fun ts e pos h => ?_;refine cT ts h fun tg h => ?_;refine dB tg h fun ts k p h => ?_;refine dB e h fun es k' p' h => ?_;refine jZ ts h fun t u h => ?_;refine jZ es h fun e f h => ?_;refine db t h fun x px h => ?_;refine db u h fun y py h => ?_;simp only [D0,decide_eq_true_eq] at h;obtain ⟨⟨⟨⟨⟨⟨⟨hi,hj⟩,D6⟩,n1⟩,n2⟩,J⟩,hb⟩,hw⟩:=h;obtain ⟨i1,i2⟩:=pV hi;obtain ⟨j1,j2⟩:=pV hj;exact PS.imp (Ad G.calm G.nd (by rw [G.N];exact i1) (by rw [G.N];exact j1) D6 (by rw [G.sc];exact i2) (by rw [G.sc];exact j2) (di (mE G.mono a) (b9 (mE G.mono b) aP) (sE a G _ J) (di (mE G.mono b) aP (sE b G _ hb) fC (av n2)) (av n1)) (zz G.sc q hw) (dr rfl)) (tM (b9 (mE G.mono a) (b9 (mE G.mono b) aP)))
 | .put o i m,G,q,s,h=>by
  refine iz s h fun ts e pos h => ?_;refine cT ts h fun tg h => ?_;refine de tg h fun x y tp h => ?_;simp only [D0] at h;obtain ⟨⟨⟨⟨U,Y⟩,ho⟩,hi⟩,he⟩:=h;exact AT (by have:=G.units;lia) (mE G.mono m) (mE G.mono o) (mE G.mono i) (sE m G e he) (sE o G x ho) (sE i G y hi) (dr (ka Y)) rfl (fun v=>by cases y <;> first | rfl | (simp [cF] at U;done))
 | .augI o i op m,G,q,s,h=>by
  refine oV s h fun t o' e pos h => ?_;refine de t h fun x y tp h => ?_;simp only [D0,decide_eq_true_eq] at h;obtain ⟨⟨⟨⟨⟨rfl,D7⟩,U⟩,ho⟩,hi⟩,he⟩:=h;have hu:X.A.units+1 < HQ:=by have:=G.units;lia
  have J:∀ ov iv new,augStore y ov iv new=(do holding [new,ov,iv] (Mm ov iv new);release [new,ov,iv] [];pure .next):=fun ov iv new=>by cases y <;> first | rfl | (simp [cF] at U;done)
  cases op with
  | add=>exact jX hu (mE G.mono o) (mE G.mono i) (mE G.mono m) kR (sE o G x ho) (sE i G y hi) (sE m G e he) tI J
  | sub=>exact jX hu (mE G.mono o) (mE G.mono i) (mE G.mono m) kS (sE o G x ho) (sE i G y hi) (sE m G e he) tJ J
  | mul=>exact jX hu (mE G.mono o) (mE G.mono i) (mE G.mono m) kT (sE o G x ho) (sE i G y hi) (sE m G e he) tL J
  | _=>simp at D7
 | .drop m,G,q,s,h=>by
  refine B4 s h fun e _ h => ?_;simp only [D0] at h;exact PS.imp (yj (sE m G _ h.2) (ka h.1)) (tH (mE G.mono m))
 | .ret m,G,q,s,h=>by
  refine wP s h fun o _ h => ?_;refine jos o h fun e h => ?_;rw [wS];exact PS.imp (A8 (sE m G _ h)) (wj (mE G.mono m))
 | .ite c a b,G,q,s,h=>by
  refine CQ s h fun t x y _ h => ?_;simp only [D0] at h;exact PS.imp (BC (sT c G _ h.1.1) (sSs a G q _ h.1.2) (sSs b G q _ h.2)) (za (mT G.mono c))
 | .for g src b,G,q,s,h=>by
  refine C9 s h fun tg it body els _ h => ?_;refine dZ els h fun  h => ?_;simp only [D0] at h;obtain ⟨⟨⟨hs,F⟩,hi⟩,hb⟩:=h;exact PS.imp (Ag (fun e s z=>(G.hx e s z).elim) G.calm (sI src G _ _ hi).1 (sG G g _ F) (sSs b G q _ hb) (nP hs)) (wl (mI G.mono src) (mSs G.mono b))
 | .while c b,G,q,s,h=>by
  refine zw s h fun t body els _ h => ?_;refine dZ els h fun  h => ?_;simp only [D0] at h;exact PS.imp (vd (fun e s z=>(G.hx e s z).elim) (sT c G _ h.1) (sSs b G q _ h.2)) (qR (mT G.mono c) (mSs G.mono b))
 | .frz i m,G,q,s,h=>by
  simp only [okS] at h;exact AY (sS m G q s h)
 | .pass,G,q,s,h=>by
  refine B6 s h fun _ h => ?_;exact PS.imp yi kN
 | .brk,G,q,s,h=>by
  refine zx s h fun _ h => ?_;exact PS.imp va qQ
 | .cnt,G,q,s,h=>by
  refine rA s h fun _ h => ?_;exact PS.imp oI tG
theorem sSs:∀ (m:MSs) (G:Good C Φ k X) (j:C.sc.kind = .function) (s:List Stmt),okSs m C s=true->PSs X s (lS X.K (wSs Φ m))
 | .nil,G,j,s,h=>by
  simp [okSs] at h;subst h;exact PSs.imp yh kN
 | .cons m r,G,j,[],h=>by simp [okSs] at h
 | .cons m r,G,j,s::ss,h=>by
  simp only [okSs,D0] at h;exact PSs.imp (v9 (sS m G j s h.1) (sSs r G j ss h.2)) (wg (mS G.mono m) (mSs G.mono r))
end
end
end
section
structure FD where
 name:Str
 st:Stmt
 N:List Str
 np:Nat
 body:MSs
noncomputable def eI (N:List Str) (ds:List D):al:=ds.map some++Fm (N.length - ds.length) none
noncomputable def phi (T:List FD):Nat->Phi
 | 0=>fun _ _ _ _=>False
 | k+1=>fun f ds M Q => ∃ d,T[f]? = some d/\ds.length=d.np/\wSs (phi T k) d.body { nx:=fun _ M'=>Q .non M',rt:=Q } (eI d.N ds) M
theorem iB (T:List FD):∀ k f,aO (phi T k f)
 | 0,f=>fun _ _ _ _ _ q=>q.elim
 | k+1,f=>fun ds M Q Q' h ⟨d,e,l,q⟩=>⟨d,e,l,mSs (iB T k) d.body { nx:=fun _ M'=>Q .non M',rt:=Q } { nx:=fun _ M'=>Q' .non M',rt:=Q' } _ _ ⟨fun _ M' q'=>h _ _ q',h,fun _ _ z=>z,fun _ _ z=>z⟩ q⟩
noncomputable def rG (Γ:List Str) (cs:List (Str×D)) (d:FD):Bool :=
 decide ((aw d.st).kind = .function) && !(aw d.st).isCoroutine && !(aw d.st).isGenerator&&decide (d.N.Nodup)&&decide (d.np<=d.N.length)
  && (d.N.take d.np).all (fun x=>(aw d.st).names.lookup x==some .local || (aw d.st).names.lookup x==some .cell)
  && (aw d.st).names.all (fun y => !(y.2 == .free))&&okSs d.body ⟨Γ,d.N,aw d.st,d.N,cs⟩ (bP d.st)
theorem wW {Γ:List Str} {cs:List (Str×D)} {d:FD} (h:rG Γ cs d=true):gw d.N (d.N.take d.np) (aw d.st)/\(d.N.take d.np).length=d.np/\okSs d.body ⟨Γ,d.N,aw d.st,d.N,cs⟩ (bP d.st)=true:=by
 simp only [rG,D0,decide_eq_true_eq,GI] at h;obtain ⟨⟨⟨⟨⟨⟨⟨h1,h2⟩,q⟩,B⟩,O⟩,F⟩,G⟩,J⟩:=h;have j:(d.N.take d.np).length=d.np:=by rw [FU];lia
 refine ⟨⟨h1,h2,q,B,by rw [j],fun x hx => ?_,fun y L e => ?_⟩,j,J⟩
 ·have z:=IY.mp F x hx;simpa using z
 ·have z:=IY.mp G y L;rw [e] at z;simp at z
section
variable {P:FI} {w:G2} {K:Frag} {mg:Str->Option gV} {base:Heap}
structure xQ (K:Frag) (mg:Str->Option gV) (T:List FD) (cs:List (Str×D)):Prop where
 blt:∀ x∈bltNames,mg x=none
 fns:∀ (i:Nat) (d:FD),T[i]? = some d -> ∃ f fd,Fun K d.name d.name d.st f fd/\mg d.name=some (.ref f)/\Jy K GD d.name=some (some (.ref f))/\Binds K fd (d.N.take d.np) []
 ok:∀ d∈T,rG (T.map (·.name)) cs d=true
 cst:∀ x d,(x,d)∈cs -> ∃ u,mg x=some u/\GV K d u
theorem ut {T:List FD} {cs:List (Str×D)} (O:xQ K mg T cs):∀ (k i:Nat) (d:FD) (f:Addr) (fd:IP),T[i]? = some d->Fun K d.name d.name d.st f fd->du P w K mg base CX0 k f fd (d.N.take d.np) (lSp K (phi T k i))
 | 0,i,d,f,fd,e,F=>⟨fun vs H Q E h=>by obtain ⟨ds,M,_,_,q⟩:=h;exact q.elim,fun A outer s H args us vs Q E _ _ _ _ h=>by obtain ⟨ds,M,_,_,q⟩:=h;exact q.elim⟩
 | k+1,i,d,f,fd,e,F=>by
   obtain ⟨S,Z,hb⟩:=wW (O.ok d (FT e));refine F.ok S (fun vs H Q E h => ?_) fun cdv A outer s H vs Q E hr h => ?_
   ·obtain ⟨ds,M,rm,rs,d',e',l,q⟩:=h;rw [e] at e';cases e';rw [rs.length,l,Z]
   ·obtain ⟨ds,M,rm,rs,d',e',l,q⟩:=h;rw [e] at e';cases e';have G:Good ⟨T.map (·.name),d.N,aw d.st,d.N,cs⟩ (phi T k) k ((i6 CX0 P w K mg base d.N d.name (aw d.st) f cdv A outer s H E).nox):=by
     refine ⟨fun _ _ z=>z,rfl,rfl,rfl,S.nd,fun _ _=>rfl,hr,O.blt,fun j x hx => ?_,iB T k,O.cst⟩;have B:(T.map (·.name))[j]? = some x:=hx;rw [FX] at B
     cases e2:T[j]? with
     | none=>rw [e2] at B;cases B
     | some d2 =>
       rw [e2] at B;cases B;obtain ⟨f2,U,Y,m2,n2,b2⟩:=O.fns j d2 e2;exact ⟨f2,U,_,m2,n2,Y.kp,b2,ut O k j d2 f2 U e2 Y⟩
    refine ⟨_,sSs d.body G S.kind _ hb,eI d.N ds,M, { nx:=fun _ M'=>KE' K M H Q .non M',rt:=KE' K M H Q }, ?_,rm,⟨fun ρ M' σ H' x rs' rm' q' => ?_,fun d M' v H' x rm' rd' q'=>q' v H' x rm' rd',fun _ _ _ _ _ _ _ z=>z,fun _ _ _ _ _ _ _ z=>z⟩,q⟩
    ·refine ⟨by simp [cJ,eI,rs.length],fun j dd J => ?_⟩
     unfold eI at J;unfold cJ
     by_cases L:j < ds.length
     ·rw [Fu (by simpa using L),FX] at J
      cases e3:ds[j]? with
      | none=>rw [e3] at J;cases J
      | some z =>
        rw [e3] at J;cases J;obtain ⟨v,hv,rv⟩:=rs.get e3;refine ⟨v, ?_,rv⟩;rw [Fu (by rw [Fd,rs.length];exact L),FX,hv];rfl
     ·rw [D2 (by simpa using L),KY] at J
      split at J <;> cases J
    ·exact q' .non H' x rm' (OR.mpr rfl)
theorem Bc {T:List FD} {k i:Nat} {H:Hp} {a:Addr} {ns:List Int} (B:qB H) (F:SqL K H a (ns.map V.int)) (h:phi T k i [.con (ns.map D.int)] (fun _=>none) fun d _=>d = .bl true) :
 lSp K (phi T k i) [.ref a] H (fun v _=>v = .bl true) fun _ _ _=>False:=by
 have j:RM K (fun _=>none) H:=fun _ _ z=>by cases z
 refine ⟨[.con (ns.map D.int)],fun _=>none,j,RDs.cons (OP.mpr ⟨a,ns.map V.int,rfl, ?_,P4 ns⟩) RDs.nil,iB T k i [.con (ns.map D.int)] (fun _=>none) (fun d _=>d = .bl true) (KE' K (fun _=>none) H fun v _=>v = .bl true) (fun d M' e=>fun v H' x rm rd => ?_) h⟩
 ·rcases F with (z | ⟨o,z⟩) | z
  ·rcases B a with q | ⟨o,xs,q⟩
   ·rw [z] at q;cases q
   ·rw [z] at q;cases q
  ·exact .inl ⟨o,z⟩
  ·exact .inr z
 ·subst e;exact ON.mp rd
end
theorem bH (us:List gV) (h:us.length=1):∃ a,us=[a]:=List.length_eq_one_iff.mp h
theorem cM (us:List gV) (h:us.length=2):∃ a b,us=[a,b]:=by
 cases us with
 | nil=>cases h
 | cons a us=>obtain ⟨b,rfl⟩:=bH us (Nat.succ.inj h);exact ⟨a,b,rfl⟩
theorem xR (us:List gV) (h:us.length=3):∃ a b c,us=[a,b,c]:=by
 cases us with
 | nil=>cases h
 | cons a us=>obtain ⟨b,c,rfl⟩:=cM us (Nat.succ.inj h);exact ⟨a,b,c,rfl⟩
theorem Ca (us:List gV) (h:us.length=4):∃ a b c d,us=[a,b,c,d]:=by
 cases us with
 | nil=>cases h
 | cons a us=>obtain ⟨b,c,d,rfl⟩:=xR us (Nat.succ.inj h);exact ⟨a,b,c,d,rfl⟩
end
section
theorem Bd {T:List FD} {k f:Nat} {d:FD} {ds:List D} {M:Mem} {Q:QD} (e:T[f]? = some d) (l:ds.length=d.np) {ρ:al} (r:eI d.N ds = ρ)
 (h:wSs (phi T k) d.body { nx:=fun _ M'=>Q .non M',rt:=Q } ρ M):phi T (k+1) f ds M Q:=⟨d,e,l,by rw [r];exact h⟩
theorem ao {T:List FD} {n f:Nat} {d:FD} {ds:List D} {M:Mem} {Q:QD} (j : 1<=n) (e:T[f]? = some d) (l:ds.length=d.np) {ρ:al} (r:eI d.N ds = ρ)
 (h:wSs (phi T (n - 1)) d.body { nx:=fun _ M'=>Q .non M',rt:=Q } ρ M):phi T n f ds M Q:=by
 obtain ⟨k,rfl⟩:∃ k,n=k+1:=⟨n - 1,by lia⟩
 exact Bd e l r h
theorem zB {Φ:Phi} {D:aS} {ρ:al} {M:Mem}:wSs Φ .nil D ρ M=D.nx ρ M:=by rw [wSs];rfl
theorem bO {Φ:Phi} {s:MS} {r:MSs} {D:aS} {ρ:al} {M:Mem}:wSs Φ (.cons s r) D ρ M=wS Φ s { D with nx:=wSs Φ r D } ρ M:=by rw [wSs];rfl
theorem pW {ds:List D} {y:D} {M:Mem} {Q:QD}:wIx (.tup ds) y M Q = ∃ i d,y = .int i/\atI ds i=some d/\Q d M:=rfl
theorem pX {ds:List D} {y:D} {M:Mem} {Q:QD}:wIx (.con ds) y M Q = ∃ i d,y = .int i/\atI ds i=some d/\Q d M:=rfl
theorem aV {a:Addr} {i:Int} {ds:List D} {d:D} {M:Mem} {Q:QD} (h:M a=some (.lst ds)) (e:atI ds i=some d) (q:Q d M):wIx (.ref a) (.int i) M Q := .inl ⟨ds,i,d,h,rfl,e,q⟩
theorem bC {a:Addr} {i:Int} {ds:List D} {v:D} {j:Nat} {M:Mem} {Q:Mem->Prop} (h:M a=some (.lst ds)) (e:ixN ds.length i=some j) (q:Q (ag M a (.lst (ds.set j v)))):eZ (.ref a) (.int i) v M Q:=⟨a,rfl, .inl ⟨ds,i,j,rfl,h,e,q⟩⟩
theorem zC {a:Addr} {ds:List D} {M:Mem} {Q:QD} (h:M a=some (.lst ds)) (q:Q (.int ds.length) M):eS [.ref a] M Q:=⟨_,_,rfl,by simp only [ic,h],q⟩
theorem ae {a:Addr} {ds:List D} {M:Mem} (h:M a=some (.lst ds)):aC M (.ref a)=some ds:=by simp only [aC,h]
theorem Be {i:Int} {M:Mem} {Q:QD}:mC [.int i] M Q=Q (.int i) M:=by
 apply propext;constructor
 ·rintro (⟨j,e,q⟩ | ⟨k,e,q⟩)
  ·cases e;exact q
  ·cases e
 ·exact fun q => .inl ⟨i,rfl,q⟩
theorem Bf {b:Bool} {M:Mem} {Q:QD}:mC [.bl b] M Q=Q (.int (if b then 1 else 0)) M:=by
 apply propext;constructor
 ·rintro (⟨j,e,q⟩ | ⟨k,e,q⟩)
  ·cases e
  ·cases e;exact q
 ·exact fun q => .inr ⟨b,rfl,q⟩
theorem Cb {i j:Int} {M:Mem} {Q:QD}:wEq (.int i) (.int j) M Q=Q (.bl (i==j)) M:=by
 simp [wEq,rb,Ga]
theorem Cc {i j:Int} {M:Mem} {Q:QD}:wNe (.int i) (.int j) M Q=Q (.bl (!(i==j))) M:=by
 simp [wNe,rb,Ga]
theorem uu {i j:Int} {M:Mem} {Q:QD}:fD (.int i) (.int j) M Q=Q (.int (i+j)) M:=rfl
theorem uw {a b:List D} {M:Mem} {Q:QD}:fD (.tup a) (.tup b) M Q=((a≠[]∨True)/\a.length+b.length<=Fj/\Q (.tup (a++b)) M):=rfl
theorem uy {i j:Int} {M:Mem} {Q:QD}:qF (.int i) (.int j) M Q=Q (.int (i - j)) M:=rfl
theorem uz {i j:Int} {M:Mem} {Q:QD}:jR (.int i) (.int j) M Q=(MulOk i j/\Q (.int (i*j)) M):=rfl
theorem uA {ds:List D} {k:Int} {M:Mem} {Q:QD}:jR (.tup ds) (.int k) M Q=(-(2 ^ 63)<=k/\k < 2 ^ 63/\ds.length*k.toNat<=Fj/\Q (.tup (Fm k.toNat ds).flatten) M):=rfl
theorem pY {i j:Int} {M:Mem} {Q:QD}:lB (.int i) (.int j) M Q=(0 < j/\j < 2 ^ 256/\Q (.int (i / j)) M):=rfl
theorem uB {i j:Int} {M:Mem} {Q:QD}:qG (.int i) (.int j) M Q=(0 < j/\Q (.int (i % j)) M):=rfl
theorem uC {i j:Int} {M:Mem} {Q:QD}:qH (.int i) (.int j) M Q=(0<=j/\j<=1000000/\i.natAbs < 2 ^ 64/\Q (.int (i ^ j.toNat)) M):=rfl
theorem xS {i j:Int} {M:Mem} {Q:QD}:wLt (.int i) (.int j) M Q=Q (.bl (decide (i < j))) M:=rfl
theorem xT {i j:Int} {M:Mem} {Q:QD}:wLe (.int i) (.int j) M Q=Q (.bl (decide (i<=j))) M:=rfl
theorem rH {i j:Int} {M:Mem} {Q:QD}:wGt (.int i) (.int j) M Q=Q (.bl (decide (j < i))) M:=rfl
theorem xU {i j:Int} {M:Mem} {Q:QD}:wGe (.int i) (.int j) M Q=Q (.bl (decide (j<=i))) M:=rfl
theorem pZ {i j:Int} {M:Mem} {Q:QD}:lF (.int i) (.int j) M Q=Q (.int (i+j)) M:=rfl
theorem q0 {i j:Int} {M:Mem} {Q:QD}:lH (.int i) (.int j) M Q=Q (.int (i - j)) M:=rfl
theorem q8 {i j:Int} {M:Mem} {Q:QD}:lJ (.int i) (.int j) M Q=(MulOk i j/\Q (.int (i*j)) M):=rfl
theorem uD {i:Int} {M:Mem} {Q:QD}:qI (.int i) M Q=Q (.int (-i)) M:=rfl
theorem Bg {i:Int} {M:Mem} {Q:QD}:mz [.int i] M Q=Q (.int (if i < 0 then -i else i)) M:=by simp [mz]
theorem zD {i j:Int} {M:Mem} {Q:QD}:lD [.int i, .int j] M Q=Q (.int (if j < i then j else i)) M:=by
 apply propext;constructor
 ·rintro ⟨a,b,e,q⟩;cases e;exact q
 ·exact fun q=>⟨i,j,rfl,q⟩
theorem Bh {ds:List D} {M:Mem} {Q:QD}:eS [.con ds] M Q=Q (.int ds.length) M:=by simp [eS,ic]
theorem Bi {ds:List D} {M:Mem} {Q:QD}:eS [.tup ds] M Q=Q (.int ds.length) M:=by simp [eS,ic]
theorem uE {ds:List D} {M:Mem}:aC M (.tup ds)=some ds:=rfl
theorem uF {ds:List D} {M:Mem}:aC M (.con ds)=some ds:=rfl
theorem xV {α:Sort _} {a b : α}:(if true=true then a else b)=a:=rfl
theorem xW {α:Sort _} {a b : α}:(if false=true then a else b)=b:=rfl
theorem uG {x y:Str} {M:Mem} {Q:QD}:fD (.str x) (.str y) M Q=(x.length+y.length<=Fj/\Q (.str (x++y)) M):=rfl
local macro_rules | `(tactic| walk_at "wp") => `(tactic| ((try dsimp only [wS,wE,wA,wAnds,wOrs,wO,wT,wAndTs,wOrTs,wTl,wI,wCl,wCmp,bG,bGs,opB,opC,opF,opM,rj,opI,bU,fW,wC,wOp,wUn,cb,bv,wAr,i7,jP,mn,mJ,j3,j4,mK,j5,mL,j6,wIf,eD,j7,wSl,j8,fU,jg,fQ,jn,wBM,bg,eX,bw,jW,mQ,jb,jt,fV,ja,cq,bh,dl,gB,jO,gC,mU,fI,jd,je,mV,sIf,ie,mW,mX,fJ,mY,jf,uu,uw,uG,uy,uz,uA,pY,uB,uC,xS,xT,rH,xU,pZ,q0,q8,uD,uE,uF,pW,pX,xV,xW,Lc,Iu,N7,N8,JP,Jc,NQ,NR,NS,FJ,Kd,GQ,Ia]);(try simp only [wS,wE,wA,wAnds,wOrs,wO,wT,wAndTs,wOrTs,wTl,wI,wCl,wCmp,bG,bGs,opB,opC,opF,opM,rj,opI,bU,fW,wC,wOp,wUn,cb,bv,wAr,i7,jP,mn,mJ,j3,j4,mK,j5,mL,j6,wIf,eD,j7,wSl,j8,fU,jg,fQ,jn,wBM,bg,eX,bw,jW,mQ,jb,jt,fV,ja,cq,bh,dl,gB,jO,gC,mU,fI,jd,je,mV,sIf,ie,mW,mX,fJ,mY,jf,zB,
 uu,uw,uG,uy,uz,uA,pY,uB,uC,xS,xT,rH,xU,pZ,q0,q8,uD,Be,Bf,Cb,Cc,Bg,zD,Bh,Bi,uE,uF,pW,pX,xV,xW,Hm,if_false,if_true,
 Lc,Iu,N7,N8,Nm,exists_eq_left',exists_eq_left,exists_eq_right,exists_and_left,exists_and_right,D.bl.injEq,D.int.injEq,D.ref.injEq,D.tup.injEq,JP,Jc,NQ,NR,NS,FJ,Kd,decide_eq_true_eq,LC,and_true,true_and,GQ,Ia])))
local macro_rules | `(tactic| walk_at "st") => `(tactic| ((first | rw [bO] | (dsimp only;rw [bO]));walk_at "wp"))
theorem Bj {a:Addr} {t:Bool} {kvs:List (D×D)} {k d:D} {M:Mem} {Q:QD} (h:M a=some (.dct t kvs)) (ok:dL t k=true) (e:dget kvs k=some d) (q:Q d M):wIx (.ref a) k M Q := .inr (.inl ⟨t,kvs,d,h,ok,e,q⟩)
theorem uH {a:Addr} {kvs:List (D×D)} {k d:D} {M:Mem} {Q:QD} (h:M a=some (.fdc kvs)) (ok:bK k=true) (e:dget kvs k=some d) (q:Q d M):wIx (.ref a) k M Q := .inr (.inr ⟨kvs,d,h,ok,e,q⟩)
theorem q9 {i:Nat} {t:TSd} {A:aS} {ρ:al} {M:Mem} {a:Addr} {kvs:List (D×D)} (e : ρ[i]? = some (some (.ref a))) (m:M a=some (.dct true kvs)) (h:t A ρ (ag M a (.fdc kvs))):r9 i t A ρ M:=⟨a,kvs,e, .inl ⟨m,h⟩⟩
theorem fq {a:Addr} {t:Bool} {kvs:List (D×D)} {k v:D} {M:Mem} {Q:Mem->Prop} (h:M a=some (.dct t kvs)) (ok:dL t k=true) (j:kvs.length < Fj) (q:Q (ag M a (.dct t (bJ kvs k v)))):eZ (.ref a) k v M Q:=⟨a,rfl, .inr ⟨t,kvs,h,ok,j,q⟩⟩
theorem uI {M:Mem} {a:Addr} {o o':O}:ag (ag M a o) a o'=ag M a o':=by
 funext b;unfold ag;split <;> rfl
theorem uJ {M:Mem} {a:Addr} {o:O} (h:M a=some o):ag M a o=M:=by
 funext b;unfold ag;split
 ·next e=>rw [e,h]
 ·rfl
def Ge (M M':Mem):Prop := ∀ a o,M a=some o->M' a=some o
theorem Ge.refl {M:Mem}:Ge M M:=fun _ _ h=>h
theorem Ge.trans {M M' M'':Mem} (h:Ge M M') (g:Ge M' M''):Ge M M'':=fun _ _ e=>g _ _ (h _ _ e)
theorem Ge.new {M:Mem} {p:Addr} {o:O} (h:M p=none):Ge M (ag M p o):=fun a o' e=>by
 rw [ak (fun z=>by rw [z,h] at e;cases e)];exact e
def Box (b:Addr) (M:Mem):Prop := ∃ x y z:Int,M b=some (.lst [.int x, .int y, .int z])
structure Bx (b:Addr) (M M':Mem):Prop where
 box:Box b M'
 keep:∀ a o,a≠b->M a=some o->M' a=some o
theorem Bx.refl {b:Addr} {M:Mem} (h:Box b M):Bx b M M:=⟨h,fun _ _ _ e=>e⟩
theorem Bx.trans {b:Addr} {M M' M'':Mem} (h:Bx b M M') (g:Bx b M' M''):Bx b M M'':=⟨g.box,fun a o n e=>g.keep a o n (h.keep a o n e)⟩
theorem Bx.ge {b:Addr} {M M' M'':Mem} (h:Bx b M M') (g:Ge M' M''):Bx b M M'':=⟨by obtain ⟨x,y,z,e⟩:=h.box;exact ⟨x,y,z,g _ _ e⟩,fun a o n e=>g _ _ (h.keep a o n e)⟩
theorem Bx.put {b:Addr} {M:Mem} {x y z:Int}:Bx b M (ag M b (.lst [.int x, .int y, .int z])):=⟨⟨x,y,z,ab⟩,fun a o n e=>by rw [ak n];exact e⟩
theorem Bx.of {b:Addr} {M M':Mem} (h:Box b M) (g:Ge M M'):Bx b M M':=(Bx.refl h).ge g
theorem uK {b:BT} {tb:TCd} {chk:Mem->Prop} {N:NC} (I:List D->al->Mem->List D->Prop) {xs:List D} {ρ:al} {M:Mem} {acc:List D}
 (h0:I [] ρ M acc)
 (q:∀ l ρ M acc,I l ρ M acc->chk M)
 (hs:∀ l x r ρ M acc,xs=l++x::r->I l ρ M acc -> ∃ ρ',b x ρ = some ρ' /\ ∀ N':NC,(∀ ρ2 M2 j,I (l++[x]) ρ2 M2 j->N' ρ2 M2 j)->tb ρ' M acc N')
 (z:∀ ρ M acc,I xs ρ M acc->N ρ M acc):bp b tb chk N xs ρ M acc:=by
 have g:∀ (r l:List D) (ρ:al) (M:Mem) (acc:List D),xs=l++r->I l ρ M acc->bp b tb chk N r ρ M acc:=by
  intro r
  induction r with
  | nil=>intro l ρ M acc e i;rw [GB] at e;subst e;exact ⟨q _ _ _ _ i,z _ _ _ i⟩
  | cons x r ih =>
    intro l ρ M acc e i;obtain ⟨ρ',e1,h⟩:=hs l x r ρ M acc e i;exact ⟨q _ _ _ _ i, ρ',e1,h _ fun ρ2 M2 j B=>ih (l++[x]) ρ2 M2 j (by rw [e];simp) B⟩
 exact g xs [] ρ M acc rfl h0
theorem wX {b:BT} {tb:TSd} {chk:Mem->Prop} {E:aS} (I:List D->al->Mem->Prop) {xs:List D} {ρ:al} {M:Mem}
 (h0:I [] ρ M)
 (j:∀ l ρ M,I l ρ M->chk M)
 (hs:∀ l x r ρ M,xs=l++x::r->I l ρ M -> ∃ ρ',b x ρ = some ρ' /\ ∀ F:al->Mem->Prop,(∀ ρ2 M2,I (l++[x]) ρ2 M2->F ρ2 M2)->tb { E with nx:=F,ct:=F,bk:=E.nx } ρ' M)
 (q:∀ ρ M,I xs ρ M->E.nx ρ M):bn b tb chk E xs ρ M:=by
 have g:∀ (r l:List D) (ρ:al) (M:Mem),xs=l++r->I l ρ M->bn b tb chk E r ρ M:=by
  intro r
  induction r with
  | nil=>intro l ρ M e i;rw [GB] at e;subst e;exact ⟨j _ _ _ i,q _ _ i⟩
  | cons x r ih =>
    intro l ρ M e i;obtain ⟨ρ',e1,h⟩:=hs l x r ρ M e i;exact ⟨j _ _ _ i, ρ',e1,h _ fun ρ2 M2 z=>ih (l++[x]) ρ2 M2 (by rw [e];simp) z⟩
 exact g xs [] ρ M rfl h0
section
variable {T:List FD}
noncomputable def jA (s:Stmt):FD:=⟨"_law_cell_at",s,["_law_script", "_law_k"],2,
 (.cons (.ite (.cmp .lt (.var 1) (.blt .len (.cons (.var 0) .nil))) (.cons (.ret (.ix (.var 0) (.var 1)))
 .nil) .nil)
 (.cons (.ret (.int 0))
 .nil))⟩
theorem nS {α:Type} {xs:List α} {i:Int} (h0 : 0<=i) (h1:i < xs.length):∃ x,atI xs i=some x/\xs[i.toNat]? = some x:=by
 have:i.toNat < xs.length:=by lia
 refine ⟨xs[i.toNat], ?_,Fe this⟩;unfold atI ixN;simp [h0,h1,Fe this]
theorem zE {f:Nat} {s:Stmt} (hf:T[f]? = some (jA s)) {n:Nat} (j : 1<=n) {ns:List Int} {k:Int} {M:Mem} {Q:QD} (h0 : 0<=k) (q:∀ i,Q (.int i) M):phi T n f [.con (ns.map D.int), .int k] M Q:=by
 refine ao j hf rfl (ρ := [some _,some _]) rfl ?_;unfold jA;walk_at "st"
 split
 ·next h =>
  walk_at "st";obtain ⟨x,e,e2⟩:=nS (xs:=ns.map D.int) h0 h;rw [FX] at e2
  cases e3:ns[k.toNat]? with
  | none=>rw [e3] at e2;cases e2
  | some y=>rw [e3] at e2;cases e2;exact ⟨_,e,q y⟩
 ·walk_at "st";exact q 0
theorem nT {i j:Int} (h : -(2 ^ 64) < i/\i < 2 ^ 64):MulOk i j := .inl h
theorem kb {i j:Int} (h : -(2 ^ 64) < j/\j < 2 ^ 64):MulOk i j := .inr (.inl h)
noncomputable def kc (s:Stmt):FD:=⟨"_law_mixed",s,["_law_number_here", "_law_k", "_law_once", "_law_twice"],2,
 (.cons (.asg (.name 2) (.bin .mod (.bin .mul (.bin .add (.bin .add (.bin .mod (.var 0) (.int 1000000007)) (.bin .mul (.int 7) (.var 1))) (.int 1)) (.int 48271)) (.int 2147483647)))
 (.cons (.asg (.name 3) (.bin .mod (.bin .mul (.var 2) (.bin .add (.bin .add (.bin .mod (.var 2) (.int 1009)) (.var 1)) (.int 3))) (.int 998244353)))
 (.cons (.ret (.bin .fdiv (.bin .mod (.bin .add (.bin .mul (.var 3) (.int 39373)) (.var 2)) (.int 2147483629)) (.int 64)))
 .nil)))⟩
noncomputable def rJ (s:Stmt) (fc fm:Nat):FD:=⟨"_law_box",s,["_law_script", "_law_k", "_law_cell"],2,
 (.cons (.asg (.name 2) (.call fc (.cons (.var 0) (.cons (.var 1) .nil))))
 (.cons (.ret (.lst (.cons (.bin .mul (.blt .abs (.cons (.var 2) .nil)) (.blt .int (.cons (.cmp .ge (.blt .abs (.cons (.var 2) .nil)) (.bin .pow (.int 10) (.int 18))) .nil))) (.cons (.call fm (.cons (.var 2) (.cons (.bin .add (.int 900) (.var 1)) .nil))) (.cons (.int 0) .nil)))))
 .nil))⟩
theorem Bk {f fc fm:Nat} {s sc:Stmt} (hf:T[f]? = some (rJ s fc fm)) (z:T[fc]? = some (jA sc)) {n:Nat} (B:∀ {x k:Int} {M:Mem} {Q:QD},(∀ i,Q (.int i) M)->phi T (n - 1) fm [.int x, .int k] M Q) (G : 2<=n) {ns:List Int} {k:Int} {M:Mem} {Q:QD} (h0 : 0<=k)
 (q:∀ p x y,M p=none->Q (.ref p) (ag M p (.lst [.int x, .int y, .int 0]))):phi T n f [.con (ns.map D.int), .int k] M Q:=by
 refine ao (by lia) hf rfl (ρ := [some _,some _,none]) rfl ?_
 unfold rJ;walk_at "st";refine zE z (by lia) h0 fun i => ?_
 walk_at "st";refine ⟨by decide,by decide,by decide,kb ?_, ?_⟩
 ·split <;> lia
 refine B fun j => ?_;exact ⟨by rw [Fb];lia,fun p F=>q p _ _ F⟩
noncomputable def nU (s:Stmt) (fm:Nat):FD:=⟨"_law_take",s,["_law_box_here", "_law_many", "_law_found", "_law_reach"],2,
 (.cons (.ite (.cmp .gt (.ix (.var 0) (.int 0)) (.int 0)) (.cons (.asg (.name 2) (.bin .mod (.ix (.var 0) (.int 0)) (.var 1)))
 (.cons (.put (.var 0) (.int 0) (.bin .fdiv (.ix (.var 0) (.int 0)) (.var 1)))
 (.cons (.ret (.var 2))
 .nil))) .nil)
 (.cons (.asg (.tup (.cons (.name 2) (.cons (.name 3) .nil))) (.tup (.cons (.int 0) (.cons (.int 1) .nil))))
 (.cons (.while (.cmp .lt (.var 3) (.var 1)) (.cons (.put (.var 0) (.int 2) (.bin .add (.ix (.var 0) (.int 2)) (.int 1)))
 (.cons (.asg (.name 2) (.bin .add (.bin .mul (.var 2) (.int 33554432)) (.call fm (.cons (.ix (.var 0) (.int 1)) (.cons (.ix (.var 0) (.int 2)) .nil)))))
 (.cons (.asg (.name 3) (.bin .mul (.var 3) (.int 33554432)))
 .nil))))
 (.cons (.ret (.bin .mod (.var 2) (.var 1)))
 .nil))))⟩
def rK (T:List FD) (n fm:Nat):Prop := ∀ {x k:Int} {M:Mem} {Q:QD},(∀ i,Q (.int i) M)->phi T n fm [.int x, .int k] M Q
theorem zF {f fm:Nat} {s:Stmt} (hf:T[f]? = some (nU s fm)) {n:Nat} (J:rK T (n - 1) fm) (O : 2<=n) {b:Addr} {m:Int} {M:Mem} {Q:QD} (L:Box b M) (h1 : 0 < m) (h2:m<=2 ^ 100)
 (q:∀ r M',0<=r->r < m->Bx b M M'->Q (.int r) M'):phi T n f [.ref b, .int m] M Q:=by
 refine ao (by lia) hf rfl (ρ := [some _,some _,none,none]) rfl ?_
 unfold nU;obtain ⟨x,y,z,G⟩:=L;walk_at "st";refine aV G (d := .int x) rfl ?_;simp only [rH];walk_at "wp"
 split
 ·next hx =>
  walk_at "st";refine aV G (d := .int x) rfl ?_;walk_at "wp";refine ⟨h1, ?_⟩;walk_at "st";refine aV G (d := .int x) rfl ?_;walk_at "wp";refine ⟨h1,by lia, ?_⟩
  refine bC G (j := 0) rfl ?_;walk_at "st";exact q _ _ (K9 _ (by lia)) (Jk _ h1) Bx.put
 ·next hx =>
  walk_at "st";refine ⟨by rw [Fb];lia, ?_⟩
  walk_at "st";refine ⟨5, ?_⟩;have go:∀ (f:Nat) (found reach z:Int) (M':Mem),m<=reach*33554432 ^ f->M' b=some (.lst [.int x, .int y, .int z])->Bx b M M' ->
   b8 (i7 (wOp wLt (bU 3) (bU 1))) (wSs (phi T (n - 1)) (MSs.cons (MS.put (ME.var 0) (ME.int 2) (ME.bin BOp.add ((ME.var 0).ix (ME.int 2)) (ME.int 1)))
    (MSs.cons (MS.asg (MG.name 2) (ME.bin BOp.add (ME.bin BOp.mul (ME.var 2) (ME.int 33554432)) (ME.call fm (MEs.cons ((ME.var 0).ix (ME.int 1)) (MEs.cons ((ME.var 0).ix (ME.int 2)) MEs.nil)))))
      (MSs.cons (MS.asg (MG.name 3) (ME.bin BOp.mul (ME.var 3) (ME.int 33554432))) MSs.nil))))
    { nx:=wSs (phi T (n - 1)) (MSs.cons (MS.ret (ME.bin BOp.mod (ME.var 2) (ME.var 1))) MSs.nil) { nx:=fun x M'=>Q D.non M',rt:=Q },rt:=Q } (f+1) [some (.ref b),some (.int m),some (.int found),some (.int reach)] M':=by
   intro f
   induction f with
   | zero =>
     intro found reach z M' hm F B;simp only [b8];walk_at "wp";rw [if_neg (by lia)]
     walk_at "st";exact ⟨h1,q _ _ (K9 _ (by lia)) (Jk _ h1) B⟩
   | succ f ih =>
     intro found reach z M' hm F B;rw [b8];walk_at "wp"
     split
     ·next U =>
      walk_at "st";refine aV F (d := .int z) rfl ?_;walk_at "wp";refine bC F (j := 2) rfl ?_;walk_at "st";refine ⟨kb (by decide), ?_⟩
      refine aV ab (d := .int y) rfl ?_;refine aV ab (d := .int (z+1)) rfl ?_;refine J fun i => ?_;walk_at "wp";walk_at "st";refine ⟨kb (by decide), ?_⟩
      exact ih _ _ (z+1) _ (by rw [Int.mul_assoc, <- Int.pow_succ'];exact hm) ab (B.trans Bx.put)
     ·walk_at "st";exact ⟨h1,q _ _ (K9 _ (by lia)) (Jk _ h1) B⟩
  exact go 4 0 1 z M (by lia) G (Bx.refl ⟨x,y,z,G⟩)
def nV (T:List FD) (n f:Nat):Prop := ∀ {b:Addr} {m:Int} {M:Mem} {Q:QD},Box b M->0 < m->m<=2 ^ 100->(∀ r M',0<=r->r < m->Bx b M M'->Q (.int r) M')->phi T n f [.ref b, .int m] M Q
noncomputable def iC (s:Stmt) (ft:Nat):FD:=⟨"_law_number",s,["_law_box_here", "_law_way"],1,
 (.cons (.asg (.name 1) (.call ft (.cons (.var 0) (.cons (.int 9) .nil))))
 (.cons (.ite (.cmp .eq (.var 1) (.int 0)) (.cons (.ret (.bin .sub (.call ft (.cons (.var 0) (.cons (.int 2001) .nil))) (.int 1000)))
 .nil) .nil)
 (.cons (.ret (.ix (.lst (.cons (.int 0) (.cons (.int 0) (.cons (.int 0) (.cons (.int 1) (.cons (.int 1) (.cons (.int 1) (.cons (.neg (.int 1)) (.cons (.neg (.int 1)) (.cons (.int 2) .nil)))))))))) (.var 1)))
 .nil)))⟩
theorem uL {f ft:Nat} {s:Stmt} (hf:T[f]? = some (iC s ft)) {n:Nat} (j:nV T (n - 1) ft) (U : 1<=n) {b:Addr} {M:Mem} {Q:QD} (G:Box b M)
 (q:∀ r M', -1000<=r->r<=1000->Bx b M M'->Q (.int r) M'):phi T n f [.ref b] M Q:=by
 refine ao (by lia) hf rfl (ρ := [some _,none]) rfl ?_
 unfold iC;walk_at "st";refine j G (by decide) (by decide) fun r Y h0 h1 B => ?_
 walk_at "st"
 split
 ·walk_at "st";refine j B.box (by decide) (by decide) fun Z M2 h0 h1 J => ?_
  walk_at "wp";exact q _ _ (by lia) (by lia) (B.trans J)
 ·next F =>
  walk_at "st";refine ⟨by rw [Fb];lia,fun p L => ?_⟩
  have F:r=1∨r=2∨r=3∨r=4∨r=5∨r=6∨r=7∨r=8:=by
   have:r≠0:=fun z=>F (by rw [z];rfl)
   lia
  have O:=B.ge (Ge.new (o := .lst [.int 0, .int 0, .int 0, .int 1, .int 1, .int 1, .int (-1), .int (-1), .int 2]) L)
  rcases F with rfl | rfl | rfl | rfl | rfl | rfl | rfl | rfl <;> exact aV ab rfl (q _ _ (by decide) (by decide) O)
end
section
variable {T:List FD}
def nW (T:List FD) (n f:Nat):Prop := ∀ {b:Addr} {M:Mem} {Q:QD},Box b M->(∀ r M', -1000<=r->r<=1000->Bx b M M'->Q (.int r) M')->phi T n f [.ref b] M Q
def dS (ns:List Int):Prop := ∀ x∈ns, -1000<=x/\x<=1000
theorem df {lo:Int} {n:Nat}:(bW lo n).length=n:=by simp [bW]
theorem am {α:Type} {xs l r:List α} {x : α} (e:xs=l++x::r):l.length < xs.length:=by rw [e];simp
noncomputable def nX (s:Stmt) (fn:Nat):FD:=⟨"_law_part",s,["_law_box_here", "_law_length"],2,
 (.cons (.ret (.blt .tuple (.cons (.comp [none,(some 0)] ["_law_k", "_law_box_here"] (.last (.rng1 (.var 1)) (.name 0) .nil (.call fn (.cons (.var 1) .nil)))) .nil)))
 .nil)⟩
theorem zG {f fn:Nat} {s:Stmt} (hf:T[f]? = some (nX s fn)) {n:Nat} (B:nW T (n - 1) fn) (Y : 1<=n) {b:Addr} {L:Nat} (Z:L<=1000) {M:Mem} {Q:QD} (F:Box b M)
 (q:∀ (ns:List Int) M',ns.length=L->dS ns->Bx b M M'->Q (.tup (ns.map .int)) M'):phi T n f [.ref b, .int L] M Q:=by
 refine ao (by lia) hf rfl (ρ := [some _,some _]) rfl ?_
 unfold nX;walk_at "st";refine ⟨by lia,by lia, ?_⟩
 refine uK (I:=fun l ρ M' acc => ∃ (ns:List Int) (x:Option D),acc=ns.map .int/\ns.length=l.length/\dS ns/\Bx b M M' /\ ρ = [x,some (.ref b)]) ⟨[],none,rfl,rfl,fun _ h=>by simp at h,Bx.refl F,rfl⟩ (fun _ _ _ _ _=>trivial) ?_ ?_
 ·rintro l x r ρ M1 acc e ⟨ns,o,rfl,j,hs,z,rfl⟩;refine ⟨_,rfl,fun N' G => ?_⟩;walk_at "wp";refine B z.box fun v M2 h1 h2 J => ?_;have:=am e;rw [df] at this;refine ⟨by rw [Fd,j,Fb];lia,G _ _ _ ⟨ns++[v],_,by simp,by simp [j], ?_,z.trans J,rfl⟩⟩
  intro y O
  rcases FE.mp O with h | h
  ·exact hs y h
  ·simp at h;subst h;exact ⟨h1,h2⟩
 ·rintro ρ M1 acc ⟨ns,o,rfl,j,hs,z,rfl⟩ p U;rw [df] at j;refine ⟨_,ns.map .int,rfl,ae ab,q ns _ (by lia) hs (z.ge (Ge.new U))⟩
noncomputable abbrev Pr:=List Int×List Int×List Int
noncomputable def prD (p:Pr):D := .tup [.tup (p.1.map .int), .tup (p.2.1.map .int), .tup (p.2.2.map .int)]
noncomputable def cw (p:Pr):GA := .tuple [.tuple (p.1.map .int), .tuple (p.2.1.map .int), .tuple (p.2.2.map .int)]
structure ke (L0 L1 L2:Nat) (p:Pr):Prop where
 l0:p.1.length=L0
 l1:p.2.1.length=L1
 l2:p.2.2.length=L2
 s0:dS p.1
 s1:dS p.2.1
 s2:dS p.2.2
theorem qa {k:Nat} {M:Mem}:∀ ns:List Int,au (rb k M) (ns.map D.int)=some (ns.map PyData.int)
 | [] => rfl
 | x::r=>by
   have e:rb k M (.int x)=some (.int x):=by cases k <;> rfl
   simp [au,e,qa r]
theorem Cd {k:Nat} {M:Mem} (p:Pr):rb (k+2) M (prD p)=some (cw p):=by
 simp [rb,prD,cw,au,qa]
theorem jB {k:Nat} {M:Mem}:∀ ps:List Pr,au (rb (k+2) M) (ps.map prD)=some (ps.map cw)
 | [] => rfl
 | p::r=>by simp [au,Cd,jB r]
theorem dD {k:Nat} {M:Mem} {a:Addr} {ds:List D} (h:M a=some (.lst ds)):rb (k+1) M (.ref a)=(au (rb k M) ds).map NY:=by
 simp only [rb,h]
theorem iD {Φ:Phi} {s:MS} {r:MSs} {E:aS} {ρ:al} {M:Mem} (I:al->Mem->Prop) (h1:∀ R:al->Mem->Prop,(∀ ρ M,I ρ M->R ρ M)->wS Φ s { E with nx:=R } ρ M) (h2:∀ ρ M,I ρ M->wSs Φ r E ρ M):wSs Φ (.cons s r) E ρ M:=by
 rw [bO];exact h1 _ h2
theorem Bx.upd {b q:Addr} {M M':Mem} {o:O} (h:Bx b M M') (B:M q=none) (j:q≠b):Bx b M (ag M' q o) :=
 ⟨by obtain ⟨x,y,z,e⟩:=h.box;exact ⟨x,y,z,by rw [ak j.symm];exact e⟩,fun u o' nu eu=>by
   rw [ak (fun z=>by rw [z,B] at eu;cases eu)];exact h.keep u o' nu eu⟩
theorem Bx.none {b q:Addr} {M M':Mem} (h:Bx b M M') (z:M' q=none) (j:q≠b):M q=none:=by
 cases e:M q with
 | none=>rfl
 | some o=>rw [h.keep q o j e] at z;cases z
noncomputable def prL (p:Pr):List D := [.tup (p.1.map .int), .tup (p.2.1.map .int), .tup (p.2.2.map .int)]
theorem gh {k:Nat}:dS (Fm k 0):=fun x h=>by
 rw [(List.mem_replicate.mp h).2];decide
theorem rL {k:Nat}:(Fm k [D.int 0]).flatten=(Fm k (0:Int)).map D.int:=by
 induction k with
 | zero=>rfl
 | succ k ih=>rw [GF,Gq,ih];rfl
def uM (T:List FD) (n f:Nat):Prop := ∀ {b:Addr} {L:Nat} {M:Mem} {Q:QD},L<=1000->Box b M->(∀ (ns:List Int) M',ns.length=L->dS ns->Bx b M M'->Q (.tup (ns.map .int)) M')->phi T n f [.ref b, .int L] M Q
noncomputable def iE (s:Stmt) (ft fp:Nat):FD:=⟨"_law_scheme",s,["_law_box_here", "_law_lengths", "_law_count", "_law_products", "_law_k", "_law_product", "_law_way", "_law_side"],3,
 (.cons (.asg (.name 3) (.lst .nil))
 (.cons (.for (.name 4) (.rng1 (.var 2)) (.cons (.asg (.name 5) (.comp [none,(some 0)] ["_law_length", "_law_box_here"] (.last (.seq (.var 1)) (.name 0) .nil (.call fp (.cons (.var 1) (.cons (.var 0) .nil))))))
 (.cons (.asg (.name 6) (.call ft (.cons (.var 0) (.cons (.int 8) .nil))))
 (.cons (.ite (.and (.cons (.cmp .lt (.var 6) (.int 3)) (.cons (.cmp .ne (.var 3) (.lst .nil)) .nil))) (.cons (.put (.var 5) (.var 6) (.ix (.ix (.var 3) (.call ft (.cons (.var 0) (.cons (.blt .len (.cons (.var 3) .nil)) .nil)))) (.var 6)))
 .nil) .nil)
 (.cons (.ite (.cmp .eq (.var 6) (.int 3)) (.cons (.asg (.name 7) (.call ft (.cons (.var 0) (.cons (.int 3) .nil))))
 (.cons (.put (.var 5) (.var 7) (.bin .mul (.tup (.cons (.int 0) .nil)) (.ix (.var 1) (.var 7))))
 .nil)) .nil)
 (.cons (.drop (.meth .append (.var 3) (.blt .tuple (.cons (.var 5) .nil))))
 .nil))))))
 (.cons (.ret (.bin .add (.blt .tuple (.cons (.var 1) .nil)) (.tup (.cons (.var 3) .nil))))
 .nil)))⟩
theorem uN {f ft fp:Nat} {s:Stmt} (hf:T[f]? = some (iE s ft fp)) {n:Nat} (De:nV T (n - 1) ft) (Df:uM T (n - 1) fp) (hn : 1<=n) {b a:Addr} {L0 L1 L2 c:Nat} (h0:L0<=1000) (h1:L1<=1000) (h2:L2<=1000) (hc:c<=1000) {M:Mem} {Q:QD} (hb:Box b M) (D5:a≠b) (ha:M a=some (.lst [.int L0, .int L1, .int L2]))
 (q:∀ (ps:List Pr) pr M',ps.length=c->(∀ p∈ps,ke L0 L1 L2 p)->Bx b M M'->M pr=none->M' pr=some (.lst (ps.map prD))->Q (.tup [.int L0, .int L1, .int L2, .ref pr]) M'):phi T n f [.ref b, .ref a, .int c] M Q:=by
 refine ao (by lia) hf rfl (ρ := [some _,some _,some _,none,none,none,none,none]) rfl ?_
 unfold iE;walk_at "st";refine ⟨by lia,fun pr D7 => ?_⟩
 have U:pr≠b:=fun z=>by obtain ⟨x,y,w,e⟩:=hb;rw [<- z,D7] at e;cases e
 have Dw:pr≠a:=fun z=>by rw [<- z,D7] at ha;cases ha
 walk_at "st";refine ⟨by lia,by lia, ?_⟩
 refine wX (I:=fun l ρ M' => ∃ (ps:List Pr) (o4 o5 o6 o7:Option D), ρ = [some (.ref b),some (.ref a),some (.int c),some (.ref pr),o4,o5,o6,o7]/\ps.length=l.length/\(∀ p∈ps,ke L0 L1 L2 p)/\Bx b M M'/\M' pr=some (.lst (ps.map prD)))
  ⟨[],none,none,none,none,rfl,rfl,fun _ h=>by simp at h,Bx.of hb (Ge.new D7),ab⟩ (fun _ _ _ _=>trivial) ?_ ?_
 ·rintro l x r ρ M1 e ⟨ps,o4,o5,o6,o7,rfl,hl,hp,x1,Dg⟩;have Do:=am e;rw [df] at Do;refine ⟨_,rfl,fun F hF => ?_⟩;walk_at "wp";have D8:=x1.keep a _ D5 ha;rw [bO];walk_at "wp";refine ⟨_,ae D8, ?_⟩;simp only [bp];refine ⟨ae D8,_,rfl, ?_⟩;walk_at "wp";refine Df h0 x1.box fun n0 M2 l0 s0 x2 => ?_;have Dh:=x2.keep a _ D5 D8;refine ⟨by simp [Fb],ae Dh, ?_⟩
  refine Df h1 x2.box fun n1 M3 l1 s1 x3 => ?_;have Di:=x3.keep a _ D5 Dh;refine ⟨by simp [Fb],ae Di, ?_⟩
  refine Df h2 x3.box fun n2 M4 l2 s2 x4 => ?_;have Db:=x4.keep a _ D5 Di;refine ⟨by simp [Fb],ae Db,fun pq D6 => ?_⟩
  have D4:=x4.keep pr _ U (x3.keep pr _ U (x2.keep pr _ U Dg));have x5:=((x1.trans x2).trans (x3.trans x4)).ge (Ge.new (o := .lst ([]++[D.tup (IT D.int n0)]++[D.tup (IT D.int n1)]++[D.tup (IT D.int n2)])) D6);have J:pq≠b:=fun z=>by obtain ⟨x,y,w,e⟩:=x4.box;rw [<- z,D6] at e;cases e
  have L:M pq=none:=((x1.trans x2).trans (x3.trans x4)).none D6 J;have Y:pr≠pq:=fun z=>by rw [z,D6] at D4;cases D4
  have Dx:a≠pq:=fun z=>by rw [z,D6] at Db;cases Db
  have Dc:ag M4 pq (.lst ([]++[D.tup (IT D.int n0)]++[D.tup (IT D.int n1)]++[D.tup (IT D.int n2)])) pr=some (.lst (ps.map prD)):=by rw [ak Y];exact D4
  have Dj:ag M4 pq (.lst ([]++[D.tup (IT D.int n0)]++[D.tup (IT D.int n1)]++[D.tup (IT D.int n2)])) pq=some (.lst (prL (n0,n1,n2))):=ab;have hok:ke L0 L1 L2 (n0,n1,n2):=⟨l0,l1,l2,s0,s1,s2⟩;generalize ag M4 pq (.lst ([]++[D.tup (IT D.int n0)]++[D.tup (IT D.int n1)]++[D.tup (IT D.int n2)]))=M5 at x5 Dc Dj;generalize hP:(n0,n1,n2)=p0 at hok Dj;clear D6 D4 x4 Db x3 Di x2 Dh hP;walk_at "st";refine De x5.box (by decide) (by decide) fun way M6 w0 w1 x6 => ?_
  have D9:=x6.keep pr _ U Dc;have Dm:=x6.keep pq _ J Dj;have Dn:=x5.trans x6;refine iD (I:=fun ρ' M' => ρ'=[some (.ref b),some (.ref a),some (.int c),some (.ref pr),some x,some (.ref pq),some (.int way),o7] /\ ∃ p:Pr,ke L0 L1 L2 p/\Bx b M M'/\M' pr=some (.lst (ps.map prD))/\M' pq=some (.lst (prL p))) (fun R hR => ?_) ?_
  ·walk_at "wp"
   split
   ·next hw =>
    refine ⟨by lia,fun pe Dp => ?_⟩
    have g:=Ge.new (o := .lst []) Dp;refine ⟨_,_,dD (g _ _ D9) |>.trans (by rw [jB];rfl),dD ab, ?_⟩
    walk_at "wp";have x7:=Dn.ge g;have O:=g _ _ D9;have Da:=g _ _ Dm
    split
    ·next Dq =>
     have Dv : 0 < ps.length:=by
      cases ps with
      | nil=>simp [Ga,GN] at Dq
      | cons p r=>simp
     walk_at "st";refine zC O ?_;refine De x7.box (by rw [Fd];lia) (by rw [Fd];lia) fun r M8 r0 r1 x8 => ?_
     have G:=x8.keep pr _ U O;have Z:=x8.keep pq _ J Da;obtain ⟨d,e1,e2⟩:=nS r0 r1;refine aV G e1 ?_;rw [FX] at e2
     cases e3:ps[r.toNat]? with
     | none=>rw [e3] at e2;cases e2
     | some pp =>
       rw [e3] at e2;cases e2;have ho:=hp pp (FT e3);have Dr:way=0∨way=1∨way=2:=by lia
       have x9:=x7.trans x8
       rcases Dr with rfl | rfl | rfl
       ·refine ⟨_,_,rfl,rfl,bC Z (j := 0) rfl ?_⟩;exact hR _ _ ⟨rfl,(pp.1,p0.2.1,p0.2.2),⟨ho.l0,hok.l1,hok.l2,ho.s0,hok.s1,hok.s2⟩,x9.upd L J,by rw [ak Y];exact G,ab⟩
       ·refine ⟨_,_,rfl,rfl,bC Z (j := 1) rfl ?_⟩;exact hR _ _ ⟨rfl,(p0.1,pp.2.1,p0.2.2),⟨hok.l0,ho.l1,hok.l2,hok.s0,ho.s1,hok.s2⟩,x9.upd L J,by rw [ak Y];exact G,ab⟩
       ·refine ⟨_,_,rfl,rfl,bC Z (j := 2) rfl ?_⟩;exact hR _ _ ⟨rfl,(p0.1,p0.2.1,pp.2.2),⟨hok.l0,hok.l1,ho.l2,hok.s0,hok.s1,ho.s2⟩,x9.upd L J,by rw [ak Y];exact G,ab⟩
    ·exact hR _ _ ⟨rfl,p0,hok,x7,O,Da⟩
   ·exact hR _ _ ⟨rfl,p0,hok,Dn,D9,Dm⟩
  ·rintro ρ M7 ⟨rfl,p,B,x7,O,Da⟩;refine iD (I:=fun ρ' M' => ∃ (o7:Option D), ρ'=[some (.ref b),some (.ref a),some (.int c),some (.ref pr),some x,some (.ref pq),some (.int way),o7] /\ ∃ p:Pr,ke L0 L1 L2 p/\Bx b M M'/\M' pr=some (.lst (ps.map prD))/\M' pq=some (.lst (prL p))) (fun R hR => ?_) ?_
   ·walk_at "wp"
    split
    ·walk_at "st";refine De x7.box (by decide) (by decide) fun side M8 d0 d1 x8 => ?_
     have G:=x8.keep pr _ U O;have Z:=x8.keep pq _ J Da;have x9:=x7.trans x8;have Dl:=x9.keep a _ D5 ha;walk_at "st";refine ⟨by rw [Fb];lia, ?_⟩
     have Ds:side=0∨side=1∨side=2:=by lia
     rcases Ds with rfl | rfl | rfl
     ·refine aV Dl (d := .int L0) rfl ?_;walk_at "wp";refine ⟨by lia,by lia,by rw [Fb];lia,bC Z (j := 0) rfl ?_⟩
      rw [rL];exact hR _ _ ⟨_,rfl,(Fm (L0:Int).toNat 0,p.2.1,p.2.2),⟨by simp,B.l1,B.l2,gh,B.s1,B.s2⟩,x9.upd L J,by rw [ak Y];exact G,ab⟩
     ·refine aV Dl (d := .int L1) rfl ?_;walk_at "wp";refine ⟨by lia,by lia,by rw [Fb];lia,bC Z (j := 1) rfl ?_⟩
      rw [rL];exact hR _ _ ⟨_,rfl,(p.1,Fm (L1:Int).toNat 0,p.2.2),⟨B.l0,by simp,B.l2,B.s0,gh,B.s2⟩,x9.upd L J,by rw [ak Y];exact G,ab⟩
     ·refine aV Dl (d := .int L2) rfl ?_;walk_at "wp";refine ⟨by lia,by lia,by rw [Fb];lia,bC Z (j := 2) rfl ?_⟩
      rw [rL];exact hR _ _ ⟨_,rfl,(p.1,p.2.1,Fm (L2:Int).toNat 0),⟨B.l0,B.l1,by simp,B.s0,B.s1,gh⟩,x9.upd L J,by rw [ak Y];exact G,ab⟩
    ·exact hR _ _ ⟨_,rfl,p,B,x7,O,Da⟩
   ·rintro ρ M9 ⟨Dy,rfl,p,B,x9,Dd,Dt⟩;walk_at "st";refine ⟨⟨_,Dd⟩,_,_,rfl,ae Dt,_,_,_,rfl,rfl,Dd,by rw [Fd,Fb];lia, ?_⟩
    walk_at "wp";exact hF _ _ ⟨ps++[p],_,_,_,_,rfl,by simp [hl],fun p' Du=>(FE.mp Du).elim (hp p') fun z=>by simp at z;subst z;exact B,x9.upd D7 U,by rw [ab];simp [prD,prL]⟩
 ·rintro ρ M1 ⟨ps,o4,o5,o6,o7,rfl,hl,hp,x1,Dg⟩;have D8:=x1.keep a _ D5 ha;dsimp only;walk_at "st";refine ⟨_,_,rfl,ae D8,by rw [Fb];lia, ?_⟩
  walk_at "wp";rw [df] at hl;exact ⟨by simp,by rw [Fb];lia,q ps pr M1 (by lia) hp x1 D7 Dg⟩
end
section
theorem aG {α:Type} {f : α -> D} {b:BT} {tb:TCd} {chk:Mem->Prop} {N:NC} (I:List α -> al->Mem->List D->Prop) {ys:List α} {xs:List D} (hx:xs=ys.map f) {ρ:al} {M:Mem} {acc:List D}
 (h0:I [] ρ M acc)
 (q:∀ l ρ M acc,I l ρ M acc->chk M)
 (hs:∀ l x r ρ M acc,ys=l++x::r->I l ρ M acc -> ∃ ρ',b (f x) ρ = some ρ' /\ ∀ N':NC,(∀ ρ2 M2 j,I (l++[x]) ρ2 M2 j->N' ρ2 M2 j)->tb ρ' M acc N')
 (z:∀ ρ M acc,I ys ρ M acc->N ρ M acc):bp b tb chk N xs ρ M acc:=by
 subst hx;have g:∀ (r l:List α) (ρ:al) (M:Mem) (acc:List D),ys=l++r->I l ρ M acc->bp b tb chk N (r.map f) ρ M acc:=by
  intro r
  induction r with
  | nil=>intro l ρ M acc e i;rw [GB] at e;subst e;exact ⟨q _ _ _ _ i,z _ _ _ i⟩
  | cons x r ih =>
    intro l ρ M acc e i;obtain ⟨ρ',e1,h⟩:=hs l x r ρ M acc e i;exact ⟨q _ _ _ _ i, ρ',e1,h _ fun ρ2 M2 j B=>ih (l++[x]) ρ2 M2 j (by rw [e];simp) B⟩
 exact g ys [] ρ M acc rfl h0
theorem aQ {α:Type} {f : α -> D} {b:BT} {tb:TSd} {chk:Mem->Prop} {E:aS} (I:List α -> al->Mem->Prop) {ys:List α} {xs:List D} (hx:xs=ys.map f) {ρ:al} {M:Mem}
 (h0:I [] ρ M)
 (j:∀ l ρ M,I l ρ M->chk M)
 (hs:∀ l x r ρ M,ys=l++x::r->I l ρ M -> ∃ ρ',b (f x) ρ = some ρ' /\ ∀ F:al->Mem->Prop,(∀ ρ2 M2,I (l++[x]) ρ2 M2->F ρ2 M2)->tb { E with nx:=F,ct:=F,bk:=E.nx } ρ' M)
 (q:∀ ρ M,I ys ρ M->E.nx ρ M):bn b tb chk E xs ρ M:=by
 subst hx;have g:∀ (r l:List α) (ρ:al) (M:Mem),ys=l++r->I l ρ M->bn b tb chk E (r.map f) ρ M:=by
  intro r
  induction r with
  | nil=>intro l ρ M e i;rw [GB] at e;subst e;exact ⟨j _ _ _ i,q _ _ i⟩
  | cons x r ih =>
    intro l ρ M e i;obtain ⟨ρ',e1,h⟩:=hs l x r ρ M e i;exact ⟨j _ _ _ i, ρ',e1,h _ fun ρ2 M2 z=>ih (l++[x]) ρ2 M2 (by rw [e];simp) z⟩
 exact g ys [] ρ M rfl h0
theorem gP {M M':Mem} {x:D} {ds:List D} (h:aC M x=some ds) (g:Ge M M'):aC M' x=some ds:=by
 cases x with
 | ref a =>
   simp only [aC] at h ⊢
   split at h
   ·next e=>rw [g _ _ e];exact h
   ·cases h
 | _=>exact h
theorem wY {M:Mem} {x:D} {ds:List D} (h:aC M x=some ds):ic M x=some ds.length:=by
 cases x with
 | ref a =>
   simp only [aC] at h
   split at h
   ·next e=>cases h;simp only [ic,e]
   ·cases h
 | tup es=>cases h;rfl
 | con es=>cases h;rfl
 | _=>cases h
theorem kf {M:Mem} {x:D} {ds:List D} {Q:QD} (h:aC M x=some ds) (q:Q (.int ds.length) M):eS [x] M Q:=⟨_,_,rfl,wY h,q⟩
theorem kg {α:Type} {xs:List α} {k:Nat} {x : α} (h:xs[k]? = some x):atI xs (k:Int)=some x:=by
 have j:k < xs.length:=(FC.mp h).1;unfold atI ixN;rw [if_pos (by lia),if_pos (by lia)]
 exact h
theorem dg {n:Nat}:bW 0 n=(Hf n).map fun i=>D.int (i:Nat):=by simp [bW]
end
section
variable {T:List FD}
def Big (ns:List Int):Prop := ∀ x∈ns, -1000000000000<=x/\x<=1000000000000
end
section
variable {T:List FD}
noncomputable def nY (x:Str) (s:Stmt):FD:=⟨"_law_mixed",s,[x, "_law_k", "_law_once", "_law_twice"],2,(kc s).body⟩
theorem uO {f:Nat} {x:Str} {s:Stmt} (hf:T[f]? = some (nY x s)) {n:Nat} (j : 1<=n):rK T n f:=by
 intro x k M Q q;refine ao j hf rfl (ρ := [some _,some _,none,none]) rfl ?_;unfold nY kc;walk_at "st";refine ⟨by decide,nT (by decide),kb (by decide),by decide, ?_⟩
 walk_at "st";refine ⟨by decide,nT ?_,by decide, ?_⟩
 ·have h1:=K9 ((x % 1000000007+7*k+1)*48271) (b := 2147483647) (by decide)
  have h2:=Jk ((x % 1000000007+7*k+1)*48271) (b := 2147483647) (by decide)
  lia
 walk_at "st";refine ⟨kb (by decide),by decide,by decide,by decide, ?_⟩
 exact q _
end
section
open PySem PySem.Spec PyProof.Rows L2.Srt
variable {T:List FD}
noncomputable abbrev K3:=Int×Int×Int
noncomputable abbrev Tm:=K3×Int
noncomputable def k3D (k:K3):D := .tup [.int k.1, .int k.2.1, .int k.2.2]
noncomputable def tmD (t:Tm):D := .tup [.int t.1.1, .int t.1.2.1, .int t.1.2.2, .int t.2]
noncomputable def kcD (t:Tm):D×D:=(k3D t.1, .int t.2)
noncomputable def k3K (k:K3):Ky := .tup [.int k.1, .int k.2.1, .int k.2.2]
def klt (a b:K3):Prop:=ltK (k3K a) (k3K b)=true
theorem gQ {a b:K3} (h:k3D a=k3D b):a=b:=by
 obtain ⟨a1,a2,j⟩:=a;obtain ⟨b1,b2,b3⟩:=b;simp [k3D] at h;simp [h]
theorem qb {a b:K3} (h:k3K a=k3K b):a=b:=by
 obtain ⟨a1,a2,j⟩:=a;obtain ⟨b1,b2,b3⟩:=b;simp [k3K] at h;simp [h]
noncomputable def cf (ts:List Tm) (k:K3):Int:=((ts.filter fun t=>decide (t.1=k)).map (·.2)).sum
theorem dE {k:K3}:cf [] k=0:=rfl
theorem aJ {t:Tm} {ts:List Tm} {k:K3}:cf (t::ts) k=(if t.1=k then t.2 else 0)+cf ts k:=by
 unfold cf
 by_cases h:t.1=k
 ·rw [Hc (by simpa using h),if_pos h];simp
 ·rw [Hd (by simpa using h),if_neg h];simp
theorem ci {a b:List Tm} {k:K3}:cf (a++b) k=cf a k+cf b k:=by
 induction a with
 | nil=>simp [dE]
 | cons t a ih=>rw [L9,aJ,aJ,ih];lia
theorem kh {a b:List Tm} (h:a.Perm b) {k:K3}:cf a k=cf b k:=by
 induction h with
 | nil=>rfl
 | cons x h ih=>rw [aJ,aJ,ih]
 | swap x y l=>simp only [aJ];lia
 | trans _ _ j q=>rw [j,q]
theorem ki {ts:List Tm} {k:K3} (h:∀ t∈ts,t.1≠k):cf ts k=0:=by
 induction ts with
 | nil=>rfl
 | cons t ts ih=>rw [aJ,if_neg (h t (by simp)),ih fun u j=>h u (by simp [j])];rfl
theorem gi {ts:List Tm} (j:(ts.map (·.1)).Nodup) {t:Tm} (q:t∈ts):cf ts t.1=t.2:=by
 induction ts with
 | nil=>simp at q
 | cons u ts ih =>
   simp only [FJ,GC] at j;rw [aJ]
   rcases Fo.mp q with z | z
   ·subst z;rw [if_pos rfl,ki fun v B e=>j.1 (by rw [<- e];exact Fy B)]
    lia
   ·rw [if_neg fun e=>j.1 (by rw [e];exact Fy z),ih j.2 z];lia
noncomputable def cU (L:List Tm) (k:K3) (c:Int):List Tm:=if (L.any fun p=>decide (p.1=k))=true then L.map fun p=>if p.1=k then (p.1,p.2+c) else p else L++[(k,c)]
theorem kj {L:List Tm} {k:K3}:dget (L.map kcD) (k3D k)=(L.find? fun p=>decide (p.1=k)).map fun p => .int p.2:=by
 unfold dget
 induction L with
 | nil=>rfl
 | cons t L ih =>
   by_cases h:t.1=k
   ·rw [FJ,JF (by simp [kcD,h]),JF (by simpa using h)];rfl
   ·rw [FJ,HP (by simp only [decide_eq_true_eq];exact fun e=>h (gQ e)),HP (by simpa using h),ih]
theorem uP {L:List Tm} {k:K3}:((L.map kcD).any fun p=>decide (p.1=k3D k))=L.any fun p=>decide (p.1=k):=by
 induction L with
 | nil=>rfl
 | cons t L ih =>
   rw [FJ,IF,IF,ih];congr 1
   by_cases h:t.1=k
   ·simp [kcD,h]
   ·rw [decide_eq_false h];exact decide_eq_false (fun e=>h (gQ e))
theorem qc {L:List Tm} (j:(L.map (·.1)).Nodup) {k:K3} {c:Int}:bJ (L.map kcD) (k3D k) (.int ((((L.find? fun p=>decide (p.1=k)).map (·.2)).getD 0)+c))=(cU L k c).map kcD:=by
 unfold bJ cU;rw [uP]
 split
 ·next h =>
  rw [Gv,Gv];apply HH;intro t q;simp only [MN]
  by_cases e:t.1=k
  ·rw [if_pos (by rw [<- e];rfl),if_pos e]
   have:L.find? (fun p=>decide (p.1=k))=some t:=by
    clear h
    induction L with
    | nil=>simp at q
    | cons u L ih =>
      simp only [FJ,GC] at j
      rcases Fo.mp q with z | z
      ·subst z;rw [JF (by simpa using e)]
      ·rw [HP (by simp;intro e2;exact j.1 (by rw [e2, <- e];exact Fy z))]
       exact ih j.2 z
   rw [this];rfl
  ·rw [if_neg (c:=(kcD t).1=k3D k) (fun z=>e (gQ z)),if_neg e]
 ·next h =>
  have:L.find? (fun p=>decide (p.1=k))=none:=by
   rw [Kv];intro x hx;simp only [decide_eq_true_eq];intro e;exact h (HW.mpr ⟨x,hx,by simpa using e⟩)
  rw [this];simp [kcD]
theorem lp {L:List Tm} {k:K3} {c:Int}:(cU L k c).map (·.1)=if (L.any fun p=>decide (p.1=k))=true then L.map (·.1) else L.map (·.1)++[k]:=by
 unfold cU
 split
 ·rw [Gv];apply HH;intro t _;simp only [MN]
  split <;> rfl
 ·simp
theorem rM {L:List Tm} (j:(L.map (·.1)).Nodup) {k:K3} {c:Int}:((cU L k c).map (·.1)).Nodup:=by
 rw [lp]
 split
 ·exact j
 ·next h =>
  refine Ic.mpr ⟨j,by simp,fun a z b q e => ?_⟩
  simp at q;subst q;subst e;obtain ⟨t,B,e⟩:=Fw.mp z;exact h (HW.mpr ⟨t,B,by simpa using e⟩)
theorem wZ {L:List Tm} {k:K3} {c:Int} {a:K3} (h:a∈(cU L k c).map (·.1)):a∈L.map (·.1)∨a=k:=by
 rw [lp] at h
 split at h
 ·exact .inl h
 ·rcases FE.mp h with z | z
  ·exact .inl z
  ·exact .inr (by simpa using z)
theorem xa {L:List Tm} {k:K3} {c:Int}:(cU L k c).length<=L.length+1:=by
 unfold cU;split <;> simp
theorem zH {L:List Tm} (j:(L.map (·.1)).Nodup) {k a:K3} {c:Int}:cf (cU L k c) a=cf L a+if k=a then c else 0:=by
 unfold cU
 split
 ·next h =>
  obtain ⟨t,q,e⟩:=HW.mp h;have e:t.1=k:=by simpa using e
  clear h
  induction L with
  | nil=>simp at q
  | cons u L ih =>
    simp only [FJ,GC] at j;rw [FJ,aJ,aJ]
    by_cases eu:u.1=k
    ·have rest:(L.map fun p=>if p.1=k then (p.1,p.2+c) else p)=L:=by
      conv=>rhs;rw [<- List.map_id L]
      apply HH;intro p B;rw [if_neg fun z=>j.1 (by rw [eu, <- z];exact Fy B)];rfl
     rw [rest,if_pos eu];dsimp only
     by_cases ea:u.1=a
     ·rw [if_pos ea,if_pos ea,if_pos (by rw [<- eu];exact ea)];lia
     ·rw [if_neg ea,if_neg ea,if_neg (by rw [<- eu];exact ea)];lia
    ·rcases Fo.mp q with z | z
     ·exact absurd (by rw [<- z];exact e) eu
     ·rw [ih j.2 z,if_neg eu];lia
 ·rw [ci,aJ,dE];simp
noncomputable def tset (ts:List Tm):List Tm:=ts.foldl (fun L t=>cU L t.1 t.2) []
theorem cj {ts:List Tm} {t:Tm}:tset (ts++[t])=cU (tset ts) t.1 t.2:=by simp [tset]
theorem dF {α:Type} {P:List α -> Prop} (h0:P []) (h1:∀ l x,P l->P (l++[x])) (l:List α):P l:=by
 have:∀ r:List α,P r.reverse:=by
  intro r
  induction r with
  | nil=>exact h0
  | cons x r ih=>rw [List.reverse_cons];exact h1 _ _ ih
 have:=this l.reverse;rw [LV] at this;exact this
theorem cy (ts:List Tm):((tset ts).map (·.1)).Nodup:=dF (P:=fun ts=>((tset ts).map (·.1)).Nodup) (by simp [tset]) (fun l x ih=>by rw [cj];exact rM ih) ts
theorem qd (ts:List Tm) (k:K3):cf (tset ts) k=cf ts k:=dF (P:=fun ts=>cf (tset ts) k=cf ts k) rfl (fun l x ih=>by
 rw [cj,zH (cy l),ih,ci,aJ,dE];lia) ts
theorem fu (ts:List Tm):(tset ts).length<=ts.length:=dF (P:=fun ts=>(tset ts).length<=ts.length) (by simp [tset]) (fun l x ih=>by
 rw [cj];have:=xa (L:=tset l) (k:=x.1) (c:=x.2);simp;lia) ts
theorem xb (ts:List Tm):∀ a∈(tset ts).map (·.1),a∈ts.map (·.1):=dF (P:=fun ts => ∀ a∈(tset ts).map (·.1),a∈ts.map (·.1)) (by simp [tset]) (fun l x ih a j=>by
 rw [cj] at j;rw [GO]
 rcases wZ j with z | z
 ·exact Gb _ (ih a z)
 ·exact FF _ (by simp [z])) ts
structure IsTask (ts rs:List Tm):Prop where
 srt:rs.Pairwise fun a b=>klt a.1 b.1
 nz:∀ r∈rs,r.2≠0
 cf:∀ k,cf rs k=cf ts k
 mem:∀ r∈rs,r.1∈ts.map (·.1)
 len:rs.length<=ts.length
theorem zI {a:K3} (h:klt a a):False:=by
 have:=ik _ _ h;unfold klt at h;rw [h] at this;cases this
theorem IsTask.nodup {ts rs:List Tm} (h:IsTask ts rs):(rs.map (·.1)).Nodup:=by
 rw [GJ,G7];refine h.srt.imp ?_;intro a b j e;rw [e] at j;exact zI j
theorem IsTask.val {ts rs:List Tm} (h:IsTask ts rs) {r:Tm} (j:r∈rs):r.2=Mi.cf ts r.1:=by rw [<- h.cf,gi h.nodup j]
theorem xX {ts:List Tm} {k:K3}:Mi.cf (ts.filter fun t => !(t.2==0)) k=Mi.cf ts k:=by
 induction ts with
 | nil=>rfl
 | cons t ts ih =>
   rw [aJ]
   by_cases h:t.2=0
   ·rw [Hd (by simp [h]),ih,h];split <;> lia
   ·rw [Hc (by simp [h]),aJ,ih]
theorem Ge.upd {M j:Mem} {d:Addr} {o:O} (g:Ge M j) (hd:M d=none):Ge M (ag j d o):=fun a o' e=>by
 rw [ak (fun z=>by rw [z,hd] at e;cases e)];exact g _ _ e
noncomputable def gj (s:Stmt):FD:=⟨"task_of",s,["left", "right", "many", "terms", "sums", "k", "i", "j", "c"],4,
 (.cons (.asg (.name 4) (.dnew true))
 (.cons (.for (.tup (.cons (.name 5) (.cons (.name 6) (.cons (.name 7) (.cons (.name 8) .nil))))) (.seq (.var 3)) (.cons (.put (.var 4) (.tup (.cons (.var 5) (.cons (.var 6) (.cons (.var 7) .nil)))) (.bin .add (.dget (.var 4) (.tup (.cons (.var 5) (.cons (.var 6) (.cons (.var 7) .nil)))) (.int 0)) (.var 8)))
 .nil))
 (.cons (.ret (.tup (.cons (.var 0) (.cons (.var 1) (.cons (.var 2) (.cons (.comp [none,none,none,none] ["k", "i", "j", "c"] (.last (.seq (.sortI (.var 4))) (.tup (.cons (.tup (.cons (.name 0) (.cons (.name 1) (.cons (.name 2) .nil)))) (.cons (.name 3) .nil))) (.cons (.cmp .ne (.var 3) (.int 0)) .nil) (.tup (.cons (.var 0) (.cons (.var 1) (.cons (.var 2) (.cons (.var 3) .nil))))))) .nil))))))
 .nil)))⟩
theorem kl {f:Nat} {s:Stmt} (hf:T[f]? = some (gj s)) {n:Nat} (hn : 1<=n) {L R N:D} {x:D} {ts:List Tm} {M:Mem} {Q:QD} (hx:aC M x=some (ts.map tmD)) (hl:ts.length<=100000)
 (q:∀ (rs:List Tm) p M',IsTask ts rs->Ge M M'->M p=none->M' p=some (.lst (rs.map tmD))->Q (.tup [L,R,N, .ref p]) M'):phi T n f [L,R,N,x] M Q:=by
 refine ao (by lia) hf rfl (ρ := [some _,some _,some _,some _,none,none,none,none,none]) rfl ?_
 unfold gj;walk_at "st";intro d hd;walk_at "st";have g0:=Ge.new (o := .dct true []) hd;refine ⟨_,gP hx g0, ?_⟩;refine aQ (I:=fun l ρ M' => ∃ Y Z o7 o8, ρ = [some L,some R,some N,some x,some (.ref d),Y,Z,o7,o8]/\Ge M M'/\M' d=some (.dct true ((tset l).map kcD))) rfl ⟨_,_,_,_,rfl,g0,ab⟩ (fun l ρ M' ⟨_,_,_,_,_,g,_⟩=>gP hx g) ?_ ?_
 ·rintro l t r ρ M1 e ⟨Y,Z,o7,o8,rfl,g1,B⟩;refine ⟨_,rfl,fun F hF => ?_⟩;have D4:=am e;have D7:=fu l;rw [bO];walk_at "wp";refine ⟨⟨_,_,B⟩,by rw [Fb];lia,_,_,B,rfl, ?_⟩
  have ek:D.tup [D.int t.1.1,D.int t.1.2.1,D.int t.1.2.2]=k3D t.1:=rfl;rw [ek,kj];have eg:((Ou (fun p:Tm=>D.int p.2) ((tset l).find? fun p=>decide (p.1=t.1))).getD (.int 0)) = .int (((((tset l).find? fun p=>decide (p.1=t.1)).map (·.2)).getD 0)):=by
   cases (tset l).find? fun p=>decide (p.1=t.1) <;> rfl
  rw [eg];walk_at "wp";refine ⟨by rw [Fb];lia,fq B rfl (by rw [Fd,Fb];lia) ?_⟩
  rw [qc (cy l)];refine hF _ _ ⟨_,_,_,_,rfl,g1.upd hd, ?_⟩;rw [ab,cj]
 ·rintro ρ M1 ⟨Y,Z,o7,o8,rfl,g1,B⟩;dsimp only;walk_at "st";refine ⟨_,_,B, .tup [.tup [.int, .int, .int], .int],rfl,fun kv D5 => ?_,fun p ys hp z j => ?_⟩
  ·obtain ⟨t,_,rfl⟩:=Fw.mp D5;rfl
  rw [Gv] at z;obtain ⟨L',O,p2⟩:=dP (fun t:Tm=>kvD (kcD t)) z rfl;have G:(L'.map (·.1)).Nodup:=(O.map (·.1)).nodup_iff.mpr (cy ts);have D6:L'.Pairwise fun a b=>klt a.1 b.1:=by
   rw [<- p2] at j;unfold fg at j;rw [G7] at j;rw [GJ,G7] at G;refine (j.and G).imp ?_;rintro a b ⟨h1,h2⟩;unfold klt
   cases e1:ltK (k3K a.1) (k3K b.1) with
   | true=>rfl
   | false =>
     exfalso
     cases e2:ltK (k3K b.1) (k3K a.1) with
     | false=>exact h2 (qb (fM _ _ e1 e2))
     | true =>
       have:ltK (kyD (kvD (kcD b))) (kyD (kvD (kcD a)))=true:=by
        show ltK (.tup [k3K b.1, .int b.2]) (.tup [k3K a.1, .int a.2])=true;unfold ltK at e2 ⊢;have e2:aq (k3K b.1) (k3K a.1) = .lt:=by simpa using e2
        simp only [aq,cmpKs];rw [e2];rfl
       rw [this] at h1;cases h1
  have g2:=g1.trans (Ge.new (o := .lst ys) hp);subst p2;refine ⟨_,ae ab, ?_⟩;have D8:L'.length<=ts.length:=by rw [O.length_eq];exact fu ts
  refine aG (f:=fun t:Tm=>kvD (kcD t)) (I:=fun l ρ M' acc=>(∃ o0 o1 o2 o3, ρ = [o0,o1,o2,o3])/\M'=ag M1 p (.lst (L'.map fun t=>kvD (kcD t)))/\acc=(l.filter fun t => !(t.2==0)).map tmD) rfl ⟨⟨_,_,_,_,rfl⟩,rfl,rfl⟩ (fun _ _ _ _ hI=>by rw [hI.2.1];exact ae ab) ?_ ?_
  ·rintro l t r ρ M2 acc e ⟨⟨o0,o1,o2,o3,rfl⟩,rfl,rfl⟩;refine ⟨_,rfl,fun N' hN => ?_⟩;have D4:=am e;have D9:(l.filter fun t => !(t.2==0)).length<=l.length:=GG _ _;walk_at "wp";simp only [show (kcD t).2=D.int t.2 from rfl];walk_at "wp"
   by_cases U:t.2=0
   ·rw [if_neg (by simp [U])]
    exact hN _ _ _ ⟨⟨_,_,_,_,rfl⟩,rfl,by simp [H9,U]⟩
   ·rw [if_pos (by simp [U])]
    refine ⟨by rw [Fb];lia,by rw [Fd,Fb];lia,hN _ _ _ ⟨⟨_,_,_,_,rfl⟩,rfl, ?_⟩⟩
    simp [H9,U,tmD]
  ·rintro ρ M2 acc ⟨_,rfl,rfl⟩ p2 hp2;refine ⟨by rw [Fb];lia, ?_⟩
   have J:M p2=none:=by
    cases hq:M p2 with
    | none=>rfl
    | some o=>rw [g2 _ _ hq] at hp2;cases hp2
   refine q (L'.filter fun t => !(t.2==0)) p2 _ ⟨D6.sublist Mv,fun r hr=>by simpa using (Hh.mp hr).2,fun k => ?_,fun r hr => ?_, ?_⟩ (g2.trans (Ge.new hp2)) J ab
   ·rw [xX,kh O,qd]
   ·have:=(Hh.mp hr).1;exact xb ts _ (Fy (O.mem_iff.mp this))
   ·have:=GG (fun t:Tm => !(t.2==0)) L';lia
end
section
open PySem PySem.Spec PyProof.Rows L2.Srt
theorem qe {α:Type} {lt : α -> α -> Prop} (as:∀ a b,lt a b->lt b a->False):∀ {l m:List α},l.Pairwise lt->m.Pairwise lt->(∀ x,x∈l↔x∈m)->l=m
 | [],[],_,_,_=>rfl
 | [],y::m,_,_,h=>by have:=(h y).mpr (by simp);simp at this
 | x::l,[],_,_,h=>by have:=(h x).mp (by simp);simp at this
 | x::l,y::m,q,hm,h=>by
   rw [Jh] at q hm;have e:x=y:=by
    rcases Fo.mp ((h x).mp (by simp)) with z | z
    ·exact z
    ·rcases Fo.mp ((h y).mpr (by simp)) with w | w
     ·exact w.symm
     ·exact (as _ _ (hm.1 _ z) (q.1 _ w)).elim
   subst e;rw [qe as q.2 hm.2 fun z => ?_];constructor
   ·intro j
    rcases Fo.mp ((h z).mp (by simp [j])) with w | w
    ·subst w;exact (as _ _ (q.1 _ j) (q.1 _ j)).elim
    ·exact w
   ·intro j
    rcases Fo.mp ((h z).mpr (by simp [j])) with w | w
    ·subst w;exact (as _ _ (hm.1 _ j) (hm.1 _ j)).elim
    ·exact w
theorem IsTask.iff {ts rs:List Tm} (h:IsTask ts rs) {r:Tm}:r∈rs↔r.2≠0/\r.2=Mi.cf ts r.1:=by
 constructor
 ·exact fun j=>⟨h.nz r j,h.val j⟩
 ·rintro ⟨h1,h2⟩;apply Classical.byContradiction;intro z;apply h1;rw [h2, <- h.cf];refine ki fun t q e=>z ?_;have:=h.val q;rw [e, <- h2] at this;have e2:t=r:=L3 e this;rw [<- e2];exact q
theorem IsTask.uniq {ts ts' rs rs':List Tm} (h:IsTask ts rs) (h':IsTask ts' rs') (e:∀ k,Mi.cf ts k=Mi.cf ts' k):rs=rs':=by
 refine qe (fun a b h1 h2 => ?_) h.srt h'.srt fun r=>by rw [h.iff,h'.iff,e]
 have j:=ik _ _ h1;unfold klt at h2;rw [h2] at j;cases j
end
section
open PySem PySem.Spec PyProof.Rows L2.Srt
theorem Bl {b p:Addr} {M:Mem} (j:Box b M) (q:M p=none):p≠b:=fun z=>by
 obtain ⟨x,y,w,e⟩:=j;rw [<- z,q] at e;cases e
noncomputable def cz (t:Tm):GA := .tuple [.int t.1.1, .int t.1.2.1, .int t.1.2.2, .int t.2]
theorem Ce {k:Nat} {M:Mem} (t:Tm):rb (k+2) M (tmD t)=some (cz t):=by
 simp [tmD,rb,au,cz]
theorem nZ {k:Nat} {M:Mem}:∀ ts:List Tm,au (rb (k+2) M) (ts.map tmD)=some (ts.map cz)
 | [] => rfl
 | t::r=>by simp [au,Ce,nZ r]
theorem km:∀ ts:List Tm,GN (ts.map cz) (ts.map cz)=true
 | [] => rfl
 | t::r=>by simp [GN,Ga,km r,cz]
theorem IsTask.sub {ts rs:List Tm} (h:IsTask ts rs) (z:(ts.map (·.1)).Nodup) {r:Tm} (j:r∈rs):r∈ts:=by
 obtain ⟨u,q,e⟩:=Fw.mp (h.mem r j);have:=h.val j;rw [<- e,gi z q] at this;have e2:u=r:=L3 e this.symm;rw [<- e2];exact q
end
section
open PySem PySem.Spec PyProof.Rows L2.Srt
variable {T:List FD}
noncomputable def oe (L:List Tm) (k:K3) (c:Int):List Tm:=if (L.any fun p=>decide (p.1=k))=true then L.map (fun p=>if p.1=k then (p.1,c) else p) else L++[(k,c)]
theorem og {L:List Tm} {k:K3} {c:Int}:bJ (L.map kcD) (k3D k) (.int c)=(oe L k c).map kcD:=by
 unfold bJ oe;rw [uP]
 split
 ·rw [Gv,Gv];refine HH fun p _ => ?_;simp only [MN]
  by_cases h:p.1=k
  ·rw [if_pos h,if_pos (show (kcD p).1=k3D k by show k3D p.1=k3D k;rw [h])];rfl
  ·rw [if_neg h,if_neg (show ¬ (kcD p).1=k3D k from fun z=>h (gQ z))]
 ·rw [GO];rfl
theorem oW {L:List Tm} (B:(L.map (·.1)).Nodup) {ys:List D} (q:ys.Perm ((L.map kcD).map (·.1))) (hs:fg ys):∃ rs:List Tm,rs.Perm L/\ys=rs.map (fun t=>k3D t.1)/\rs.Pairwise fun a b=>klt a.1 b.1:=by
 have e0:(L.map kcD).map (·.1)=L.map fun t=>k3D t.1:=by rw [Gv];rfl
 rw [e0] at q;obtain ⟨rs,z,p2⟩:=dP (fun t:Tm=>k3D t.1) q rfl;refine ⟨rs,z,p2.symm, ?_⟩;have j:(rs.map (·.1)).Nodup:=(z.map (·.1)).nodup_iff.mpr B;unfold fg at hs;rw [<- p2,G7] at hs;rw [GJ,G7] at j;refine (hs.and j).imp ?_;rintro a b ⟨h1,h2⟩;unfold klt
 cases e1:ltK (k3K a.1) (k3K b.1) with
 | true=>rfl
 | false=>exact absurd (qb (fM _ _ e1 h1)) h2
theorem iF {L:List Tm} (j:(L.map (·.1)).Nodup) {t:Tm} (q:t∈L):dget (L.map kcD) (k3D t.1)=some (.int t.2):=by
 rw [kj];have:L.find? (fun p=>decide (p.1=t.1))=some t:=by
  induction L with
  | nil=>simp at q
  | cons x L ih =>
    simp only [FJ,GC] at j
    rcases Fo.mp q with z | z
    ·subst z;simp
    ·have:x.1≠t.1:=fun e=>j.1 (by rw [e];exact Fy z)
     rw [HP (by simpa using this)]
     exact ih j.2 z
 rw [this];rfl
theorem xc {L:List Tm} (j:(L.map (·.1)).Nodup):qY (L.map kcD)=L.map kcD:=by
 have g:∀ (r l:List Tm),(((l++r).map (·.1)).Nodup)->(r.map kcD).foldl (fun a kv=>bJ a kv.1 kv.2) (l.map kcD)=(l++r).map kcD:=by
  intro r
  induction r with
  | nil=>intro l _;simp
  | cons t r ih =>
    intro l h;rw [FJ,Jb];have e:bJ (l.map kcD) (kcD t).1 (kcD t).2=(l++[t]).map kcD:=by
     show bJ (l.map kcD) (k3D t.1) (.int t.2)=_;rw [og];unfold oe;rw [if_neg];intro z;obtain ⟨p,q,e⟩:=HW.mp z;rw [GO,Ic] at h;exact h.2.2 _ (Fy q) _ (Fy (Gd ..)) (of_decide_eq_true e)
    rw [e,ih (l++[t]) (by rw [Ft];exact h)]
    rw [Ft];rfl
 have:=g L [] (by simpa using j)
 simpa [qY] using this
theorem lL (k:K3):bK (k3D k)=true:=rfl
theorem IsTask.full {ts rs:List Tm} (h:IsTask ts rs) (B:(ts.map (·.1)).Nodup) (G:∀ t∈ts,t.2≠0):rs.Perm ts:=by
 have nd:∀ {l:List Tm},(l.map (·.1)).Nodup->l.Nodup:=fun {l} g=>by
  rw [GJ] at g ⊢;rw [G7] at g;exact g.imp fun {a b} hab e=>hab (by rw [e])
 refine (Kw (nd h.nodup) (nd B)).mpr fun t=>⟨fun j=>h.sub B j,fun j => ?_⟩;have F:Mi.cf rs t.1=t.2:=by rw [h.cf,gi B j]
 by_cases e:∃ r∈rs,r.1=t.1
 ·obtain ⟨r,q,er⟩:=e;have:=gi h.nodup q;rw [er,F] at this;have e2:r=t:=L3 er this.symm;rw [<- e2];exact q
 ·exfalso
  exact G t j (by rw [<- F];exact ki fun r q z=>e ⟨r,q,z⟩)
end
section
open PySem PySem.Spec PyProof.Rows L2.Srt
variable {T:List FD}
noncomputable def idx (l:List Int):List (Int×Int):=l.mapIdx fun i x=>((i:Nat),x)
noncomputable def nz (l:List Int):List (Int×Int):=(idx l).filter fun q => !(q.2==0)
noncomputable def pD (q:Int×Int):D := .tup [.int q.1, .int q.2]
theorem ko {l:List Int}:(idx l).length=l.length:=by simp [idx]
theorem eJ {l:List Int}:(nz l).length<=l.length:=by
 unfold nz;exact Ho (GG _ _) (by rw [ko];exact Fl _)
theorem oh {l:List Int}:eY (l.map .int)=(idx l).map pD:=by
 unfold eY idx;apply JB;intro j;simp only [LU,FX]
 cases l[j]? <;> rfl
noncomputable def gk (xp xn:Str) (s:Stmt):FD:=⟨"_law_nonzero",s,[xp],1,
 (.cons (.ret (.comp [none,none] ["_law_place",xn] (.last (.enum (.var 0)) (.tup (.cons (.name 0) (.cons (.name 1) .nil))) (.cons (.cmp .ne (.var 1) (.int 0)) .nil) (.tup (.cons (.var 0) (.cons (.var 1) .nil))))))
 .nil)⟩
theorem rN {f:Nat} {xp xn:Str} {s:Stmt} (hf:T[f]? = some (gk xp xn s)) {n:Nat} (G : 1<=n) {l:List Int} (J:l.length<=10000000) {M:Mem} {Q:QD} (q:∀ p,M p=none->Q (.ref p) (ag M p (.lst ((nz l).map pD)))):phi T n f [.tup (l.map .int)] M Q:=by
 refine ao (by lia) hf rfl (ρ := [some _]) rfl ?_
 unfold gk;walk_at "st";rw [oh];refine aG (f:=pD) (ys:=idx l) (I:=fun r ρ M' acc=>(∃ o0 z, ρ = [o0,z])/\M'=M/\acc=(r.filter fun q => !(q.2==0)).map pD) rfl ⟨⟨_,_,rfl⟩,rfl,rfl⟩ (fun _ _ _ _ _=>by first | rfl | trivial) ?_ ?_
 ·rintro l' x r ρ M1 acc e ⟨⟨o0,z,rfl⟩,rfl,rfl⟩;refine ⟨_,rfl,fun N' j => ?_⟩;have B:=am e;rw [ko] at B;have F:(l'.filter fun q => !(q.2==0)).length<=l'.length:=GG _ _;walk_at "wp"
  by_cases hz:x.2=0
  ·rw [if_neg (by simp [hz])]
   refine j _ _ _ ⟨⟨_,_,rfl⟩,rfl, ?_⟩;rw [H9,Hd (by simp [hz])];simp
  ·rw [if_pos (by simp [hz])]
   refine ⟨by rw [Fb];lia,by rw [Fd,Fb];lia,j _ _ _ ⟨⟨_,_,rfl⟩,rfl, ?_⟩⟩
   rw [H9,Hc (by simp [hz])];simp [pD]
 ·rintro ρ M1 acc ⟨⟨o0,z,rfl⟩,rfl,rfl⟩ p hp;exact q p hp
noncomputable def bo (i a j b:Int) (zs:List (Int×Int)):List Tm:=zs.map fun z=>((z.1,i,j),a*b*z.2)
noncomputable def bV (i a:Int) (ys zs:List (Int×Int)):List Tm:=ys.flatMap fun y=>bo i a y.1 y.2 zs
noncomputable def cA (xs ys zs:List (Int×Int)):List Tm:=xs.flatMap fun x=>bV x.1 x.2 ys zs
noncomputable def e7 (p:Pr):List Tm:=cA (nz p.1) (nz p.2.1) (nz p.2.2)
noncomputable def aM (ps:List Pr):List Tm:=ps.flatMap e7
theorem oi {i a j b:Int} {zs:List (Int×Int)}:(bo i a j b zs).length=zs.length:=by simp [bo]
theorem oj {i a:Int} {ys zs:List (Int×Int)}:(bV i a ys zs).length=ys.length*zs.length:=by
 unfold bV
 induction ys with
 | nil=>simp
 | cons y ys ih=>rw [Ie,Fk,ih,oi,GQ,Hr];lia
theorem iG {xs ys zs:List (Int×Int)}:(cA xs ys zs).length=xs.length*(ys.length*zs.length):=by
 unfold cA
 induction xs with
 | nil=>simp
 | cons y ys ih=>rw [Ie,Fk,ih,oj,GQ,Hr];lia
noncomputable def oo (xs:Str) (s:Stmt) (fz:Nat):FD:=⟨"_law_sums",s,[xs, "_law_found", "_law_l", "_law_r", "_law_o", "_law_rights", "_law_outs", "_law_i", "_law_a", "_law_j", "_law_b", "_law_k", "_law_c"],1,
 (.cons (.asg (.name 1) (.dnew true))
 (.cons (.for (.tup (.cons (.name 2) (.cons (.name 3) (.cons (.name 4) .nil)))) (.seq (.ix (.var 0) (.int 3))) (.cons (.asg (.name 5) (.call fz (.cons (.var 3) .nil)))
 (.cons (.asg (.name 6) (.call fz (.cons (.var 4) .nil)))
 (.cons (.for (.tup (.cons (.name 7) (.cons (.name 8) .nil))) (.seq (.call fz (.cons (.var 2) .nil))) (.cons (.for (.tup (.cons (.name 9) (.cons (.name 10) .nil))) (.seq (.var 5)) (.cons (.for (.tup (.cons (.name 11) (.cons (.name 12) .nil))) (.seq (.var 6)) (.cons (.put (.var 1) (.tup (.cons (.var 11) (.cons (.var 7) (.cons (.var 9) .nil)))) (.bin .add (.dget (.var 1) (.tup (.cons (.var 11) (.cons (.var 7) (.cons (.var 9) .nil)))) (.int 0)) (.bin .mul (.bin .mul (.var 8) (.var 10)) (.var 12))))
 .nil))
 .nil))
 .nil))
 .nil))))
 (.cons (.frz 1 (.ret (.blt .dict (.cons (.comp [none,(some 1)] ["_law_place", "_law_found"] (.last (.keys (.var 1)) (.name 0) (.cons (.cmp .ne (.ix (.var 1) (.var 0)) (.int 0)) .nil) (.tup (.cons (.var 0) (.cons (.ix (.var 1) (.var 0)) .nil))))) .nil))))
 .nil)))⟩
def Bm (T:List FD) (n f:Nat):Prop := ∀ {l:List Int} {M:Mem} {Q:QD},l.length<=10000000->(∀ p,M p=none->Q (.ref p) (ag M p (.lst ((nz l).map pD))))->phi T n f [.tup (l.map .int)] M Q
structure rO (p:Pr):Prop where
 b1:Big p.1
 b2:Big p.2.1
 b3:Big p.2.2
 l1:p.1.length<=100
 l2:p.2.1.length<=100
 l3:p.2.2.length<=100
structure IsSum (ps:List Pr) (L:List Tm):Prop where
 nd:(L.map (·.1)).Nodup
 nz:∀ t∈L,t.2≠0
 cf:∀ k,cf L k=cf (aM ps) k
def Od (d:Addr) (M M':Mem):Prop := ∀ a,a≠d->M' a=M a
theorem Od.refl {d:Addr} {M:Mem}:Od d M M:=fun _ _=>rfl
theorem Od.trans {d:Addr} {M M' M'':Mem} (h:Od d M M') (g:Od d M' M''):Od d M M'':=fun a n=>(g a n).trans (h a n)
theorem Od.upd {d:Addr} {M M':Mem} {o:O} (h:Od d M M'):Od d M (ag M' d o):=fun a n=>(ak n).trans (h a n)
noncomputable def xY:MSs := .cons (.put (.var 1) (.tup (.cons (.var 11) (.cons (.var 7) (.cons (.var 9) .nil)))) (.bin .add (.dget (.var 1) (.tup (.cons (.var 11) (.cons (.var 7) (.cons (.var 9) .nil)))) (.int 0)) (.bin .mul (.bin .mul (.var 8) (.var 10)) (.var 12)))) .nil
noncomputable def rP:MSs := .cons (.for (.tup (.cons (.name 11) (.cons (.name 12) .nil))) (.seq (.var 6)) xY) .nil
noncomputable def rQ:MSs := .cons (.for (.tup (.cons (.name 9) (.cons (.name 10) .nil))) (.seq (.var 5)) rP) .nil
noncomputable abbrev bd (x:Int):Prop := -1000000000000<=x/\x<=1000000000000
theorem Cf {Φ:Phi} {v0 v2 O v4 U B G:Option D} {d po:Addr} {i a j b:Int} {zs:List (Int×Int)} {pre:List Tm} {M:Mem} {E:aS} (J:M po=some (.lst (zs.map pD))) (Y:po≠d) (hd:M d=some (.dct true ((tset pre).map kcD))) (hl:pre.length+zs.length<=10000000) (ha:bd a) (hb:bd b)  (hc:∀ z∈zs,bd z.2)
 (q:∀ M' B G,Od d M M'->M' d=some (.dct true ((tset (pre++bo i a j b zs)).map kcD))->E.nx [v0,some (.ref d),v2,O,v4,U,some (.ref po),some (.int i),some (.int a),some (.int j),some (.int b),B,G] M') :
 wSs Φ rP E [v0,some (.ref d),v2,O,v4,U,some (.ref po),some (.int i),some (.int a),some (.int j),some (.int b),B,G] M:=by
 unfold rP;walk_at "st";refine ⟨_,ae J, ?_⟩;refine aQ (f:=pD) (ys:=zs) (I:=fun l ρ M' => ∃ B G, ρ = [v0,some (.ref d),v2,O,v4,U,some (.ref po),some (.int i),some (.int a),some (.int j),some (.int b),B,G]/\Od d M M'/\M' d=some (.dct true ((tset (pre++bo i a j b l)).map kcD))) rfl ⟨_,_,rfl,Od.refl,by simpa [bo] using hd⟩ (fun l ρ M' ⟨_,_,_,g,_⟩=>ae ((g po Y).trans J)) ?_ ?_
 ·rintro l z r ρ M1 e ⟨B,G,rfl,g1,L⟩;refine ⟨_,rfl,fun F hF => ?_⟩;have D4:=am e;have hz:=hc z (by rw [e];simp)
  have Z:=fu (pre++bo i a j b l);rw [Fk,oi] at Z;unfold xY;rw [bO];walk_at "wp";refine ⟨⟨_,_,L⟩,by rw [Fb];lia,_,_,L,rfl,nT (by lia),kb (by lia), ?_⟩
  have ek:D.tup [D.int z.1,D.int i,D.int j]=k3D (z.1,i,j):=rfl;rw [ek,kj];have eg:((Ou (fun p:Tm=>D.int p.2) ((tset (pre++bo i a j b l)).find? fun p=>decide (p.1=(z.1,i,j)))).getD (.int 0)) = .int (((((tset (pre++bo i a j b l)).find? fun p=>decide (p.1=(z.1,i,j))).map (·.2)).getD 0)):=by
   cases (tset (pre++bo i a j b l)).find? fun p=>decide (p.1=(z.1,i,j)) <;> rfl
  rw [eg];walk_at "wp";refine ⟨by rw [Fb];lia,fq L rfl (by rw [Fd,Fb];lia) ?_⟩
  rw [qc (cy _)];refine hF _ _ ⟨_,_,rfl,g1.upd, ?_⟩;rw [ab,show bo i a j b (l++[z])=bo i a j b l++[((z.1,i,j),a*b*z.2)] by simp [bo], <- Ft,cj]
 ·rintro ρ M1 ⟨B,G,rfl,g1,L⟩;dsimp only;walk_at "wp";exact q _ _ _ g1 L
theorem Cg {Φ:Phi} {v0 v2 U v4 J G j B:Option D} {d pr po:Addr} {i a:Int} {ys zs:List (Int×Int)} {pre:List Tm} {M:Mem} {E:aS} (L:M pr=some (.lst (ys.map pD))) (Y:pr≠d) (Z:M po=some (.lst (zs.map pD))) (O:po≠d) (hd:M d=some (.dct true ((tset pre).map kcD))) (hl:pre.length+ys.length*zs.length<=10000000) (ha:bd a) (hb:∀ z∈ys,bd z.2) (hc:∀ z∈zs,bd z.2)
 (q:∀ M' J G j B,Od d M M'->M' d=some (.dct true ((tset (pre++bV i a ys zs)).map kcD))->E.nx [v0,some (.ref d),v2,U,v4,some (.ref pr),some (.ref po),some (.int i),some (.int a),J,G,j,B] M') :
 wSs Φ rQ E [v0,some (.ref d),v2,U,v4,some (.ref pr),some (.ref po),some (.int i),some (.int a),J,G,j,B] M:=by
 unfold rQ;walk_at "st";refine ⟨_,ae L, ?_⟩;refine aQ (f:=pD) (ys:=ys) (I:=fun l ρ M' => ∃ J G j B, ρ = [v0,some (.ref d),v2,U,v4,some (.ref pr),some (.ref po),some (.int i),some (.int a),J,G,j,B]/\Od d M M'/\M' d=some (.dct true ((tset (pre++bV i a l zs)).map kcD))) rfl ⟨_,_,_,_,rfl,Od.refl,by simpa [bV] using hd⟩ (fun l ρ M' ⟨_,_,_,_,_,g,_⟩=>ae ((g pr Y).trans L)) ?_ ?_
 ·rintro l y r ρ M1 e ⟨J,G,j,B,rfl,g1,hM⟩;refine ⟨_,rfl,fun F hF => ?_⟩;have D4:=am e;have hy:=hb y (by rw [e];simp)
  have hm:(l.length+1)*zs.length<=ys.length*zs.length:=Ig _ D4;rw [Hr] at hm;refine Cf ((g1 po O).trans Z) O hM (by rw [Fk,oj];lia) ha hy hc fun M2 j B g2 h2=>hF _ _ ⟨_,_,_,_,rfl,g1.trans g2, ?_⟩
  rw [h2,show bV i a (l++[y]) zs=bV i a l zs++bo i a y.1 y.2 zs by simp [bV],Ft]
 ·rintro ρ M1 ⟨J,G,j,B,rfl,g1,hM⟩;dsimp only;walk_at "wp";exact q _ _ _ _ _ g1 hM
theorem Ch {Φ:Phi} {v0 v2 Z v4:Option D} {d pr po pl:Addr} {xs ys zs:List (Int×Int)} {pre:List Tm} {M:Mem} {E:aS} {L O J j B G:Option D} (D4:M pl=some (.lst (xs.map pD))) (D5:pl≠d) (D6:M pr=some (.lst (ys.map pD))) (U:pr≠d) (D7:M po=some (.lst (zs.map pD))) (Y:po≠d) (hd:M d=some (.dct true ((tset pre).map kcD))) (hl:pre.length+xs.length*(ys.length*zs.length)<=10000000) (ha:∀ z∈xs,bd z.2) (hb:∀ z∈ys,bd z.2) (hc:∀ z∈zs,bd z.2)
 (q:∀ M' L O J j B G,Od d M M'->M' d=some (.dct true ((tset (pre++cA xs ys zs)).map kcD))->E.nx [v0,some (.ref d),v2,Z,v4,some (.ref pr),some (.ref po),L,O,J,j,B,G] M') :
 bn (jW (bw (bg 7) (bw (bg 8) eX))) (wSs Φ rQ) (fun M=>aC M (.ref pl)=some (xs.map pD)) E (xs.map pD) [v0,some (.ref d),v2,Z,v4,some (.ref pr),some (.ref po),L,O,J,j,B,G] M:=by
 refine aQ (f:=pD) (ys:=xs) (I:=fun l ρ M' => ∃ L O J j B G, ρ = [v0,some (.ref d),v2,Z,v4,some (.ref pr),some (.ref po),L,O,J,j,B,G]/\Od d M M'/\M' d=some (.dct true ((tset (pre++cA l ys zs)).map kcD))) rfl ⟨_,_,_,_,_,_,rfl,Od.refl,by simpa [cA] using hd⟩ (fun l ρ M' ⟨_,_,_,_,_,_,_,g,_⟩=>ae ((g pl D5).trans D4)) ?_ ?_
 ·rintro l x r ρ M1 e ⟨L,O,J,j,B,G,rfl,g1,hM⟩;refine ⟨_,rfl,fun F hF => ?_⟩;have D8:=am e;have hx:=ha x (by rw [e];simp)
  have hm:(l.length+1)*(ys.length*zs.length)<=xs.length*(ys.length*zs.length):=Ig _ D8;rw [Hr] at hm;refine Cg ((g1 pr U).trans D6) U ((g1 po Y).trans D7) Y hM (by rw [Fk,iG];lia) hx hb hc fun M2 J j B G g2 h2=>hF _ _ ⟨_,_,_,_,_,_,rfl,g1.trans g2, ?_⟩
  rw [h2,show cA (l++[x]) ys zs=cA l ys zs++bV x.1 x.2 ys zs by simp [cA],Ft]
 ·rintro ρ M1 ⟨L,O,J,j,B,G,rfl,g1,hM⟩;exact q _ _ _ _ _ _ _ g1 hM
theorem gm {l:List Int} (h:Big l):∀ z∈nz l,bd z.2:=fun z j=>by
 unfold nz at j;have j:=(Hh.mp j).1;unfold idx at j;obtain ⟨i,hi,e⟩:=Oa.mp j;rw [<- e];exact h _ (L8 hi)
theorem uQ {ps:List Pr} {p:Pr}:aM (ps++[p])=aM ps++e7 p:=by simp [aM]
theorem zJ {f fz:Nat} {xs:Str} {s:Stmt} (hf:T[f]? = some (oo xs s fz)) {n:Nat} (D4:Bm T (n - 1) fz) (hn : 1<=n) {x0 x1 x2:D} {p:Addr} {ps:List Pr} {M:Mem} {Q:QD} (hp:M p=some (.lst (ps.map prD))) (hl:(aM ps).length<=10000000) (hF:∀ p∈ps,rO p)
 (q:∀ (L:List Tm) d M',IsSum ps L->L.length<=10000000->Ge M M'->M d=none->M' d=some (.dct true (L.map kcD))->Q (.ref d) M'):phi T n f [.tup [x0,x1,x2, .ref p]] M Q:=by
 refine ao (by lia) hf rfl (ρ := [some _,none,none,none,none,none,none,none,none,none,none,none,none]) rfl ?_
 unfold oo;walk_at "st";intro d hd;have g0:=Ge.new (o := .dct true []) hd;have d0:=ab (M:=M) (a:=d) (o := .dct true []);generalize ag M d (.dct true [])=M0 at g0 d0 ⊢;walk_at "st";refine ⟨_,rfl,_,ae (g0 _ _ hp), ?_⟩;have Dh:p≠d:=fun z=>by rw [z,hd] at hp;cases hp
 refine aQ (f:=prD) (ys:=ps) (I:=fun l ρ M' => ∃ o2 o3 o4 o5 o6 o7 o8 o9 B G J, ρ = [some (.tup [x0,x1,x2, .ref p]),some (.ref d),o2,o3,o4,o5,o6,o7,o8,o9,B,G,J]/\Ge M M'/\M' d=some (.dct true ((tset (aM l)).map kcD))) rfl ⟨_,_,_,_,_,_,_,_,_,_,_,rfl,g0,d0⟩ (fun l ρ M' ⟨_,_,_,_,_,_,_,_,_,_,_,_,g,_⟩=>ae (g _ _ hp)) ?_ ?_
 ·rintro l x r ρ M1 e ⟨o2,o3,o4,o5,o6,o7,o8,o9,B,G,J,rfl,g1,j⟩;refine ⟨_,rfl,fun F D9 => ?_⟩;have hx:=hF x (by rw [e];simp)
  have Da:(aM l).length+(e7 x).length<=10000000:=by
   have:aM ps=aM l++e7 x++aM r:=by rw [e];simp [aM]
   rw [this,Fk,Fk] at hl;lia
  walk_at "st";refine D4 (by have:=hx.l2;lia) fun pr O => ?_
  have Db:pr≠d:=fun z=>by rw [z,j] at O;cases O
  have gr:=Ge.new (o := .lst ((nz x.2.1).map pD)) O;have er:=ab (M:=M1) (a:=pr) (o := .lst ((nz x.2.1).map pD));have j:=gr _ _ j;have g2:=g1.trans gr;generalize ag M1 pr (.lst ((nz x.2.1).map pD))=M2 at er j g2 ⊢;clear g1 gr O;walk_at "st";refine D4 (by have:=hx.l3;lia) fun po U => ?_
  have Dc:po≠d:=fun z=>by rw [z,j] at U;cases U
  have go:=Ge.new (o := .lst ((nz x.2.2).map pD)) U;have eo:=ab (M:=M2) (a:=po) (o := .lst ((nz x.2.2).map pD));have j:=go _ _ j;have er:=go _ _ er;have g3:=g2.trans go;generalize ag M2 po (.lst ((nz x.2.2).map pD))=M3 at er eo j g3 ⊢;clear g2 go U;walk_at "st";refine D4 (by have:=hx.l1;lia) fun pl Y => ?_
  have Dd:pl≠d:=fun z=>by rw [z,j] at Y;cases Y
  have gl:=Ge.new (o := .lst ((nz x.1).map pD)) Y;have el:=ab (M:=M3) (a:=pl) (o := .lst ((nz x.1).map pD));have j:=gl _ _ j;have er:=gl _ _ er;have eo:=gl _ _ eo;have g4:=g3.trans gl;generalize ag M3 pl (.lst ((nz x.1).map pD))=M4 at er eo el j g4 ⊢;clear g3 gl Y;refine ⟨_,ae el, ?_⟩;refine Ch el Dd er Db eo Dc j (by have:=iG (xs:=nz x.1) (ys:=nz x.2.1) (zs:=nz x.2.2);unfold e7 at Da;lia) (gm hx.b1) (gm hx.b2) (gm hx.b3) fun M5 o7 o8 o9 B G J g5 h5 => ?_
  walk_at "wp";refine D9 _ _ ⟨_,_,_,_,_,_,_,_,_,_,_,rfl,fun a o ea => ?_,by rw [h5,uQ];rfl⟩
  by_cases had:a=d
  ·subst had;rw [hd] at ea;cases ea
  ·rw [g5 a had];exact g4 _ _ ea
 ·rintro ρ M1 ⟨o2,o3,o4,o5,o6,o7,o8,o9,B,G,J,rfl,g1,j⟩;dsimp only;walk_at "st";refine q9 rfl j ?_;have fd:=ab (M:=M1) (a:=d) (o := .fdc ((tset (aM ps)).map kcD));have g2:Ge M (ag M1 d (.fdc ((tset (aM ps)).map kcD))):=g1.upd hd;have De:=Ho (fu (aM ps)) hl;have Z:=cy (aM ps);have D6:=qd (aM ps);generalize ag M1 d (.fdc ((tset (aM ps)).map kcD))=M2 at fd g2 ⊢;generalize tset (aM ps)=L at fd De Z D6;walk_at "wp";refine ⟨_,fd, ?_⟩;refine aG (f:=fun t:Tm=>k3D t.1) (ys:=L) (I:=fun l ρ M' acc=>(∃ o0, ρ = [o0,some (.ref d)])/\M'=M2/\acc=(l.filter fun t => !(t.2==0)).map fun t => .tup [k3D t.1, .int t.2]) (by rw [Gv];rfl) ⟨⟨_,rfl⟩,rfl,rfl⟩ (fun _ _ _ _ _=>trivial) ?_ ?_
  ·rintro l t r ρ M3 acc e ⟨⟨o0,rfl⟩,rfl,rfl⟩;refine ⟨_,rfl,fun N' D7 => ?_⟩;have Di:=am e;have ht:t∈L:=by rw [e];simp
   have Df:(l.filter fun t => !(t.2==0)).length<=l.length:=GG _ _;walk_at "wp";refine uH fd (lL _) (iF Z ht) ?_;walk_at "wp"
   by_cases hz:t.2=0
   ·rw [if_neg (by simp [hz])]
    refine D7 _ _ _ ⟨⟨_,rfl⟩,rfl, ?_⟩;rw [H9,Hd (by simp [hz])];simp
   ·rw [if_pos (by simp [hz])]
    refine uH fd (lL _) (iF Z ht) ?_;refine ⟨by rw [Fb];lia,by rw [Fd,Fb];lia,D7 _ _ _ ⟨⟨_,rfl⟩,rfl, ?_⟩⟩
    rw [H9,Hc (by simp [hz])];simp
  ·rintro ρ M3 acc ⟨⟨o0,rfl⟩,rfl,rfl⟩ p2 hp2;have Df:(L.filter fun t => !(t.2==0)).length<=L.length:=GG _ _;have D8:((L.filter fun t => !(t.2==0)).map (·.1)).Nodup:=Z.sublist (List.Sublist.map _ Mv);refine ⟨p2,(L.filter fun t => !(t.2==0)).map kcD,rfl,by rw [ab,Gv];rfl,fun kv Dg => ?_,by rw [Fd,Fb];lia,fun pf D5 => ?_⟩
   ·obtain ⟨t,_,rfl⟩:=Fw.mp Dg;exact lL _
   ·rw [xc D8];have g3:=g2.trans (Ge.new (o := .lst ((L.filter fun t => !(t.2==0)).map fun t=>D.tup [k3D t.1, .int t.2])) hp2);refine q (L.filter fun t => !(t.2==0)) pf _ ⟨D8,fun t ht => ?_,fun k=>by rw [xX];exact D6 k⟩ (by lia) (g3.trans (Ge.new D5)) ?_ ab
    ·have:=(Hh.mp ht).2;simpa using this
    ·cases hz:M pf with
     | none=>rfl
     | some o=>rw [g3 _ _ hz] at D5;cases D5
end
section
open PySem PySem.Spec PyProof.Rows L2.Srt
noncomputable def S1 (zs:List (Int×Int)) (k:Int):Int:=(zs.map fun z=>if z.1=k then z.2 else 0).sum
theorem bR {z:Int×Int} {zs:List (Int×Int)} {k:Int}:S1 (z::zs) k=(if z.1=k then z.2 else 0)+S1 zs k:=by simp [S1]
theorem qf {α:Type} {F : α -> List Tm} {k:K3}:∀ l:List α,cf (l.flatMap F) k=(l.map fun x=>cf (F x) k).sum
 | [] => rfl
 | x::l=>by rw [Ie,ci,qf l];simp
theorem kr {i a j b k i' j':Int}:∀ {zs:List (Int×Int)},cf (bo i a j b zs) (k,i',j')=if i=i'/\j=j' then a*b*S1 zs k else 0
 | [] => by simp [bo,dE,S1]
 | z::zs=>by
   rw [show bo i a j b (z::zs)=((z.1,i,j),a*b*z.2)::bo i a j b zs from rfl,aJ,kr,bR]
   by_cases h:i=i'/\j=j'
   ·obtain ⟨rfl,rfl⟩:=h
    by_cases q:z.1=k
    ·subst q;simp [Mj]
    ·have : ¬ ((z.1,i,j)=(k,i,j)):=fun e=>q (congrArg (·.1) e);rw [if_neg this,if_pos ⟨rfl,rfl⟩,if_pos ⟨rfl,rfl⟩,if_neg q];simp
   ·have : ¬ ((z.1,i,j)=(k,i',j')):=fun e=>h ⟨congrArg (·.2.1) e,congrArg (·.2.2) e⟩;rw [if_neg this,if_neg h,if_neg h];rfl
theorem qg {i a k i' j':Int} {zs:List (Int×Int)}:∀ {ys:List (Int×Int)},cf (bV i a ys zs) (k,i',j')=if i=i' then a*S1 ys j'*S1 zs k else 0
 | [] => by simp [bV,dE,S1]
 | y::ys=>by
   rw [show bV i a (y::ys) zs=bo i a y.1 y.2 zs++bV i a ys zs from by simp [bV],ci,qg,kr,bR]
   by_cases h:i=i'
   ·subst h
    by_cases j:y.1=j'
    ·subst j;simp [Mj,KP]
    ·rw [if_neg (fun e=>j e.2),if_pos rfl,if_pos rfl,if_neg j];simp
   ·rw [if_neg (fun e=>h e.1),if_neg h,if_neg h];rfl
theorem qh {k i' j':Int} {ys zs:List (Int×Int)}:∀ {xs:List (Int×Int)},cf (cA xs ys zs) (k,i',j')=S1 xs i'*S1 ys j'*S1 zs k
 | [] => by simp [cA,dE,S1]
 | x::xs=>by
   rw [show cA (x::xs) ys zs=bV x.1 x.2 ys zs++cA xs ys zs from by simp [cA],ci,qh,qg,bR]
   by_cases h:x.1=i'
   ·subst h;simp [KP]
   ·rw [if_neg h,if_neg h];simp
noncomputable def gz (l:List Int) (i:Int):Int:=if i < 0 then 0 else l.getD i.toNat 0
theorem uR {l:List Int} {i:Int} (h:i < 0):gz l i=0:=if_pos h
theorem uS {i:Int}:gz [] i=0:=by unfold gz;split <;> simp
theorem ku {x:Int} {l:List Int} {i:Int}:gz (x::l) i=if i=0 then x else gz l (i - 1):=by
 unfold gz
 by_cases h:i < 0
 ·rw [if_pos h,if_neg (by lia),if_pos (by lia)]
 ·rw [if_neg h]
  by_cases h0:i=0
  ·subst h0;simp
  ·rw [if_neg h0,if_neg (by lia)]
   obtain ⟨n,rfl⟩:∃ n:Nat,i=((n+1:Nat):Int):=⟨(i - 1).toNat,by lia⟩
   rw [show (((n+1:Nat):Int) - 1).toNat=n by lia,Gr]
   simp
theorem uT {a b:List Int}:∀ {i:Int},gz (a++b) i=if i < a.length then gz a i else gz b (i - a.length):=by
 induction a with
 | nil =>
   intro i
   by_cases h:i < 0
   ·rw [if_pos (by simpa using h),K0,uR h,uR h]
   ·rw [if_neg (by simpa using h)];simp
 | cons x a ih =>
   intro i;rw [L9,ku,ku,ih,GQ]
   by_cases h0:i=0
   ·subst h0;rw [if_pos rfl,if_pos rfl,if_pos (by lia)]
   ·rw [if_neg h0,if_neg h0]
    by_cases h:i < ((a.length+1:Nat):Int)
    ·rw [if_pos (by lia),if_pos h]
    ·rw [if_neg (by lia),if_neg h]
     congr 1;lia
theorem jC {l:List Int} {i:Int} (h:gz l i≠0) : 0<=i/\i < l.length:=by
 unfold gz at h
 by_cases hi:i < 0
 ·rw [if_pos hi] at h;exact absurd rfl h
 ·rw [if_neg hi] at h;refine ⟨by lia, ?_⟩
  by_cases hl:i.toNat < l.length
  ·lia
  ·rw [Gx,List.getElem?_eq_none (by lia)] at h;exact absurd rfl h
theorem dU {a b:List (Int×Int)} {k:Int}:S1 (a++b) k=S1 a k+S1 b k:=by simp [S1]
theorem gR {k:Int}:∀ zs:List (Int×Int),S1 (zs.filter fun q => !(q.2==0)) k=S1 zs k
 | [] => rfl
 | z::zs=>by
   rw [bR]
   by_cases h:z.2=0
   ·rw [Hd (by simp [h]),gR zs,h];simp
   ·rw [Hc (by simp [h]),bR,gR zs]
theorem jD (l:List Int) (k:Int):S1 (idx l) k=gz l k:=dF (P:=fun l=>S1 (idx l) k=gz l k) (by rw [uS];rfl) (fun l x ih=>by
 have e:idx (l++[x])=idx l++[(((l.length:Nat):Int),x)]:=by simp [idx,List.mapIdx_append]
 rw [e,dU,ih,uT,bR];simp only [S1,Kd,List.sum_nil]
 by_cases h:k < l.length
 ·rw [if_pos h,if_neg (by lia)];lia
 ·rw [if_neg h,ku,uS];have z:gz l k=0:=by
   cases Decidable.em (gz l k=0) with
   | inl h=>exact h
   | inr h'=>exact absurd (jC h').2 h
  rw [z]
  by_cases e:(l.length:Int)=k
  ·rw [if_pos e,if_pos (by lia)];lia
  ·rw [if_neg e,if_neg (by lia)];rfl) l
theorem zK {p:Pr} {k i j:Int}:cf (e7 p) (k,i,j)=gz p.1 i*gz p.2.1 j*gz p.2.2 k:=by
 unfold e7;rw [qh];unfold nz;rw [gR,gR,gR,jD,jD,jD]
noncomputable def Tn (ps:List Pr) (k i j:Int):Int:=(ps.map fun p=>gz p.1 i*gz p.2.1 j*gz p.2.2 k).sum
theorem zL {ps:List Pr} {k i j:Int}:cf (aM ps) (k,i,j)=Tn ps k i j:=by
 unfold aM Tn;rw [qf];congr 1;exact HH fun p _=>zK
theorem uU {a b:List Pr} {k i j:Int}:Tn (a++b) k i j=Tn a k i j+Tn b k i j:=by simp [Tn]
theorem eK {p:Pr} {a:List Pr} {k i j:Int}:Tn (p::a) k i j=gz p.1 i*gz p.2.1 j*gz p.2.2 k+Tn a k i j:=by simp [Tn]
theorem uV {q B L2:Nat} {k i j:Int}:∀ {us:List Pr},(∀ u∈us,u.1.length=q/\u.2.1.length=B/\u.2.2.length=L2)->Tn us k i j≠0->(0<=k/\k < L2)/\(0<=i/\i < q)/\(0<=j/\j < B)
 | [],_,h=>absurd (by simp [Tn]) h
 | u::us,F,h=>by
   obtain ⟨e0,e1,e2⟩:=F u (by simp)
   rw [eK] at h
   by_cases z:gz u.1 i*gz u.2.1 j*gz u.2.2 k=0
   ·rw [z,Int.zero_add] at h;exact uV (fun v G=>F v (by simp [G])) h
   ·have a1:gz u.1 i≠0:=fun e=>z (by rw [e];simp)
    have a2:gz u.2.1 j≠0:=fun e=>z (by rw [e];simp)
    have J:gz u.2.2 k≠0:=fun e=>z (by rw [e];simp)
    have:=jC a1;have:=jC a2;have:=jC J;lia
end
section
noncomputable abbrev K2:=Int×Int
noncomputable def k2D (k:K2):D := .tup [.int k.1, .int k.2]
noncomputable def raD (r:K2×Addr):D×D:=(k2D r.1, .ref r.2)
theorem qi {a b:K2} (h:k2D a=k2D b):a=b:=by
 obtain ⟨a1,a2⟩:=a;obtain ⟨b1,b2⟩:=b;simp only [k2D,D.tup.injEq,LC,D.int.injEq,and_true] at h;rw [h.1,h.2]
theorem dG {α β:Type} {f : α -> β}:∀ {l:List α},(l.map f).Nodup -> ∀ {x y : α},x∈l->y∈l->f x=f y->x=y
 | [],_,x,_,hx,_,_=>by cases hx
 | z::l,h,x,y,hx,B,e=>by
   rw [FJ,GC] at h
   rcases Fo.mp hx with rfl | j <;> rcases Fo.mp B with rfl | q
   ·rfl
   ·exact absurd (Fw.mpr ⟨y,q,e.symm⟩) h.1
   ·exact absurd (Fw.mpr ⟨x,j,e⟩) h.1
   ·exact dG h.2 j q e
structure RI (d:Addr) (N:Nat) (M:Mem) (R:List (K2×Addr)) (g:K2->List Int):Prop where
 dct:M d=some (.dct true (R.map raD))
 keys:(R.map (·.1)).Nodup
 ads:(R.map (·.2)).Nodup
 nd:∀ r∈R,r.2≠d
 row:∀ r∈R,M r.2=some (.lst ((g r.1).map .int))
 ln:∀ k,(g k).length=N
 out:∀ k,k∉R.map (·.1)->g k=Fm N 0
structure Run (d:Addr) (R:List (K2×Addr)) (M:Mem) (R':List (K2×Addr)) (M':Mem):Prop where
 ex:∀ r∈R',r∈R∨M r.2=none
 kp:∀ b o,b≠d->b∉R.map (·.2)->M b=some o->M' b=some o
theorem Run.refl {d:Addr} {R:List (K2×Addr)} {M:Mem}:Run d R M R M:=⟨fun r h => .inl h,fun _ _ _ _ e=>e⟩
theorem kw {k:K2}:∀ R:List (K2×Addr),dget (R.map raD) (k2D k)=(R.find? fun r=>decide (r.1=k)).map fun r => .ref r.2
 | [] => rfl
 | r::R=>by
   have ih:=kw (k:=k) R;unfold dget at ih ⊢;rw [FJ,GL,GL]
   by_cases h:r.1=k
   ·have e:decide ((raD r).1=k2D k)=true:=decide_eq_true (by rw [<- h];rfl)
    rw [e,decide_eq_true h];rfl
   ·have e:decide ((raD r).1=k2D k)=false:=decide_eq_false (fun z=>h (qi z));rw [e,decide_eq_false h];exact ih
theorem zM {k:K2} {R:List (K2×Addr)} (h:k∉R.map (·.1)):dget (R.map raD) (k2D k)=none:=by
 rw [kw,Kv.mpr fun r j=>by
  intro z;exact h (Fw.mpr ⟨r,j,of_decide_eq_true z⟩)]
 rfl
theorem qj {k:K2} {R:List (K2×Addr)} (h:k∈R.map (·.1)):∃ a,(k,a)∈R/\dget (R.map raD) (k2D k)=some (.ref a):=by
 cases e:R.find? fun r=>decide (r.1=k) with
 | none =>
   obtain ⟨r,j,q⟩:=Fw.mp h;exact absurd (decide_eq_true q) (Kv.mp e r j)
 | some r =>
   have h1:=O9 e;have h2:=Kz e;have z:r.1=k:=of_decide_eq_true h1;obtain ⟨rk,ra⟩:=r
   cases z
   exact ⟨ra,h2,by rw [kw,e];rfl⟩
theorem zN {k:K2} {R:List (K2×Addr)} {a:Addr} (h:k∉R.map (·.1)):bJ (R.map raD) (k2D k) (.ref a)=(R++[(k,a)]).map raD:=by
 unfold bJ;rw [if_neg,GO]
 ·rfl
 ·intro z;obtain ⟨x,hx,j⟩:=HW.mp z;obtain ⟨r,q,rfl⟩:=Fw.mp hx;exact h (Fw.mpr ⟨r,q,qi (of_decide_eq_true j)⟩)
theorem RI.ge {d:Addr} {N:Nat} {M M':Mem} {R:List (K2×Addr)} {g:K2->List Int} (h:RI d N M R g) (x:Ge M M'):RI d N M' R g:=⟨x _ _ h.dct,h.keys,h.ads,h.nd,fun r j=>x _ _ (h.row r j),h.ln,h.out⟩
theorem Run.trans {d:Addr} {N:Nat} {R R' R'':List (K2×Addr)} {M M' M'':Mem} {g g':K2->List Int} (h:Run d R M R' M') (h2:Run d R' M' R'' M'') (i:RI d N M' R' g') (sub:∀ r∈R,r∈R'):Run d R M R'' M'':=by
 refine ⟨fun r B => ?_,fun b o n m e => ?_⟩
 ·rcases h2.ex r B with j | j
  ·exact h.ex r j
  ·by_cases z:r.2∈R.map (·.2)
   ·obtain ⟨r',q,e⟩:=Fw.mp z;rw [<- e,i.row r' (sub r' q)] at j;cases j
   ·refine .inr ?_
    cases e:M r.2 with
    | none=>rfl
    | some o =>
      by_cases zd:r.2=d
      ·rw [zd,i.dct] at j;cases j
      ·rw [h.kp _ _ zd z e] at j;cases j
 ·refine h2.kp b o n (fun z => ?_) (h.kp b o n m e);obtain ⟨r',q,e'⟩:=Fw.mp z
  rcases h.ex r' q with j | j
  ·exact m (Fw.mpr ⟨r',j,e'⟩)
  ·rw [e',e] at j;cases j
theorem RI.new {d:Addr} {N:Nat} {M:Mem} {R:List (K2×Addr)} {g:K2->List Int} (h:RI d N M R g) {k:K2} (L:k∉R.map (·.1)) {G:Mem} {a:Addr} (ga:Ge M G) (q:M a=none) (h1:G a=some (.lst ((Fm N (0:Int)).map .int))) :
 RI d N (ag G d (.dct true ((R++[(k,a)]).map raD))) (R++[(k,a)]) g/\Run d R M (R++[(k,a)]) (ag G d (.dct true ((R++[(k,a)]).map raD))):=by
 have B:a≠d:=fun z=>by rw [z,h.dct] at q;cases q
 refine ⟨⟨ab, ?_, ?_, ?_, ?_,h.ln, ?_⟩,⟨?_, ?_⟩⟩
 ·rw [GO,Ic];exact ⟨h.keys,by simp,fun x hx y F=>by simp at F;subst F;exact fun z=>L (z ▸ hx)⟩
 ·rw [GO,Ic];refine ⟨h.ads,by simp,fun x hx y F => ?_⟩
  simp at F;subst F;intro z;obtain ⟨r,j,rfl⟩:=Fw.mp hx;rw [<- z,h.row r j] at q;cases q
 ·intro r j
  rcases FE.mp j with j | j
  ·exact h.nd r j
  ·simp at j;subst j;exact B
 ·intro r j
  rcases FE.mp j with j | j
  ·rw [ak (h.nd r j)];exact ga _ _ (h.row r j)
  ·simp at j;subst j;rw [ak B,h1,h.out k L]
 ·intro k' J;exact h.out k' fun z=>J (by rw [GO];exact Gb _ z)
 ·intro r j
  rcases FE.mp j with j | j
  ·exact .inl j
  ·simp at j;subst j;exact .inr q
 ·intro b o n m e;rw [ak n];exact ga _ _ e
theorem RI.put {d:Addr} {N:Nat} {M:Mem} {R:List (K2×Addr)} {g:K2->List Int} (h:RI d N M R g) {k:K2} {a:Addr} (q:(k,a)∈R) {row:List Int} (F:row.length=N) :
 RI d N (ag M a (.lst (row.map .int))) R (fun k'=>if k'=k then row else g k')/\Run d R M R (ag M a (.lst (row.map .int))):=by
 refine ⟨⟨?_,h.keys,h.ads,h.nd, ?_, ?_, ?_⟩,⟨fun r h => .inl h, ?_⟩⟩
 ·rw [ak (fun z=>h.nd _ q z.symm)];exact h.dct
 ·intro r j
  by_cases e:r=(k,a)
  ·subst e;rw [ab,if_pos rfl]
  ·have na:r.2≠a:=fun z=>e (dG h.ads j q z);have nk:r.1≠k:=fun z=>e (dG h.keys j q z);rw [ak na,if_neg nk];exact h.row r j
 ·intro k'
  split
  ·exact F
  ·exact h.ln k'
 ·intro k' B;rw [if_neg (fun z=>B (Fw.mpr ⟨_,q,z.symm⟩))];exact h.out k' B
 ·intro b o n m e;rw [ak (fun z=>m (Fw.mpr ⟨_,q,z.symm⟩))];exact e
end
section
open PySem PySem.Spec PyProof.Rows L2.Srt
variable {T:List FD}
noncomputable def cH (s:Stmt):FD:=⟨"filled",s,["part"],1,
 (.cons (.ret (.comp [none,none] ["at", "x"] (.last (.enum (.var 0)) (.tup (.cons (.name 0) (.cons (.name 1) .nil))) (.cons (.cmp .ne (.var 1) (.int 0)) .nil) (.tup (.cons (.var 0) (.cons (.var 1) .nil))))))
 .nil)⟩
theorem dW {f:Nat} {s:Stmt} (hf:T[f]? = some (cH s)) {n:Nat} (G : 1<=n) {x:D} {l:List Int} (J:l.length<=1000000) {M:Mem} {Q:QD} (hx:aC M x=some (l.map .int)) (q:∀ p,M p=none->Q (.ref p) (ag M p (.lst ((nz l).map pD)))):phi T n f [x] M Q:=by
 refine ao (by lia) hf rfl (ρ := [some _]) rfl ?_
 unfold cH;walk_at "st";refine ⟨_,hx, ?_⟩;rw [oh];refine aG (f:=pD) (ys:=idx l) (I:=fun r ρ M' acc=>(∃ o0 z, ρ = [o0,z])/\M'=M/\acc=(r.filter fun q => !(q.2==0)).map pD) rfl ⟨⟨_,_,rfl⟩,rfl,rfl⟩ (fun _ _ _ _ h=>by rw [h.2.1];exact hx) ?_ ?_
 ·rintro l' y r ρ M1 acc e ⟨⟨o0,z,rfl⟩,rfl,rfl⟩;refine ⟨_,rfl,fun N' j => ?_⟩;have B:=am e;rw [ko] at B;have F:(l'.filter fun q => !(q.2==0)).length<=l'.length:=GG _ _;walk_at "wp"
  by_cases hz:y.2=0
  ·rw [if_neg (by simp [hz])]
   refine j _ _ _ ⟨⟨_,_,rfl⟩,rfl, ?_⟩;rw [H9,Hd (by simp [hz])];simp
  ·rw [if_pos (by simp [hz])]
   refine ⟨by rw [Fb];lia,by rw [Fd,Fb];lia,j _ _ _ ⟨⟨_,_,rfl⟩,rfl, ?_⟩⟩
   rw [H9,Hc (by simp [hz])];simp [pD]
 ·rintro ρ M1 acc ⟨⟨o0,z,rfl⟩,rfl,rfl⟩ p hp;exact q p hp
theorem Bn {l:List Int} {v:Int} {k:Nat} (j:k < l.length) {i:Int}:gz (l.set k v) i=if i=k then v else gz l i:=by
 unfold gz
 by_cases h:i < 0
 ·rw [if_pos h,if_pos h,if_neg (by lia)]
 ·rw [if_neg h,if_neg h,Gx,Gx]
  by_cases e:i=k
  ·subst e;rw [Gr,HJ j,if_pos rfl];rfl
  ·rw [IM (by lia),if_neg e]
theorem Bo {l:List Int} {k:Nat} (j:k < l.length):l[k]? = some (gz l k):=by
 unfold gz;rw [if_neg (by lia),Gr,Gx,Fe j];rfl
theorem uW {n:Nat} {i:Int}:gz (Fm n 0) i=0:=by
 unfold gz
 split
 ·rfl
 ·rw [Gx]
  cases e:(Fm n (0:Int))[i.toNat]? with
  | none=>rfl
  | some x=>exact List.eq_of_mem_replicate (FT e)
noncomputable def rR:MSs := .cons (.augI (.var 15) (.var 17) .add (.bin .mul (.var 18) (.var 16))) .nil
theorem Ci {Φ:Phi} {v0 v1 v2 v3 v4 v5 v6 v7 v8 v10 v11 J L O B G:Option D} {a po:Addr} {pr:Int} {N:Nat} {row:List Int} {zs:List (Int×Int)} {M:Mem} {E:aS} (Y:M po=some (.lst (zs.map pD))) (D4:po≠a) (ha:M a=some (.lst (row.map .int))) (hl:row.length=N) (hz:∀ z∈zs,0<=z.1/\z.1 < N/\bd z.2)
 (q:∀ row' B G,row'.length=N->(∀ k,gz row' k=gz row k+pr*S1 zs k)->E.nx [v0,v1,v2,v3,v4,v5,v6,v7,v8,some (.ref po),v10,v11,J,L,O,some (.ref a),some (.int pr),B,G] (ag M a (.lst (row'.map .int)))) :
 wSs Φ (.cons (.for (.tup (.cons (.name 17) (.cons (.name 18) .nil))) (.seq (.var 9)) rR) .nil) E [v0,v1,v2,v3,v4,v5,v6,v7,v8,some (.ref po),v10,v11,J,L,O,some (.ref a),some (.int pr),B,G] M:=by
 walk_at "st";refine ⟨_,ae Y, ?_⟩;refine aQ (f:=pD) (ys:=zs) (I:=fun l ρ M' => ∃ B G row', ρ = [v0,v1,v2,v3,v4,v5,v6,v7,v8,some (.ref po),v10,v11,J,L,O,some (.ref a),some (.int pr),B,G]/\M'=ag M a (.lst (row'.map .int))/\row'.length=N /\ ∀ k,gz row' k=gz row k+pr*S1 l k) rfl ⟨_,_,row,rfl,(uJ ha).symm,hl,fun k=>by simp [S1]⟩ (fun l ρ M' ⟨_,_,_,_,e,_⟩=>by rw [e];exact ae (by rw [ak D4];exact Y)) ?_ ?_
 ·rintro l z r ρ M1 e ⟨B,G,row',rfl,rfl,U,hg⟩;refine ⟨_,rfl,fun F hF => ?_⟩;obtain ⟨z0,z1,z2⟩:=hz z (by rw [e];simp)
  obtain ⟨kn,ek⟩:∃ k:Nat,z.1=k:=⟨z.1.toNat,by lia⟩
  have Z:kn < row'.length:=by lia
  unfold rR;rw [bO];walk_at "wp";refine ⟨a,_,_, .int (gz row' kn),rfl,rfl,ab, ?_, ?_⟩
  ·rw [ek];refine kg ?_;rw [FX,Bo Z];rfl
  walk_at "wp";refine ⟨nT (by unfold bd at z2;lia), ?_⟩
  rw [ek];refine bC ab (j:=kn) ?_ ?_
  ·unfold ixN;rw [Fd,if_pos (by lia),if_pos (by lia)];simp
  rw [uI];refine hF _ _ ⟨_,_,row'.set kn (gz row' kn+z.2*pr),rfl,by rw [List.map_set],by rw [O5];exact U,fun k => ?_⟩
  rw [Bn Z,dU,bR,show S1 [] k=0 from rfl,Lv,ek,Mj, <- MP, <- hg]
  by_cases ekk:k=kn
  ·rw [if_pos ekk,if_pos ekk.symm,ekk,Nz]
  ·rw [if_neg ekk,if_neg (fun h=>ekk h.symm)];lia
 ·rintro ρ M1 ⟨B,G,row',rfl,rfl,U,hg⟩;dsimp only;walk_at "wp";exact q row' _ _ U hg
theorem Run.keep {d:Addr} {N:Nat} {M M':Mem} {R R':List (K2×Addr)} {g:K2->List Int} (h:Run d R M R' M') (i:RI d N M R g) {a:Addr} {ds:List D} (e:M a=some (.lst ds)) (j:a∉R.map (·.2)):M' a=some (.lst ds) :=
 h.kp a _ (fun z=>by rw [z,i.dct] at e;cases e) j e
noncomputable def rS:MSs:=(.cons (.ite (.cmp .ninD (.tup (.cons (.var 11) (.cons (.var 13) .nil))) (.var 5)) (.cons (.put (.var 5) (.tup (.cons (.var 11) (.cons (.var 13) .nil))) (.bin .mul (.lst (.cons (.int 0) .nil)) (.var 3)))
 .nil) .nil)
 (.cons (.par 15 16 (.ix (.var 5) (.tup (.cons (.var 11) (.cons (.var 13) .nil)))) (.bin .mul (.var 12) (.var 14)))
 (.cons (.for (.tup (.cons (.name 17) (.cons (.name 18) .nil))) (.seq (.var 9)) rR)
 .nil)))
theorem gU {d:Addr} {N:Nat} {M M':Mem} {R R':List (K2×Addr)} {g:K2->List Int} (h:Run d R M R' M') (i:RI d N M R g) {a:Addr} {o:O} (e:M a=some o) (j:a∉R.map (·.2)):a∉R'.map (·.2):=fun z=>by
 obtain ⟨r,q,rfl⟩:=Fw.mp z
 rcases h.ex r q with h1 | h1
 ·exact j (Fw.mpr ⟨r,h1,rfl⟩)
 ·rw [h1] at e;cases e
theorem CS {Φ:Phi} {v0 v1 v2 v4 v6 v7 v8 v10 G J B F:Option D} {d po:Addr} {i x j y:Int} {N:Nat} {R:List (K2×Addr)} {g:K2->List Int} {zs:List (Int×Int)} {M:Mem} {E:aS} (hN:N<=1000) (I:RI d N M R g) (U:M po=some (.lst (zs.map pD))) (Y:po∉R.map (·.2)) (hl:R.length<=1000000) (hx:bd x) (hz:∀ z∈zs,0<=z.1/\z.1 < N/\bd z.2)
 (q:∀ M' R' g' G J B F,RI d N M' R' g'->Run d R M R' M'->(∀ r∈R,r∈R')->R'.length<=R.length+1->(∀ k i' j',gz (g' (i',j')) k=gz (g (i',j')) k+if i'=i/\j'=j then x*y*S1 zs k else 0)->E.nx [v0,v1,v2,some (.int N),v4,some (.ref d),v6,v7,v8,some (.ref po),v10,some (.int i),some (.int x),some (.int j),some (.int y),G,J,B,F] M') :
 wSs Φ rS E [v0,v1,v2,some (.int N),v4,some (.ref d),v6,v7,v8,some (.ref po),v10,some (.int i),some (.int x),some (.int j),some (.int y),G,J,B,F] M:=by
 unfold rS;have ek:D.tup [D.int i,D.int j]=k2D (i,j):=rfl;refine iD (I:=fun ρ M' => ρ = [v0,v1,v2,some (.int N),v4,some (.ref d),v6,v7,v8,some (.ref po),v10,some (.int i),some (.int x),some (.int j),some (.int y),G,J,B,F] /\ ∃ R',RI d N M' R' g/\Run d R M R' M'/\(∀ r∈R,r∈R')/\R'.length<=R.length+1/\(i,j)∈R'.map (·.1)) (fun RR hR => ?_) (fun ρ M1 h => ?_)
 ·walk_at "wp";refine ⟨by rw [Fb];lia,d,true,_,rfl,I.dct,rfl, ?_⟩
  walk_at "wp";rw [ek]
  by_cases L:(i,j)∈R.map (·.1)
  ·obtain ⟨a,ha,e⟩:=qj L;rw [e];walk_at "wp";exact hR _ _ ⟨rfl,R,I,Run.refl,fun r h=>h,by lia,L⟩
  ·rw [zM L];walk_at "wp";rw [bO];walk_at "wp";refine ⟨by rw [Fb];lia,fun p1 D6 => ?_⟩
   have g1:=Ge.new (o := .lst [.int 0]) D6;refine ⟨_,ab,by lia,by lia,by rw [Fb];simp;lia,fun p2 O => ?_⟩
   have g2:=g1.trans (Ge.new (o := .lst (Fm (N:Int).toNat [D.int 0]).flatten) O);have Z:M p2=none:=by
    cases hq:M p2 with
    | none=>rfl
    | some o=>rw [g1 _ _ hq] at O;cases O
   have e2:ag (ag M p1 (.lst [.int 0])) p2 (.lst (Fm (N:Int).toNat [D.int 0]).flatten) p2=some (.lst ((Fm N (0:Int)).map .int)):=by
    rw [ab,rL];simp
   generalize ag (ag M p1 (.lst [.int 0])) p2 (.lst (Fm (N:Int).toNat [D.int 0]).flatten)=M2 at g2 e2;refine ⟨by rw [Fb];lia,fq (g2 _ _ I.dct) rfl (by rw [Fd,Fb];lia) ?_⟩
   rw [ek,zN L];obtain ⟨I2,r2⟩:=I.new L g2 Z e2;exact hR _ _ ⟨rfl,_,I2,r2,fun r h=>Gb _ h,by simp,by simp⟩
 ·obtain ⟨rfl,R',I1,r1,sub,D7,L⟩:=h;obtain ⟨a,ha,e⟩:=qj L;walk_at "st";refine ⟨by rw [Fb];lia, ?_⟩
  rw [ek];refine Bj I1.dct rfl e ?_;walk_at "wp";refine ⟨nT (by unfold bd at hx;lia), ?_⟩
  have D4:=r1.keep I U Y;have D5:=gU r1 I U Y;refine Ci (pr:=x*y) D4 (fun z=>D5 (Fw.mpr ⟨_,ha,z.symm⟩)) (I1.row _ ha) (I1.ln _) hz fun row' B F D8 hg => ?_;obtain ⟨I2,r2⟩:=I1.put ha D8;refine q _ _ _ _ _ _ _ I2 (r1.trans (g:=g) r2 I1 sub) sub D7 fun k i' j' => ?_
  by_cases h:i'=i/\j'=j
  ·obtain ⟨rfl,rfl⟩:=h;rw [if_pos rfl,if_pos ⟨rfl,rfl⟩];exact hg k
  ·rw [if_neg (fun z=>h ⟨congrArg (·.1) z,congrArg (·.2) z⟩),if_neg h,Lv]
noncomputable def rT:MSs := .cons (.for (.tup (.cons (.name 13) (.cons (.name 14) .nil))) (.seq (.var 10)) rS) .nil
theorem CT {Φ:Phi} {v0 v1 v2 v4 v6 v7 v8 O U B G J L:Option D} {d po pr:Addr} {i x:Int} {N:Nat} {R:List (K2×Addr)} {g:K2->List Int} {ys zs:List (Int×Int)} {M:Mem} {E:aS} (hN:N<=1000) (I:RI d N M R g) (Z:M po=some (.lst (zs.map pD))) (D4:po∉R.map (·.2)) (D5:M pr=some (.lst (ys.map pD))) (D8:pr∉R.map (·.2)) (hl:R.length+ys.length<=1000000) (hx:bd x) (hz:∀ z∈zs,0<=z.1/\z.1 < N/\bd z.2)
 (q:∀ M' R' g' O U B G J L,RI d N M' R' g'->Run d R M R' M'->(∀ r∈R,r∈R')->R'.length<=R.length+ys.length->(∀ k i' j',gz (g' (i',j')) k=gz (g (i',j')) k+if i=i' then x*S1 ys j'*S1 zs k else 0)->E.nx [v0,v1,v2,some (.int N),v4,some (.ref d),v6,v7,v8,some (.ref po),some (.ref pr),some (.int i),some (.int x),O,U,B,G,J,L] M') :
 wSs Φ rT E [v0,v1,v2,some (.int N),v4,some (.ref d),v6,v7,v8,some (.ref po),some (.ref pr),some (.int i),some (.int x),O,U,B,G,J,L] M:=by
 unfold rT;walk_at "st";refine ⟨_,ae D5, ?_⟩;refine aQ (f:=pD) (ys:=ys) (I:=fun l ρ M' => ∃ R' g' O U B G J L, ρ = [v0,v1,v2,some (.int N),v4,some (.ref d),v6,v7,v8,some (.ref po),some (.ref pr),some (.int i),some (.int x),O,U,B,G,J,L]/\RI d N M' R' g'/\Run d R M R' M'/\(∀ r∈R,r∈R')/\R'.length<=R.length+l.length /\ ∀ k i' j',gz (g' (i',j')) k=gz (g (i',j')) k+if i=i' then x*S1 l j'*S1 zs k else 0) rfl ⟨R,g,_,_,_,_,_,_,rfl,I,Run.refl,fun r h=>h,by simp,fun k i' j'=>by simp [S1]⟩ (fun l ρ M' ⟨_,_,_,_,_,_,_,_,_,_,Y,_⟩=>ae (Y.keep I D5 D8)) ?_ ?_
 ·rintro l y r ρ M1 e ⟨R1,g1,O,U,B,G,J,L,rfl,I1,Y,sub,D6,hg⟩;refine ⟨_,rfl,fun F hF => ?_⟩;have Da:=am e;refine CS (j:=y.1) (y:=y.2) hN I1 (Y.keep I Z D4) (gU Y I Z D4) (by lia) hx hz fun M2 R2 g2 B G J L I2 r2 D7 Db D9=>hF _ _ ⟨R2,g2,_,_,_,_,_,_,rfl,I2,Y.trans (g:=g) r2 I1 sub,fun r h=>D7 r (sub r h),by simp;lia,fun k i' j' => ?_⟩
  rw [D9,hg,dU,bR,show S1 [] j'=0 from rfl,Lv,MP];congr 1
  by_cases hi:i=i'
  ·subst hi
   by_cases hj:y.1=j'
   ·subst hj;simp [Mj,KP]
   ·rw [if_pos rfl,if_neg (fun z=>hj z.2.symm),if_pos rfl,if_neg hj];simp
  ·rw [if_neg hi,if_neg (fun z=>hi z.1.symm),if_neg hi];rfl
 ·rintro ρ M1 ⟨R1,g1,O,U,B,G,J,L,rfl,I1,Y,sub,D6,hg⟩;dsimp only;walk_at "wp";exact q _ _ _ _ _ _ _ _ _ I1 Y sub D6 hg
theorem CU {Φ:Phi} {v0 v1 v2 v4 v6 v7 v8 U Y j B G J L O:Option D} {d po pr pl:Addr} {N:Nat} {R:List (K2×Addr)} {g:K2->List Int} {xs ys zs:List (Int×Int)} {M:Mem} {E:aS} (hN:N<=1000) (I:RI d N M R g) (D4:M po=some (.lst (zs.map pD))) (D5:po∉R.map (·.2)) (D6:M pr=some (.lst (ys.map pD))) (D7:pr∉R.map (·.2)) (Da:M pl=some (.lst (xs.map pD))) (Db:pl∉R.map (·.2)) (hl:R.length+xs.length*ys.length<=1000000) (hx:∀ z∈xs,bd z.2) (hz:∀ z∈zs,0<=z.1/\z.1 < N/\bd z.2)
 (q:∀ M' R' g' U Y j B G J L O,RI d N M' R' g'->Run d R M R' M'->(∀ r∈R,r∈R')->R'.length<=R.length+xs.length*ys.length->(∀ k i' j',gz (g' (i',j')) k=gz (g (i',j')) k+S1 xs i'*S1 ys j'*S1 zs k)->E.nx [v0,v1,v2,some (.int N),v4,some (.ref d),v6,v7,v8,some (.ref po),some (.ref pr),U,Y,j,B,G,J,L,O] M') :
 bn (jW (bw (bg 11) (bw (bg 12) eX))) (wSs Φ rT) (fun M=>aC M (.ref pl)=some (xs.map pD)) E (xs.map pD) [v0,v1,v2,some (.int N),v4,some (.ref d),v6,v7,v8,some (.ref po),some (.ref pr),U,Y,j,B,G,J,L,O] M:=by
 refine aQ (f:=pD) (ys:=xs) (I:=fun l ρ M' => ∃ R' g' U Y j B G J L O, ρ = [v0,v1,v2,some (.int N),v4,some (.ref d),v6,v7,v8,some (.ref po),some (.ref pr),U,Y,j,B,G,J,L,O]/\RI d N M' R' g'/\Run d R M R' M'/\(∀ r∈R,r∈R')/\R'.length<=R.length+l.length*ys.length /\ ∀ k i' j',gz (g' (i',j')) k=gz (g (i',j')) k+S1 l i'*S1 ys j'*S1 zs k) rfl ⟨R,g,_,_,_,_,_,_,_,_,rfl,I,Run.refl,fun r h=>h,by simp,fun k i' j'=>by simp [S1]⟩ (fun l ρ M' ⟨_,_,_,_,_,_,_,_,_,_,_,_,Z,_⟩=>ae (Z.keep I Da Db)) ?_ ?_
 ·rintro l x r ρ M1 e ⟨R1,g1,U,Y,j,B,G,J,L,O,rfl,I1,Z,sub,D8,hg⟩;refine ⟨_,rfl,fun F hF => ?_⟩;have Dc:=am e;have hm:(l.length+1)*ys.length<=xs.length*ys.length:=Ig _ Dc;rw [Hr] at hm;refine CT (i:=x.1) (x:=x.2) hN I1 (Z.keep I D4 D5) (gU Z I D4 D5) (Z.keep I D6 D7) (gU Z I D6 D7) (by lia) (hx x (by rw [e];simp)) hz fun M2 R2 g2 j B G J L O I2 r2 D9 De Dd=>hF _ _ ⟨R2,g2,_,_,_,_,_,_,_,_,rfl,I2,Z.trans (g:=g) r2 I1 sub,fun r h=>D9 r (sub r h),by rw [Fk,I7,Hr];lia,fun k i' j' => ?_⟩
  rw [Dd,hg,dU,bR,show S1 [] i'=0 from rfl,Lv,MP,KP,KP];congr 2
  by_cases hi:x.1=i'
  ·rw [if_pos hi,if_pos hi]
  ·rw [if_neg hi,if_neg hi];simp
 ·rintro ρ M1 ⟨R1,g1,U,Y,j,B,G,J,L,O,rfl,I1,Z,sub,D8,hg⟩;exact q _ _ _ _ _ _ _ _ _ _ _ I1 Z sub D8 hg
noncomputable def gp (s:Stmt) (ff:Nat):FD:=⟨"rows_by_pairs",s,["scheme", "left", "right", "many", "products", "rows", "l", "r", "o", "outs", "rights", "i", "x", "j", "y", "row", "product", "k", "c"],1,
 (.cons (.asg (.tup (.cons (.name 1) (.cons (.name 2) (.cons (.name 3) (.cons (.name 4) .nil))))) (.var 0))
 (.cons (.asg (.name 5) (.dnew true))
 (.cons (.for (.tup (.cons (.name 6) (.cons (.name 7) (.cons (.name 8) .nil)))) (.seq (.var 4)) (.cons (.par 9 10 (.call ff (.cons (.var 8) .nil)) (.call ff (.cons (.var 7) .nil)))
 (.cons (.for (.tup (.cons (.name 11) (.cons (.name 12) .nil))) (.seq (.call ff (.cons (.var 6) .nil))) (.cons (.for (.tup (.cons (.name 13) (.cons (.name 14) .nil))) (.seq (.var 10)) (.cons (.ite (.cmp .ninD (.tup (.cons (.var 11) (.cons (.var 13) .nil))) (.var 5)) (.cons (.put (.var 5) (.tup (.cons (.var 11) (.cons (.var 13) .nil))) (.bin .mul (.lst (.cons (.int 0) .nil)) (.var 3)))
 .nil) .nil)
 (.cons (.par 15 16 (.ix (.var 5) (.tup (.cons (.var 11) (.cons (.var 13) .nil)))) (.bin .mul (.var 12) (.var 14)))
 (.cons (.for (.tup (.cons (.name 17) (.cons (.name 18) .nil))) (.seq (.var 9)) (.cons (.augI (.var 15) (.var 17) .add (.bin .mul (.var 18) (.var 16)))
 .nil))
 .nil))))
 .nil))
 .nil)))
 (.cons (.ret (.var 5))
 .nil))))⟩
theorem Cj {l:List Int} {N:Nat} (h:Big l) (B:l.length=N):∀ z∈nz l,0<=z.1/\z.1 < N/\bd z.2:=fun z j=>by
 have q:=gm h z j;unfold nz at j;have j:=(Hh.mp j).1;unfold idx at j;obtain ⟨i,hi,e⟩:=Oa.mp j;refine ⟨?_, ?_,q⟩ <;> rw [<- e] <;> dsimp only <;> lia
theorem jE {l:List Int} {k:Int}:S1 (nz l) k=gz l k:=by unfold nz;rw [gR,jD]
structure Pf (L0 L1 L2:Nat) (p:Pr):Prop where
 b1:Big p.1
 b2:Big p.2.1
 b3:Big p.2.2
 l1:p.1.length=L0
 l2:p.2.1.length=L1
 l3:p.2.2.length=L2
theorem xf {f ff:Nat} {s sf:Stmt} (hf:T[f]? = some (gp s ff)) (D5:T[ff]? = some (cH sf)) {n:Nat} (hn : 2<=n) {x0 x1:D} {L0 L1 N B:Nat} {p:Addr} {ps:List Pr} {M:Mem} {Q:QD} (hp:M p=some (.lst (ps.map prD))) (hN:N<=1000) (h0:L0<=1000) (h1:L1<=1000) (hB:ps.length*B<=1000000) (hF:∀ p∈ps,Pf L0 L1 N p) (hZ:∀ p∈ps,(nz p.1).length*(nz p.2.1).length<=B)
 (q:∀ d M' R g,RI d N M' R g->Ge M M'->M d=none->(∀ r∈R,M r.2=none)->R.length<=ps.length*B->(∀ k i j,gz (g (i,j)) k=Tn ps k i j)->Q (.ref d) M'):phi T n f [.tup [x0,x1, .int N, .ref p]] M Q:=by
 refine ao (by lia) hf rfl (ρ := [some _,none,none,none,none,none,none,none,none,none,none,none,none,none,none,none,none,none,none]) rfl ?_
 unfold gp;walk_at "st";walk_at "st";intro d hd;have g0:=Ge.new (o := .dct true []) hd;have d0:=ab (M:=M) (a:=d) (o := .dct true []);generalize ag M d (.dct true [])=M0 at g0 d0 ⊢;walk_at "st";refine ⟨_,ae (g0 _ _ hp), ?_⟩;have Di:p≠d:=fun z=>by rw [z,hd] at hp;cases hp
 refine aQ (f:=prD) (ys:=ps) (I:=fun l ρ M' => ∃ R g o6 o7 o8 o9 D6 G J L O U Y Z D4, ρ = [some (.tup [x0,x1, .int N, .ref p]),some x0,some x1,some (.int N),some (.ref p),some (.ref d),o6,o7,o8,o9,D6,G,J,L,O,U,Y,Z,D4]/\Ge M M'/\RI d N M' R g/\(∀ r∈R,M r.2=none)/\R.length<=l.length*B /\ ∀ k i j,gz (g (i,j)) k=Tn l k i j) rfl ⟨[],fun _=>Fm N 0,_,_,_,_,_,_,_,_,_,_,_,_,_,rfl,g0,⟨d0,by simp,by simp,by simp,by simp,by simp,fun _ _=>rfl⟩,by simp,by simp,fun k i j=>by rw [uW];simp [Tn]⟩ (fun l ρ M' ⟨_,_,_,_,_,_,_,_,_,_,_,_,_,_,_,_,g,_⟩=>ae (g _ _ hp)) ?_ ?_
 ·rintro l x r ρ M1 e ⟨R,g,o6,o7,o8,o9,D6,G,J,L,O,U,Y,Z,D4,rfl,g1,I1,fr,Da,hg⟩;refine ⟨_,rfl,fun F Db => ?_⟩;have hx:=hF x (by rw [e];simp)
  have Dc:=am e;have hm:(l.length+1)*B<=ps.length*B:=Ig _ Dc;rw [Hr] at hm;have Dj:=hZ x (by rw [e];simp)
  have nr:∀ {M2:Mem} {a:Addr},Ge M1 M2->M2 a=none->a∉R.map (·.2):=fun {M2 a} g2 ha z=>by
   obtain ⟨r,hr,rfl⟩:=Fw.mp z;rw [g2 _ _ (I1.row r hr)] at ha;cases ha
  walk_at "st";refine dW D5 (by lia) (l:=x.2.2) (by have:=hx.l3;lia) rfl fun po D7 => ?_
  have Dd:=nr Ge.refl D7;have g2:Ge M1 _:=Ge.new (o := .lst ((nz x.2.2).map pD)) D7;have eo:=ab (M:=M1) (a:=po) (o := .lst ((nz x.2.2).map pD));generalize ag M1 po (.lst ((nz x.2.2).map pD))=M2 at eo g2 ⊢;walk_at "wp";refine dW D5 (by lia) (l:=x.2.1) (by have:=hx.l2;lia) rfl fun pr D8 => ?_
  have De:=nr g2 D8;have gr:=Ge.new (o := .lst ((nz x.2.1).map pD)) D8;have er:=ab (M:=M2) (a:=pr) (o := .lst ((nz x.2.1).map pD));have eo:=gr _ _ eo;have g3:=g2.trans gr;generalize ag M2 pr (.lst ((nz x.2.1).map pD))=M3 at eo er g3 ⊢;clear g2 gr D7 D8;walk_at "wp";walk_at "st";refine dW D5 (by lia) (l:=x.1) (by have:=hx.l1;lia) rfl fun pl D9 => ?_
  have Df:=nr g3 D9;have gl:=Ge.new (o := .lst ((nz x.1).map pD)) D9;have el:=ab (M:=M3) (a:=pl) (o := .lst ((nz x.1).map pD));have eo:=gl _ _ eo;have er:=gl _ _ er;have g4:=g3.trans gl;generalize ag M3 pl (.lst ((nz x.1).map pD))=M4 at eo er el g4 ⊢;clear g3 gl D9;refine ⟨_,ae el, ?_⟩;refine CU hN (I1.ge g4) eo Dd er De el Df (by lia) (gm hx.b1) (Cj hx.b3 hx.l3) fun M5 R5 g5 G J L O U Y Z D4 I5 r5 sub Dl Dg => ?_
  walk_at "wp";refine Db _ _ ⟨R5,g5,_,_,_,_,_,_,_,_,_,_,_,_,_,rfl,fun a o ea => ?_,I5,fun r hr => ?_, ?_,fun k i j => ?_⟩
  ·refine r5.kp a o (fun z=>by rw [z,hd] at ea;cases ea) (fun z => ?_) (g4 _ _ (g1 _ _ ea))
   obtain ⟨r',Dh,rfl⟩:=Fw.mp z;rw [fr r' Dh] at ea;cases ea
  ·rcases r5.ex r hr with h | h
   ·exact fr r h
   ·cases ea:M r.2 with
    | none=>rfl
    | some o=>rw [g4 _ _ (g1 _ _ ea)] at h;cases h
  ·rw [Fk,I7,Hr];lia
  ·rw [Dg,hg,jE,jE,jE,uU];simp [Tn]
 ·rintro ρ M1 ⟨R,g,o6,o7,o8,o9,D6,G,J,L,O,U,Y,Z,D4,rfl,g1,I1,fr,Da,hg⟩;dsimp only;walk_at "st";exact q d M1 R g I1 g1 hd fr Da hg
theorem Bp {j q N:Nat} {p:Pr} (h:Pf j q N p):(nz p.1).length*(nz p.2.1).length<=j*q:=by
 have a1:=eJ (l:=p.1);have a2:=eJ (l:=p.2.1);rw [h.l1] at a1;rw [h.l2] at a2;exact IU a1 a2
end
section
open PySem PySem.Spec PyProof.Rows L2.Srt
variable {T:List FD}
noncomputable def tr1 (k:K2) (zs:List (Int×Int)):List Tm:=zs.map fun z=>((z.1,k.1,k.2),z.2)
noncomputable def tr (g:K2->List Int) (r:K2×Addr):List Tm:=tr1 r.1 (nz (g r.1))
theorem zO {k:K2} {zs:List (Int×Int)}:tr1 k zs=bo k.1 1 k.2 1 zs:=by
 unfold tr1 bo;exact HH fun z _=>by rw [Int.one_mul,Int.one_mul]
theorem xZ {g:K2->List Int} {k i j:Int}:∀ {R:List (K2×Addr)},(R.map (·.1)).Nodup->cf (R.flatMap (tr g)) (k,i,j)=if (i,j)∈R.map (·.1) then gz (g (i,j)) k else 0
 | [],_=>by simp [dE]
 | r::R,h=>by
   rw [FJ,GC] at h;rw [Ie,ci,xZ h.2];unfold tr;rw [zO,kr,jE,FJ]
   by_cases e:r.1=(i,j)
   ·have e1:r.1.1=i:=by rw [e]
    have e2:r.1.2=j:=by rw [e]
    rw [if_pos ⟨e1,e2⟩,if_neg (by rw [<- e];exact h.1),if_pos (by rw [e];simp),e];simp
   ·rw [if_neg (fun z=>e (L3 z.1 z.2))]
    by_cases m:(i,j)∈R.map (·.1)
    ·rw [if_pos m,if_pos (FN _ m)];simp
    ·rw [if_neg m,if_neg (fun z=>by
      rcases Fo.mp z with z | z
      ·exact e z.symm
      ·exact m z)];rfl
theorem ot {g:K2->List Int} {N:Nat} (h:∀ k,(g k).length=N):∀ {R:List (K2×Addr)},(R.flatMap (tr g)).length<=R.length*N
 | [] => by simp
 | r::R=>by
   rw [Ie,Fk,GQ,Hr];have h1:=ot h (R:=R);have h2:=eJ (l:=g r.1);rw [h] at h2;have j:(tr g r).length=(nz (g r.1)).length:=by simp [tr,tr1]
   lia
noncomputable def fw (s:Stmt) (ft ff fr:Nat):FD:=⟨"task_by",s,["scheme", "left", "right", "many", "products", "rows"],1,
 (.cons (.asg (.tup (.cons (.name 1) (.cons (.name 2) (.cons (.name 3) (.cons (.name 4) .nil))))) (.var 0))
 (.cons (.asg (.name 5) (.call fr (.cons (.var 0) .nil)))
 (.cons (.frz 5 (.ret (.call ft (.cons (.var 1) (.cons (.var 2) (.cons (.var 3) (.cons (.comp [none,none,none,none,none] ["i", "j", "row", "k", "c"] (.more (.items (.var 5)) (.tup (.cons (.tup (.cons (.name 0) (.cons (.name 1) .nil))) (.cons (.name 2) .nil))) .nil (.last (.seq (.call ff (.cons (.var 2) .nil))) (.tup (.cons (.name 3) (.cons (.name 4) .nil))) .nil (.tup (.cons (.var 3) (.cons (.var 0) (.cons (.var 1) (.cons (.var 4) .nil)))))))) .nil)))))))
 .nil)))⟩
theorem oZ {f ft ff fr:Nat} {s sk sf sr:Stmt} (hf:T[f]? = some (fw s ft ff fr)) (D4:T[ft]? = some (gj sk)) (L:T[ff]? = some (cH sf)) (D5:T[fr]? = some (gp sr ff)) {n:Nat} (hn : 3<=n) {x0 x1:D} {L0 L1 N B:Nat} {p:Addr} {ps:List Pr} {M:Mem} {Q:QD} (hp:M p=some (.lst (ps.map prD))) (hN:N<=1000) (h0:L0<=1000) (h1:L1<=1000) (hB:ps.length*B*N<=100000) (D9:ps.length*B<=100000) (hF:∀ p∈ps,Pf L0 L1 N p) (hZ:∀ p∈ps,(nz p.1).length*(nz p.2.1).length<=B)
 (q:∀ (ts rs:List Tm) p' M',IsTask ts rs->(∀ k i j,cf ts (k,i,j)=Tn ps k i j)->Ge M M'->M p'=none->M' p'=some (.lst (rs.map tmD))->Q (.tup [x0,x1, .int N, .ref p']) M'):phi T n f [.tup [x0,x1, .int N, .ref p]] M Q:=by
 refine ao (by lia) hf rfl (ρ := [some _,none,none,none,none,none]) rfl ?_
 unfold fw;walk_at "st";walk_at "st";refine xf D5 L (by lia) hp hN h0 h1 (by lia) hF hZ fun d Z R g I g1 hd fr hl hg => ?_
 walk_at "st";refine q9 rfl I.dct ?_;have fd:=ab (M:=Z) (a:=d) (o := .fdc (R.map raD));have g2:Ge M (ag Z d (.fdc (R.map raD))):=g1.upd hd;have F:∀ r∈R,ag Z d (.fdc (R.map raD)) r.2=some (.lst ((g r.1).map .int)):=fun r hr=>by
  rw [ak (I.nd r hr)];exact I.row r hr
 generalize ag Z d (.fdc (R.map raD))=M2 at fd g2 F ⊢;have hlen:=ot I.ln (R:=R);have Da:R.length*N<=ps.length*B*N:=Ig _ hl;walk_at "wp";refine ⟨_,fd, ?_⟩;refine aG (f:=fun r:K2×Addr=>kvD (raD r)) (ys:=R) (I:=fun l ρ M' acc=>(∃ o0 o1 o2 G J, ρ = [o0,o1,o2,G,J])/\Ge M2 M'/\acc=(l.flatMap (tr g)).map tmD) (by rw [Gv];rfl) ⟨⟨_,_,_,_,_,rfl⟩,Ge.refl,rfl⟩ (fun _ _ _ _ _=>trivial) ?_ ?_
 ·rintro l r rr ρ O acc e ⟨⟨o0,o1,o2,G,J,rfl⟩,g3,rfl⟩;refine ⟨_,rfl,fun N' D6 => ?_⟩;have hr:r∈R:=by rw [e];simp
  have Db:=ot I.ln (R:=l);have Dc:(l.flatMap (tr g)).length+(nz (g r.1)).length<=(R.flatMap (tr g)).length:=by
   rw [e,Mw,Ie,Fk,Fk];have:(tr g r).length=(nz (g r.1)).length:=by simp [tr,tr1]
   lia
  walk_at "wp";refine dW L (by lia) (l:=g r.1) (by rw [I.ln];lia) (ae (g3 _ _ (F r hr))) fun pz D7 => ?_
  have U:=g3.trans (Ge.new (o := .lst ((nz (g r.1)).map pD)) D7);have ez:=ab (M:=O) (a:=pz) (o := .lst ((nz (g r.1)).map pD));generalize ag O pz (.lst ((nz (g r.1)).map pD))=M4 at U ez ⊢;walk_at "wp";refine ⟨_,ae ez, ?_⟩;refine aG (f:=pD) (ys:=nz (g r.1)) (I:=fun zs ρ M' acc=>(∃ G J, ρ = [some (.int r.1.1),some (.int r.1.2),some (.ref r.2),G,J])/\M'=M4/\acc=(l.flatMap (tr g)).map tmD++(tr1 r.1 zs).map tmD) rfl ⟨⟨_,_,rfl⟩,rfl,by simp [tr1]⟩ (fun _ _ _ _ h=>by rw [h.2.1];exact ae ez) ?_ ?_
  ·rintro zs z r' ρ M5 acc e' ⟨⟨G,J,rfl⟩,rfl,rfl⟩;refine ⟨_,rfl,fun N2 D8 => ?_⟩;have Dd:=am e';have De:(tr1 r.1 zs).length=zs.length:=by simp [tr1]
   walk_at "wp";refine ⟨by rw [Fb];lia,by rw [Fk,Fd,Fd,Fb];lia,D8 _ _ _ ⟨⟨_,_,rfl⟩,rfl, ?_⟩⟩
   simp [tr1,tmD]
  ·rintro ρ M5 acc ⟨⟨G,J,rfl⟩,rfl,rfl⟩;exact D6 _ _ _ ⟨⟨_,_,_,_,_,rfl⟩,U,by rw [Mw];simp [tr]⟩
 ·rintro ρ O acc ⟨⟨o0,o1,o2,G,J,rfl⟩,g3,rfl⟩ pt hpt;have U:=g3.trans (Ge.new (o := .lst ((R.flatMap (tr g)).map tmD)) hpt);have et:=ab (M:=O) (a:=pt) (o := .lst ((R.flatMap (tr g)).map tmD));generalize ag O pt (.lst ((R.flatMap (tr g)).map tmD))=M4 at U et ⊢;walk_at "wp";refine kl D4 (by lia) (ae et) (by lia) fun rs p' M' hT gT Y eT => ?_
  have gM:=g2.trans U;refine q _ rs p' M' hT (fun k i j => ?_) (gM.trans gT) ?_ eT
  ·rw [xZ I.keys]
   by_cases m:(i,j)∈R.map (·.1)
   ·rw [if_pos m];exact hg k i j
   ·rw [if_neg m, <- hg,I.out _ m,uW]
  ·cases hq:M p' with
   | none=>rfl
   | some o=>rw [gM _ _ hq] at Y;cases Y
theorem rV {f ft ff fr:Nat} {s sk sf sr:Stmt} (hf:T[f]? = some (fw s ft ff fr)) (F:T[ft]? = some (gj sk)) (G:T[ff]? = some (cH sf)) (J:T[fr]? = some (gp sr ff)) {n:Nat} (Y : 3<=n) {x0 O:D} {z B N:Nat} {p:Addr} {ps:List Pr} {M:Mem} {Q:QD} (Z:M p=some (.lst (ps.map prD))) (hN:N<=1000) (h0:z<=1000) (h1:B<=1000) (hB:ps.length*(z*B)*N<=100000) (L:ps.length*(z*B)<=100000) (U:∀ p∈ps,Pf z B N p)
 (q:∀ (ts rs:List Tm) p' M',IsTask ts rs->(∀ k i j,cf ts (k,i,j)=Tn ps k i j)->Ge M M'->M p'=none->M' p'=some (.lst (rs.map tmD))->Q (.tup [x0,O, .int N, .ref p']) M'):phi T n f [.tup [x0,O, .int N, .ref p]] M Q:=oZ hf F G J Y Z hN h0 h1 hB L U (fun p h=>Bp (U p h)) q
end
section
open PySem PySem.Spec PyProof.Rows L2.Srt
variable {T:List FD}
theorem IsSum.task {ps:List Pr} {L rs:List Tm} (h:IsSum ps L) (j:rs.Perm L) (hs:rs.Pairwise fun a b=>klt a.1 b.1):IsTask L rs :=
 ⟨hs,fun r q=>h.nz r (j.mem_iff.mp q),fun k=>kh j,fun r q=>Fy (j.mem_iff.mp q),by rw [j.length_eq];exact Fl _⟩
end
section
variable {T:List FD}
noncomputable def eL (y:Str) (s:Stmt) (f:Nat):FD:=⟨"_law_same",s,["_law_found",y],2,
 (.cons (.ite (.tru (.isin2 (.var 1) "list" "tuple")) (.cons (.ite (.or (.cons (.cmp .ne (.isin (.var 1) "list") (.isin (.var 0) "list")) (.cons (.cmp .ne (.isin (.var 1) "tuple") (.isin (.var 0) "tuple")) .nil))) (.cons (.ret (.bl false))
 .nil) .nil)
 (.cons (.ret (.and (.cons (.cmp .eq (.blt .len (.cons (.var 0) .nil)) (.blt .len (.cons (.var 1) .nil))) (.cons (.blt .all (.cons (.comp [none,(some 0),(some 1)] ["_law_k", "_law_found",y] (.last (.rng1 (.blt .len (.cons (.var 1) .nil))) (.name 0) .nil (.call f (.cons (.ix (.var 1) (.var 0)) (.cons (.ix (.var 2) (.var 0)) .nil))))) .nil)) .nil))))
 .nil)) .nil)
 (.cons (.ret (.and (.cons (.isin (.var 0) "int") (.cons (.not (.isin (.var 0) "bool")) (.cons (.cmp .eq (.var 0) (.var 1)) .nil)))))
 .nil))⟩
theorem y7 {M:Mem} {x d:D} {ds:List D} {i:Int} {Q:QD} (h:aC M x=some ds) (e:atI ds i=some d) (q:Q d M):wIx x (.int i) M Q:=by
 cases x with
 | ref a =>
   simp only [aC] at h
   split at h
   ·next e0=>cases h;exact aV e0 e q
   ·cases h
 | tup es=>cases h;exact ⟨i,d,rfl,e,q⟩
 | con es=>cases h;exact ⟨i,d,rfl,e,q⟩
 | _=>cases h
noncomputable def Sm (M:Mem):Nat->D->D->Prop
 | _, .int i, .int j=>i=j
 | n+1, .tup ds, .tup es=>ds.length<=100000/\ds.length=es.length /\ ∀ (k:Nat) d e,ds[k]? = some d->es[k]? = some e->Sm M n d e
 | n+1, .ref a, .ref b => ∃ ds es,M a=some (.lst ds)/\M b=some (.lst es)/\ds.length<=100000/\ds.length=es.length /\ ∀ (k:Nat) d e,ds[k]? = some d->es[k]? = some e->Sm M n d e
 | _,_,_=>False
theorem Sm.ge {M M':Mem} (g:Ge M M'):∀ {n:Nat} {x y:D},Sm M n x y->Sm M' n x y:=by
 intro n
 induction n with
 | zero=>intro x y h;cases x <;> cases y <;> first | exact h.elim | exact h
 | succ n ih =>
   intro x y h
   cases x <;> cases y <;> first
    | exact h.elim
    | (obtain ⟨ds,es,e1,e2,z,l,q⟩:=h;exact ⟨ds,es,g _ _ e1,g _ _ e2,z,l,fun k d e h1 h2=>ih (q k d e h1 h2)⟩)
    | (obtain ⟨z,l,q⟩:=h;exact ⟨z,l,fun k d e h1 h2=>ih (q k d e h1 h2)⟩)
    | exact h
theorem Sm.int {M:Mem} {n:Nat} {i:Int}:Sm M n (.int i) (.int i):=by unfold Sm;cases n <;> rfl
section
variable {f:Nat} {y:Str} {s:Stmt}
theorem ou (hf:T[f]? = some (eL y s f)) {n:Nat} (j : 1<=n) {x:Int} {M:Mem} {Q:QD} (q:Q (.bl true) M):phi T n f [.int x, .int x] M Q:=by
 refine ao (by lia) hf rfl (ρ := [some _,some _]) rfl ?_
 unfold eL;walk_at "st";refine ⟨"int",rfl,false,rfl, ?_⟩;rw [if_neg (by decide)]
 walk_at "st";refine ⟨"int",rfl, ?_⟩;rw [if_pos (by decide)]
 refine ⟨"int",rfl, ?_⟩;rw [if_pos (by decide),beq_self_eq_true]
 exact q
theorem lq {n m:Nat} (ih:∀ {x y:D} {M:Mem} {Q:QD},Sm M n x y->(∀ M',Ge M M'->Q (.bl true) M')->phi T m f [x,y] M Q) {u v:D} {ds es:List D} {M:Mem} {N:NC} (F:aC M u=some ds) (G:aC M v=some es) (z:ds.length<=100000) (l:ds.length=es.length)
 (h:∀ (k:Nat) d e,ds[k]? = some d->es[k]? = some e->Sm M n d e) (q:∀ ρ M',Ge M M'->N ρ M' (es.map fun _ => .bl true)) :
 bp (bg 0) (cq (wAr (phi T m f) (bv (wOp wIx (bU 1) (bU 0)) (bv (wOp wIx (bU 2) (bU 0)) cb)))) (fun _=>True) N (bW 0 (es.length:Int).toNat) [none,some u,some v] M []:=by
 refine aG (f:=fun i=>D.int (i:Nat)) (I:=fun l ρ M' acc=>(∃ o0, ρ = [o0,some u,some v])/\Ge M M'/\acc=l.map fun _ => .bl true) dg ⟨⟨_,rfl⟩,Ge.refl,rfl⟩ (fun _ _ _ _ _=>trivial) ?_ ?_
 ·rintro l' i r ρ M1 acc e ⟨⟨o0,rfl⟩,g,rfl⟩;refine ⟨_,rfl,fun N' j => ?_⟩;have B:=am e;rw [KQ] at B;have hi:i < es.length:=by
   have:i∈Hf (es.length:Int).toNat:=by rw [e];simp
   have:=Kj.mp this;lia
  walk_at "wp";have h1:ds[i]? = some ds[i]:=Fe (by lia)
  have h2:es[i]? = some es[i]:=Fe hi;refine y7 (gP F g) (kg h1) (y7 (gP G g) (kg h2) (ih ((h i _ _ h1 h2).ge g) fun M2 g2 => ?_));refine ⟨by rw [Fd,Fb];lia,j _ _ _ ⟨⟨_,rfl⟩,g.trans g2,by simp⟩⟩
 ·rintro ρ M1 acc ⟨⟨o0,rfl⟩,g,rfl⟩;have e:(Hf (es.length:Int).toNat).map (fun _=>D.bl true)=es.map fun _ => .bl true:=by
   rw [Ob,Ob];simp
  rw [e];exact q _ M1 g
theorem ow:∀ es:List D,au n8 (es.map fun _ => .bl true)=some (es.map fun _=>true)
 | [] => rfl
 | e::es=>by rw [FJ,FJ];simp only [au,n8,ow es];rfl
theorem ox {es:List D} {p:Addr} {M:Mem} {Q:QD} (q:Q (.bl true) (ag M p (.lst (es.map fun _ => .bl true)))):qS [.ref p] (ag M p (.lst (es.map fun _ => .bl true))) Q:=by
 refine ⟨_,_,es.map (fun _=>true),rfl,ae ab,ow es, ?_⟩;rw [show ((es.map fun _=>true).all id)=true by simp]
 exact q
theorem zP (hf:T[f]? = some (eL y s f)):∀ {n m:Nat},n+1<=m -> ∀ {u v:D} {M:Mem} {Q:QD},Sm M n u v->(∀ M',Ge M M'->Q (.bl true) M')->phi T m f [u,v] M Q:=by
 intro n
 induction n with
 | zero =>
   intro m hm u v M Q h q
   cases u <;> cases v <;> first
    | exact h.elim
    | (have e:=h;unfold Sm at e;subst e;exact ou hf (by lia) (q _ Ge.refl))
 | succ n ih =>
   intro m hm u v M Q h q
   cases u <;> cases v <;> first
    | exact h.elim
    | (have e:=h;unfold Sm at e;subst e;exact ou hf (by lia) (q _ Ge.refl))
    | skip
   case tup.tup ds es =>
    obtain ⟨z,l,h⟩:=h;refine ao (by lia) hf rfl (ρ := [some _,some _]) rfl ?_
    unfold eL;walk_at "st";refine ⟨"tuple",rfl,true,rfl, ?_⟩;rw [if_pos rfl];walk_at "st";refine ⟨"tuple",rfl, "tuple",rfl,_,_,rfl,rfl,false,rfl, ?_⟩;rw [if_neg (by decide)]
    refine ⟨"tuple",rfl, "tuple",rfl,_,_,rfl,rfl,false,rfl, ?_⟩;rw [if_neg (by decide)]
    walk_at "st";rw [if_pos (by simp [l])]
    refine ⟨by lia,by lia, ?_⟩
    exact lq (ih (m:=m - 1) (by lia)) rfl rfl z l h fun ρ M' g p hp=>ox (q _ (g.trans (Ge.new hp)))
   case ref.ref a b =>
    obtain ⟨ds,es,e1,e2,z,l,h⟩:=h;refine ao (by lia) hf rfl (ρ := [some _,some _]) rfl ?_
    unfold eL;have t1:tyN M (.ref a)=some "list" := by simp [tyN,e1]
    have j:tyN M (.ref b)=some "list" := by simp [tyN,e2]
    walk_at "st";refine ⟨"list",j,true,rfl, ?_⟩;rw [if_pos rfl];walk_at "st";refine ⟨"list",j, "list",t1,_,_,rfl,rfl,false,rfl, ?_⟩;rw [if_neg (by decide)]
    refine ⟨"list",j, "list",t1,_,_,rfl,rfl,false,rfl, ?_⟩;rw [if_neg (by decide)]
    walk_at "st";refine kf (ae e1) (kf (ae e2) ?_);walk_at "wp";rw [if_pos (by simp [l])]
    refine kf (ae e2) ?_;refine ⟨_,rfl,by lia,by lia, ?_⟩
    exact lq (ih (m:=m - 1) (by lia)) (ae e1) (ae e2) z l h fun ρ M' g p hp=>ox (q _ (g.trans (Ge.new hp)))
end
end
section
open PySem PySem.Spec PyProof.Rows L2.Srt
theorem dX {M:Mem} {n:Nat} {l:List Int} (j:l.length<=100000):Sm M (n+1) (.tup (l.map .int)) (.tup (l.map .int)):=by
 refine ⟨by rw [Fd];exact j,rfl,fun k d e h1 h2 => ?_⟩
 rw [h1] at h2;cases h2;rw [FX] at h1;obtain ⟨i,_,rfl⟩:=Iw.mp h1;exact Sm.int
theorem zQ {M:Mem} {p:Pr} (h:p.1.length<=100000/\p.2.1.length<=100000/\p.2.2.length<=100000):Sm M 2 (prD p) (prD p):=by
 refine ⟨by simp,rfl,fun k d e h1 h2 => ?_⟩
 rw [h1] at h2;cases h2;have hm:=FT h1;simp only [Fo,Gn,or_false] at hm
 rcases hm with rfl | rfl | rfl
 ·exact dX h.1
 ·exact dX h.2.1
 ·exact dX h.2.2
theorem zR {M:Mem} {x y z:Int} {a b:Addr} {qs:List Pr} (j:qs.length<=100000) (q:M a=some (.lst (qs.map prD))) (B:M b=some (.lst (qs.map prD))) (h:∀ p∈qs,p.1.length<=100000/\p.2.1.length<=100000/\p.2.2.length<=100000) :
 Sm M 4 (.tup [.int x, .int y, .int z, .ref a]) (.tup [.int x, .int y, .int z, .ref b]):=by
 refine ⟨by simp,rfl,fun k d e h1 h2 => ?_⟩
 have:k=0∨k=1∨k=2∨k=3:=by
  have:=(FC.mp h1).1;simp at this;lia
 rcases this with rfl | rfl | rfl | rfl
 ·cases h1;cases h2;exact Sm.int
 ·cases h1;cases h2;exact Sm.int
 ·cases h1;cases h2;exact Sm.int
 ·cases h1;cases h2
  refine ⟨_,_,q,B,by rw [Fd];exact j,rfl,fun k d e h1 h2 => ?_⟩
  rw [h1] at h2;cases h2;rw [FX] at h1;obtain ⟨p,F,rfl⟩:=Iw.mp h1;exact zQ (h p (FT F))
theorem Bq:∀ ns:List Int,GN (ns.map .int) (ns.map .int)=true
 | [] => rfl
 | n::ns=>by simp [GN,Ga,Bq ns]
theorem xg:∀ ps:List Pr,GN (ps.map cw) (ps.map cw)=true
 | [] => rfl
 | p::ps=>by simp [GN,Ga,xg ps,cw,Bq]
theorem y8 {M:Mem} {x y z:Int} {a:Addr} {ps:List Pr} (h:M a=some (.lst (ps.map prD))):rb 16 M (.tup [.int x, .int y, .int z, .ref a])=some (.tuple [.int x, .int y, .int z, .list (ps.map cw)]):=by
 have e:rb 15 M (.ref a)=some (.list (ps.map cw)):=by rw [dD h,jB];rfl
 show (au (rb 15 M) [.int x, .int y, .int z, .ref a]).map Nl=_;simp only [au,e];simp [rb]
theorem rW {M:Mem} {x y z x' y' z':Int} (ex:x=x') (ey:y=y') (ez:z=z') {a b:Addr} {ps:List Pr} {Q:QD} (j:M a=some (.lst (ps.map prD))) (B:M b=some (.lst (ps.map prD))) (q:Q (.bl false) M):wNe (.tup [.int x, .int y, .int z, .ref a]) (.tup [.int x', .int y', .int z', .ref b]) M Q:=by
 subst ex ey ez;refine ⟨_,_,y8 j,y8 B, ?_⟩;rw [show Ga (.tuple [.int x, .int y, .int z, .list (ps.map cw)]) (.tuple [.int x, .int y, .int z, .list (ps.map cw)])=true by simp [Ga,GN,xg]]
 exact q
theorem oz {a b c:Nat}:∀ {ps:List Pr},(∀ p∈ps,p.1.length<=a/\p.2.1.length<=b/\p.2.2.length<=c)->(aM ps).length<=ps.length*(a*(b*c))
 | [],_=>by simp [aM]
 | p::ps,h=>by
   rw [show aM (p::ps)=e7 p++aM ps by simp [aM],Fk,GQ,Hr]
   have h1:=oz (ps:=ps) fun q j=>h q (by simp [j])
   obtain ⟨x,y,z⟩:=h p (by simp)
   have h2:(e7 p).length<=a*(b*c):=by
    unfold e7;rw [iG];have:=eJ (l:=p.1);have:=eJ (l:=p.2.1);have:=eJ (l:=p.2.2);exact IU (by lia) (IU (by lia) (by lia))
   lia
end
section
namespace K23
noncomputable def aj (i:Nat):Stmt:=PySem.Challenge.pw_fewtimes_k23_turned_and_mirrored.main.body.getD i (.Pass ⟨0,0,0,0⟩)
noncomputable def d0:FD:=gj (aj 1)
noncomputable def b1:MSs :=
 (.cons (.asg (.tup (.cons (.name 1) (.cons (.name 2) (.cons (.name 3) (.cons (.name 4) .nil))))) (.var 0))
 (.cons (.ret (.call 0 (.cons (.var 2) (.cons (.var 3) (.cons (.var 1) (.cons (.comp [none,none,none,none] ["k", "i", "j", "c"] (.last (.seq (.var 4)) (.tup (.cons (.name 0) (.cons (.name 1) (.cons (.name 2) (.cons (.name 3) .nil))))) .nil (.tup (.cons (.var 1) (.cons (.var 2) (.cons (.var 0) (.cons (.var 3) .nil))))))) .nil))))))
 .nil))
noncomputable def d1:FD:=⟨"task_turned",aj 3,["task", "left", "right", "many", "terms"],1,b1⟩
noncomputable def b2:MSs :=
 (.cons (.asg (.tup (.cons (.name 1) (.cons (.name 2) (.cons (.name 3) (.cons (.name 4) .nil))))) (.var 0))
 (.cons (.ret (.tup (.cons (.var 2) (.cons (.var 3) (.cons (.var 1) (.cons (.comp [none,none,none] ["l", "r", "o"] (.last (.seq (.var 4)) (.tup (.cons (.name 0) (.cons (.name 1) (.cons (.name 2) .nil)))) .nil (.tup (.cons (.var 1) (.cons (.var 2) (.cons (.var 0) .nil)))))) .nil))))))
 .nil))
noncomputable def d2:FD:=⟨"turned",aj 4,["scheme", "left", "right", "many", "products"],1,b2⟩
noncomputable def b3:MSs :=
 (.cons (.asg (.tup (.cons (.name 1) (.cons (.name 2) (.cons (.name 3) (.cons (.name 4) .nil))))) (.var 0))
 (.cons (.ret (.call 0 (.cons (.var 2) (.cons (.var 1) (.cons (.var 3) (.cons (.comp [none,none,none,none] ["k", "i", "j", "c"] (.last (.seq (.var 4)) (.tup (.cons (.name 0) (.cons (.name 1) (.cons (.name 2) (.cons (.name 3) .nil))))) .nil (.tup (.cons (.var 0) (.cons (.var 2) (.cons (.var 1) (.cons (.var 3) .nil))))))) .nil))))))
 .nil))
noncomputable def d3:FD:=⟨"task_mirrored",aj 5,["task", "left", "right", "many", "terms"],1,b3⟩
noncomputable def b4:MSs :=
 (.cons (.asg (.tup (.cons (.name 1) (.cons (.name 2) (.cons (.name 3) (.cons (.name 4) .nil))))) (.var 0))
 (.cons (.ret (.tup (.cons (.var 2) (.cons (.var 1) (.cons (.var 3) (.cons (.comp [none,none,none] ["l", "r", "o"] (.last (.seq (.var 4)) (.tup (.cons (.name 0) (.cons (.name 1) (.cons (.name 2) .nil)))) .nil (.tup (.cons (.var 1) (.cons (.var 0) (.cons (.var 2) .nil)))))) .nil))))))
 .nil))
noncomputable def d4:FD:=⟨"mirrored",aj 6,["scheme", "left", "right", "many", "products"],1,b4⟩
noncomputable def d5:FD:=cH (aj 8)
noncomputable def d6:FD:=gp (aj 9) 5
noncomputable def d7:FD:=fw (aj 10) 0 5 6
noncomputable def d8:FD:=jA (aj 12)
noncomputable def d9:FD:=kc (aj 13)
noncomputable def d10:FD:=rJ (aj 14) 8 9
noncomputable def d11:FD:=nU (aj 15) 9
noncomputable def d12:FD:=iC (aj 16) 11
noncomputable def d13:FD:=nX (aj 17) 12
noncomputable def d14:FD:=iE (aj 18) 11 13
noncomputable def d15:FD:=eL "_law_due" (aj 19) 15
noncomputable def d16:FD:=gk "_law_part_here" "_law_number_here" (aj 20)
noncomputable def d17:FD:=oo "_law_scheme_here" (aj 21) 16
noncomputable def b18:MSs :=
 (.cons (.asg (.name 1) (.blt .int (.cons (.cmp .eq (.call 11 (.cons (.var 0) (.cons (.int 8) .nil))) (.int 0)) .nil)))
 (.cons (.ret (.call 14 (.cons (.var 0) (.cons (.comp [none,(some 0),(some 1)] ["_law_side", "_law_box_here", "_law_way"] (.last (.rng1 (.int 3)) (.name 0) .nil (.bin .add (.int 1) (.call 11 (.cons (.var 1) (.cons (.ix (.lst (.cons (.int 5) (.cons (.int 12) .nil))) (.var 2)) .nil)))))) (.cons (.ix (.lst (.cons (.call 11 (.cons (.var 0) (.cons (.int 9) .nil))) (.cons (.int 12) .nil))) (.var 1)) .nil)))))
 .nil))
noncomputable def d18:FD:=⟨"_law_drawn",aj 22,["_law_box_here", "_law_way"],1,b18⟩
noncomputable def b19:MSs :=
 (.cons (.asg (.name 1) (.call 17 (.cons (.var 0) .nil)))
 (.cons (.ret (.bin .add (.sl (.var 0) .none (.some (.int 3))) (.tup (.cons (.comp [none,(some 1)] ["_law_place", "_law_sums_here"] (.last (.seq (.blt .sortk (.cons (.var 1) .nil))) (.name 0) .nil (.bin .add (.var 0) (.tup (.cons (.ix (.var 1) (.var 0)) .nil))))) .nil))))
 .nil))
noncomputable def d19:FD:=⟨"_law_task_by",aj 23,["_law_scheme_here", "_law_sums_here"],1,b19⟩
noncomputable def b20:MSs :=
 (.cons (.asg (.name 2) (.dnew true))
 (.cons (.for (.tup (.cons (.name 3) (.cons (.name 4) (.cons (.name 5) (.cons (.name 6) .nil))))) (.seq (.ix (.var 0) (.int 3))) (.cons (.asg (.name 7) (.tup (.cons (.var 4) (.cons (.var 5) (.cons (.var 3) .nil)))))
 (.cons (.asg (.name 8) (.comp [none,(some 7)] ["_law_side", "_law_old"] (.last (.seq (.var 1)) (.name 0) .nil (.ix (.var 1) (.var 0)))))
 (.cons (.put (.var 2) (.tup (.cons (.ix (.var 8) (.int 2)) (.cons (.ix (.var 8) (.int 0)) (.cons (.ix (.var 8) (.int 1)) .nil)))) (.var 6))
 .nil))))
 (.cons (.ret (.bin .add (.blt .tuple (.cons (.comp [none,(some 0)] ["_law_side", "_law_task"] (.last (.seq (.var 1)) (.name 0) .nil (.ix (.var 1) (.var 0)))) .nil)) (.tup (.cons (.comp [none,(some 2)] ["_law_place", "_law_sums_here"] (.last (.seq (.blt .sortk (.cons (.var 2) .nil))) (.name 0) .nil (.bin .add (.var 0) (.tup (.cons (.ix (.var 1) (.var 0)) .nil))))) .nil))))
 .nil)))
noncomputable def d20:FD:=⟨"_law_moved",aj 24,["_law_task", "_law_order", "_law_sums_here", "_law_k", "_law_i", "_law_j", "_law_c", "_law_old", "_law_new"],2,b20⟩
noncomputable def b21:MSs :=
 (.cons (.asg (.name 2) (.comp [none,(some 1)] ["_law_product", "_law_order"] (.last (.seq (.ix (.var 0) (.int 3))) (.name 0) .nil (.blt .tuple (.cons (.comp [none,(some 0)] ["_law_side", "_law_product"] (.last (.seq (.var 1)) (.name 0) .nil (.ix (.var 1) (.var 0)))) .nil)))))
 (.cons (.ret (.bin .add (.blt .tuple (.cons (.comp [none,(some 0)] ["_law_side", "_law_scheme_here"] (.last (.seq (.var 1)) (.name 0) .nil (.ix (.var 1) (.var 0)))) .nil)) (.tup (.cons (.var 2) .nil))))
 .nil))
noncomputable def d21:FD:=⟨"_law_made",aj 25,["_law_scheme_here", "_law_order", "_law_products"],2,b21⟩
noncomputable def b22:MSs :=
 (.cons (.for (.tup (.cons (.name 2) (.cons (.name 3) (.cons (.name 4) .nil)))) (.seq (.tup (.cons (.tup (.cons (.tup (.cons (.int 1) (.cons (.int 2) (.cons (.int 0) .nil)))) (.cons (.fnv "turned" 2) (.cons (.fnv "task_turned" 1) .nil)))) (.cons (.tup (.cons (.tup (.cons (.int 1) (.cons (.int 0) (.cons (.int 2) .nil)))) (.cons (.fnv "mirrored" 4) (.cons (.fnv "task_mirrored" 3) .nil)))) .nil)))) (.cons (.par 5 6 (.call 21 (.cons (.var 0) (.cons (.var 2) .nil))) (.call 20 (.cons (.var 1) (.cons (.var 2) .nil))))
 (.cons (.for (.name 7) (.rng1 (.int 2)) (.cons (.par 8 9 (.callv 3 [("mirrored",4),("task_mirrored",3),("task_turned",1),("turned",2)] (.cons (.var 0) .nil)) (.callv 4 [("mirrored",4),("task_mirrored",3),("task_turned",1),("turned",2)] (.cons (.var 1) .nil)))
 (.cons (.ite (.or (.cons (.not (.tru (.call 15 (.cons (.var 8) (.cons (.var 5) .nil))))) (.cons (.not (.tru (.call 15 (.cons (.var 9) (.cons (.var 6) .nil))))) .nil))) (.cons (.ret (.bl false))
 .nil) .nil)
 (.cons (.ite (.cmp .ne (.call 19 (.cons (.var 8) .nil)) (.var 9)) (.cons (.ret (.bl false))
 .nil) .nil)
 (.cons (.drop (.meth0 .clear (.ix (.var 8) (.int 3))))
 (.cons (.drop (.meth0 .clear (.ix (.var 9) (.int 3))))
 .nil))))))
 .nil)))
 (.cons (.ret (.bl true))
 .nil))
noncomputable def d22:FD:=⟨"_law_one_right",aj 26,["_law_scheme_here", "_law_task", "_law_order", "_law_one", "_law_other", "_law_made_here", "_law_done", "_law_turn", "_law_found", "_law_told"],2,b22⟩
noncomputable def b23:MSs :=
 (.cons (.for (.name 1) (.rng1 (.bin .add (.int 1) (.blt .min2 (.cons (.int 11) (.cons (.blt .len (.cons (.var 0) .nil)) .nil))))) (.cons (.asg (.name 2) (.call 18 (.cons (.call 10 (.cons (.var 0) (.cons (.var 1) .nil))) .nil)))
 (.cons (.asg (.name 3) (.call 7 (.cons (.var 2) .nil)))
 (.cons (.ite (.not (.tru (.call 15 (.cons (.var 3) (.cons (.call 19 (.cons (.var 2) .nil)) .nil))))) (.cons (.ret (.bl false))
 .nil) .nil)
 (.cons (.asg (.name 4) (.lst (.cons (.blt .list (.cons (.ix (.var 2) (.int 3)) .nil)) (.cons (.blt .list (.cons (.ix (.var 3) (.int 3)) .nil)) .nil))))
 (.cons (.ite (.not (.tru (.call 22 (.cons (.var 2) (.cons (.var 3) .nil))))) (.cons (.ret (.bl false))
 .nil) .nil)
 (.cons (.ite (.or (.cons (.cmp .ne (.call 2 (.cons (.call 2 (.cons (.call 2 (.cons (.var 2) .nil)) .nil)) .nil)) (.var 2)) (.cons (.cmp .ne (.call 4 (.cons (.call 4 (.cons (.var 2) .nil)) .nil)) (.var 2)) .nil))) (.cons (.ret (.bl false))
 .nil) .nil)
 (.cons (.ite (.or (.cons (.cmp .ne (.call 1 (.cons (.call 1 (.cons (.call 1 (.cons (.var 3) .nil)) .nil)) .nil)) (.var 3)) (.cons (.cmp .ne (.call 3 (.cons (.call 3 (.cons (.var 3) .nil)) .nil)) (.var 3)) .nil))) (.cons (.ret (.bl false))
 .nil) .nil)
 (.cons (.ite (.cmp .ne (.call 4 (.cons (.call 2 (.cons (.var 2) .nil)) .nil)) (.call 2 (.cons (.call 2 (.cons (.call 4 (.cons (.var 2) .nil)) .nil)) .nil))) (.cons (.ret (.bl false))
 .nil) .nil)
 (.cons (.ite (.cmp .ne (.call 3 (.cons (.call 1 (.cons (.var 3) .nil)) .nil)) (.call 1 (.cons (.call 1 (.cons (.call 3 (.cons (.var 3) .nil)) .nil)) .nil))) (.cons (.ret (.bl false))
 .nil) .nil)
 (.cons (.ite (.cmp .ne (.lst (.cons (.ix (.var 2) (.int 3)) (.cons (.ix (.var 3) (.int 3)) .nil))) (.var 4)) (.cons (.ret (.bl false))
 .nil) .nil)
 .nil)))))))))))
 (.cons (.ret (.bl true))
 .nil))
noncomputable def d23:FD:=⟨"law",aj 27,["_law_script", "_law_k", "_law_scheme_here", "_law_task", "_law_kept"],1,b23⟩
noncomputable def tab:List FD := [d0,d1,d2,d3,d4,d5,d6,d7,d8,d9,d10,d11,d12,d13,d14,d15,d16,d17,d18,d19,d20,d21,d22,d23]
noncomputable def oA:List (Str×D) := []
end K23
end
section
namespace K23
theorem Br:∀ d∈tab,rG (tab.map (·.name)) oA d=true:=by decide +kernel
noncomputable abbrev PA (K:Frag) (x:Str) (f:Addr):Prop:=Jy K GD x=some (some (.ref f))
noncomputable abbrev PL (K:Frag) (f:Addr) (x:Str) (s:Stmt) (oc:gV) (od:Option Addr) (kV dc pm:gV) (an:Option Addr) (cd ct:gV) (sl:Array (Option gV)):Prop:=K.lookup f=some ⟨oc,od, .func (Iv x x (dh s) (bP s) (aw s) .none kV dc pm an cd ct),sl⟩
noncomputable abbrev PC (K:Frag) (c:gV) (x:Str):Prop:=Km K c x=true
noncomputable abbrev PK (K:Frag) (f:Addr):Prop:=IQ K (.ref f)=true
theorem all_mk {l:Lz} {w:G2} {K:Frag} {h:Heap} {mg:Str->Option gV} {fa:Addr} (X:K.In h) (G:h.Ns GD mg) (hfa:mg "law" = some (.ref fa)) (z:∀ x∈bltNames,Jy K GD x=some none)
 (a0:PA K "task_of" f0) (l0:PL K f0 "task_of" (aj 1) oc0 od0 kV0 dc0 pm0 an0 cd0 ct0 sl0) (c0:PC K cd0 "task_of") (k0:PK K f0)
 (a1:PA K "task_turned" f1) (l1:PL K f1 "task_turned" (aj 3) oc1 od1 kV1 dc1 pm1 an1 cd1 ct1 sl1) (c1:PC K cd1 "task_turned") (k1:PK K f1)
 (a2:PA K "turned" f2) (l2:PL K f2 "turned" (aj 4) oc2 od2 kV2 dc2 pm2 an2 cd2 ct2 sl2) (c2:PC K cd2 "turned") (k2:PK K f2)
 (a3:PA K "task_mirrored" f3) (l3:PL K f3 "task_mirrored" (aj 5) oc3 od3 kV3 dc3 pm3 an3 cd3 ct3 sl3) (c3:PC K cd3 "task_mirrored") (k3:PK K f3)
 (a4:PA K "mirrored" f4) (l4:PL K f4 "mirrored" (aj 6) oc4 od4 kV4 dc4 pm4 an4 cd4 ct4 sl4) (c4:PC K cd4 "mirrored") (k4:PK K f4)
 (a5:PA K "filled" f5) (l5:PL K f5 "filled" (aj 8) oc5 od5 kV5 dc5 pm5 an5 cd5 ct5 sl5) (c5:PC K cd5 "filled") (k5:PK K f5)
 (a6:PA K "rows_by_pairs" f6) (l6:PL K f6 "rows_by_pairs" (aj 9) oc6 od6 kV6 dc6 pm6 an6 cd6 ct6 sl6) (c6:PC K cd6 "rows_by_pairs") (k6:PK K f6)
 (a7:PA K "task_by" f7) (l7:PL K f7 "task_by" (aj 10) oc7 od7 kV7 dc7 pm7 an7 cd7 ct7 sl7) (c7:PC K cd7 "task_by") (k7:PK K f7)
 (a8:PA K "_law_cell_at" f8) (l8:PL K f8 "_law_cell_at" (aj 12) oc8 od8 kV8 dc8 pm8 an8 cd8 ct8 sl8) (c8:PC K cd8 "_law_cell_at") (k8:PK K f8)
 (a9:PA K "_law_mixed" f9) (l9:PL K f9 "_law_mixed" (aj 13) oc9 od9 kV9 dc9 pm9 an9 cd9 ct9 sl9) (c9:PC K cd9 "_law_mixed") (k9:PK K f9)
 (a10:PA K "_law_box" f10) (l10:PL K f10 "_law_box" (aj 14) oc10 od10 kV10 dc10 pm10 an10 cd10 ct10 sl10) (c10:PC K cd10 "_law_box") (k10:PK K f10)
 (a11:PA K "_law_take" f11) (l11:PL K f11 "_law_take" (aj 15) oc11 od11 kV11 dc11 pm11 an11 cd11 ct11 sl11) (c11:PC K cd11 "_law_take") (k11:PK K f11)
 (a12:PA K "_law_number" f12) (l12:PL K f12 "_law_number" (aj 16) oc12 od12 kV12 dc12 pm12 an12 cd12 ct12 sl12) (c12:PC K cd12 "_law_number") (k12:PK K f12)
 (a13:PA K "_law_part" f13) (l13:PL K f13 "_law_part" (aj 17) oc13 od13 kV13 dc13 pm13 an13 cd13 ct13 sl13) (c13:PC K cd13 "_law_part") (k13:PK K f13)
 (a14:PA K "_law_scheme" f14) (l14:PL K f14 "_law_scheme" (aj 18) oc14 od14 kV14 dc14 pm14 an14 cd14 ct14 sl14) (c14:PC K cd14 "_law_scheme") (k14:PK K f14)
 (a15:PA K "_law_same" f15) (l15:PL K f15 "_law_same" (aj 19) oc15 od15 kV15 dc15 pm15 an15 cd15 ct15 sl15) (c15:PC K cd15 "_law_same") (k15:PK K f15)
 (a16:PA K "_law_nonzero" f16) (l16:PL K f16 "_law_nonzero" (aj 20) oc16 od16 kV16 dc16 pm16 an16 cd16 ct16 sl16) (c16:PC K cd16 "_law_nonzero") (k16:PK K f16)
 (a17:PA K "_law_sums" f17) (l17:PL K f17 "_law_sums" (aj 21) oc17 od17 kV17 dc17 pm17 an17 cd17 ct17 sl17) (c17:PC K cd17 "_law_sums") (k17:PK K f17)
 (a18:PA K "_law_drawn" f18) (l18:PL K f18 "_law_drawn" (aj 22) oc18 od18 kV18 dc18 pm18 an18 cd18 ct18 sl18) (c18:PC K cd18 "_law_drawn") (k18:PK K f18)
 (a19:PA K "_law_task_by" f19) (l19:PL K f19 "_law_task_by" (aj 23) oc19 od19 kV19 dc19 pm19 an19 cd19 ct19 sl19) (c19:PC K cd19 "_law_task_by") (k19:PK K f19)
 (a20:PA K "_law_moved" f20) (l20:PL K f20 "_law_moved" (aj 24) oc20 od20 kV20 dc20 pm20 an20 cd20 ct20 sl20) (c20:PC K cd20 "_law_moved") (k20:PK K f20)
 (a21:PA K "_law_made" f21) (l21:PL K f21 "_law_made" (aj 25) oc21 od21 kV21 dc21 pm21 an21 cd21 ct21 sl21) (c21:PC K cd21 "_law_made") (k21:PK K f21)
 (a22:PA K "_law_one_right" f22) (l22:PL K f22 "_law_one_right" (aj 26) oc22 od22 kV22 dc22 pm22 an22 cd22 ct22 sl22) (c22:PC K cd22 "_law_one_right") (k22:PK K f22)
 (a23:PA K "law" f23) (l23:PL K f23 "law" (aj 27) oc23 od23 kV23 dc23 pm23 an23 cd23 ct23 sl23) (c23:PC K cd23 "law") (k23:PK K f23)
 : ∃ fd:IP,(∀ (s:tv) (v:gV),Nc s fd ⟨[v],[]⟩ [("_law_script",v)]) /\ ∀ base:Heap,K.In base->base.Ns GD mg->du l.prog w K mg base CX0 40 fa fd ["_law_script"] (lSp K (phi tab 40 23)):=by
 have e:=hfa.symm.trans (FP X G a23)
 cases e
 have O:xQ K mg tab oA:=by
  refine ⟨fun x hx=>PySem.W.mg_none_of X G (z x hx), ?_,Br, ?_⟩
  ·intro i d hd
   match i,hd with
   | 0,hd=>cases hd;exact ⟨_,_,ah l0 c0 k0,FP X G a0,a0,(ah l0 c0 k0).binds fun _ _ _ _ _ _ us hl=>by obtain ⟨u0,u1,u2,u3,rfl⟩:=Ca us hl;rfl⟩
   | 1,hd=>cases hd;exact ⟨_,_,ah l1 c1 k1,FP X G a1,a1,(ah l1 c1 k1).binds fun _ _ _ _ _ _ us hl=>by obtain ⟨u0,rfl⟩:=bH us hl;rfl⟩
   | 2,hd=>cases hd;exact ⟨_,_,ah l2 c2 k2,FP X G a2,a2,(ah l2 c2 k2).binds fun _ _ _ _ _ _ us hl=>by obtain ⟨u0,rfl⟩:=bH us hl;rfl⟩
   | 3,hd=>cases hd;exact ⟨_,_,ah l3 c3 k3,FP X G a3,a3,(ah l3 c3 k3).binds fun _ _ _ _ _ _ us hl=>by obtain ⟨u0,rfl⟩:=bH us hl;rfl⟩
   | 4,hd=>cases hd;exact ⟨_,_,ah l4 c4 k4,FP X G a4,a4,(ah l4 c4 k4).binds fun _ _ _ _ _ _ us hl=>by obtain ⟨u0,rfl⟩:=bH us hl;rfl⟩
   | 5,hd=>cases hd;exact ⟨_,_,ah l5 c5 k5,FP X G a5,a5,(ah l5 c5 k5).binds fun _ _ _ _ _ _ us hl=>by obtain ⟨u0,rfl⟩:=bH us hl;rfl⟩
   | 6,hd=>cases hd;exact ⟨_,_,ah l6 c6 k6,FP X G a6,a6,(ah l6 c6 k6).binds fun _ _ _ _ _ _ us hl=>by obtain ⟨u0,rfl⟩:=bH us hl;rfl⟩
   | 7,hd=>cases hd;exact ⟨_,_,ah l7 c7 k7,FP X G a7,a7,(ah l7 c7 k7).binds fun _ _ _ _ _ _ us hl=>by obtain ⟨u0,rfl⟩:=bH us hl;rfl⟩
   | 8,hd=>cases hd;exact ⟨_,_,ah l8 c8 k8,FP X G a8,a8,(ah l8 c8 k8).binds fun _ _ _ _ _ _ us hl=>by obtain ⟨u0,u1,rfl⟩:=cM us hl;rfl⟩
   | 9,hd=>cases hd;exact ⟨_,_,ah l9 c9 k9,FP X G a9,a9,(ah l9 c9 k9).binds fun _ _ _ _ _ _ us hl=>by obtain ⟨u0,u1,rfl⟩:=cM us hl;rfl⟩
   | 10,hd=>cases hd;exact ⟨_,_,ah l10 c10 k10,FP X G a10,a10,(ah l10 c10 k10).binds fun _ _ _ _ _ _ us hl=>by obtain ⟨u0,u1,rfl⟩:=cM us hl;rfl⟩
   | 11,hd=>cases hd;exact ⟨_,_,ah l11 c11 k11,FP X G a11,a11,(ah l11 c11 k11).binds fun _ _ _ _ _ _ us hl=>by obtain ⟨u0,u1,rfl⟩:=cM us hl;rfl⟩
   | 12,hd=>cases hd;exact ⟨_,_,ah l12 c12 k12,FP X G a12,a12,(ah l12 c12 k12).binds fun _ _ _ _ _ _ us hl=>by obtain ⟨u0,rfl⟩:=bH us hl;rfl⟩
   | 13,hd=>cases hd;exact ⟨_,_,ah l13 c13 k13,FP X G a13,a13,(ah l13 c13 k13).binds fun _ _ _ _ _ _ us hl=>by obtain ⟨u0,u1,rfl⟩:=cM us hl;rfl⟩
   | 14,hd=>cases hd;exact ⟨_,_,ah l14 c14 k14,FP X G a14,a14,(ah l14 c14 k14).binds fun _ _ _ _ _ _ us hl=>by obtain ⟨u0,u1,u2,rfl⟩:=xR us hl;rfl⟩
   | 15,hd=>cases hd;exact ⟨_,_,ah l15 c15 k15,FP X G a15,a15,(ah l15 c15 k15).binds fun _ _ _ _ _ _ us hl=>by obtain ⟨u0,u1,rfl⟩:=cM us hl;rfl⟩
   | 16,hd=>cases hd;exact ⟨_,_,ah l16 c16 k16,FP X G a16,a16,(ah l16 c16 k16).binds fun _ _ _ _ _ _ us hl=>by obtain ⟨u0,rfl⟩:=bH us hl;rfl⟩
   | 17,hd=>cases hd;exact ⟨_,_,ah l17 c17 k17,FP X G a17,a17,(ah l17 c17 k17).binds fun _ _ _ _ _ _ us hl=>by obtain ⟨u0,rfl⟩:=bH us hl;rfl⟩
   | 18,hd=>cases hd;exact ⟨_,_,ah l18 c18 k18,FP X G a18,a18,(ah l18 c18 k18).binds fun _ _ _ _ _ _ us hl=>by obtain ⟨u0,rfl⟩:=bH us hl;rfl⟩
   | 19,hd=>cases hd;exact ⟨_,_,ah l19 c19 k19,FP X G a19,a19,(ah l19 c19 k19).binds fun _ _ _ _ _ _ us hl=>by obtain ⟨u0,rfl⟩:=bH us hl;rfl⟩
   | 20,hd=>cases hd;exact ⟨_,_,ah l20 c20 k20,FP X G a20,a20,(ah l20 c20 k20).binds fun _ _ _ _ _ _ us hl=>by obtain ⟨u0,u1,rfl⟩:=cM us hl;rfl⟩
   | 21,hd=>cases hd;exact ⟨_,_,ah l21 c21 k21,FP X G a21,a21,(ah l21 c21 k21).binds fun _ _ _ _ _ _ us hl=>by obtain ⟨u0,u1,rfl⟩:=cM us hl;rfl⟩
   | 22,hd=>cases hd;exact ⟨_,_,ah l22 c22 k22,FP X G a22,a22,(ah l22 c22 k22).binds fun _ _ _ _ _ _ us hl=>by obtain ⟨u0,u1,rfl⟩:=cM us hl;rfl⟩
   | 23,hd=>cases hd;exact ⟨_,_,ah l23 c23 k23,FP X G a23,a23,(ah l23 c23 k23).binds fun _ _ _ _ _ _ us hl=>by obtain ⟨u0,rfl⟩:=bH us hl;rfl⟩
   | i+24,hd=>simp [tab] at hd
  ·intro x i hx;simp only [oA,Fo,Gn,or_false,Prod.mk.injEq] at hx
 refine ⟨Iv "law" "law" (dh (aj 27)) (bP (aj 27)) (aw (aj 27)) .none kV23 dc23 pm23 an23 cd23 ct23,fun s v => .of_eq rfl,fun base _ _ => ?_⟩;exact ut O 40 23 d23 _ _ rfl (ah l23 c23 k23)
theorem walk {l:Lz} {q:FI} {loose:List Str} {XP:(Str->Option gV)->Heap->Prop} {YP:G2->Heap->Prop} {d:DefRec} {K:Params->Frag} (hn:l.most=some 63) (hdf:d.params.defaults=[])
 (hlaw:∀ ns:List Int,ns.length<=63->phi tab 40 23 [.con (ns.map D.int)] (fun _=>none) fun d _=>d = .bl true)
 (hY:∀ (w:G2) (h:Heap),YP w h->(K w.params).In h)
 (F:∀ (w:G2) (mg:Str->Option gV) (fa:Addr) (h:Heap),(K w.params).In h->h.Ns GD mg->mg d.name=some (.ref fa) ->
   ∃ fd:IP,(∀ (s:tv) (u:gV),Nc s fd ⟨[u],[]⟩ [("_law_script",u)]) /\ ∀ base:Heap,(K w.params).In base->base.Ns GD mg->du l.prog w (K w.params) mg base CX0 40 fa fd ["_law_script"] (lSp (K w.params) (phi tab 40 23))) :
 PySem.W.WalkO q loose XP YP l.row.toRowW d [] (fun f vs=>Om f vs) :=
 L2.walk_of (n := 63) (k := 40) (x := "_law_script") (CX:=fun _=>CX0) (sp:=fun w=>lSp (K w.params) (phi tab 40 23)) hn (by decide) hdf ⟨rfl,by decide,by decide⟩ hY F (fun w H a ns hl hO hS=>Bc hO hS (hlaw ns hl)) fun _ _ _ _ _ z=>z
end K23
end
section
namespace K23
open PySem PySem.Spec PyProof.Rows L2.Srt
theorem qk {n:Nat} (j : 1<=n):rK tab n 9:=uO (x := "_law_number_here") (s:=aj 13) rfl j
theorem dH {n:Nat} (j : 2<=n):nV tab n 11:=fun z h1 h2 q=>zF (s:=aj 15) (fm := 9) rfl (qk (by lia)) j z h1 h2 q
theorem rX {n:Nat} (z : 3<=n):nW tab n 12:=fun j q=>uL (s:=aj 16) (ft := 11) rfl (dH (by lia)) (by lia) j q
theorem xh {n:Nat} (B : 4<=n):uM tab n 13:=fun j z q=>zG (s:=aj 17) (fn := 12) rfl (rX (by lia)) (by lia) j z q
theorem iH {n m:Nat} (j:n+1<=m) {u v:D} {M:Mem} {Q:QD} (h:Sm M n u v) (q:∀ M',Ge M M'->Q (.bl true) M'):phi tab m 15 [u,v] M Q:=zP (s:=aj 19) (y := "_law_due") rfl j h q
theorem Bs {n:Nat} (j : 1<=n):Bm tab n 16:=fun z q=>rN (s:=aj 20) (xp := "_law_part_here") (xn := "_law_number_here") rfl j z q
theorem xi {n:Nat} (J : 2<=n) {x0 j z:D} {p:Addr} {ps:List Pr} {M:Mem} {Q:QD} (B:M p=some (.lst (ps.map prD))) (F:(aM ps).length<=10000000) (G:∀ p∈ps,rO p)
 (q:∀ (L:List Tm) d M',IsSum ps L->L.length<=10000000->Ge M M'->M d=none->M' d=some (.dct true (L.map kcD))->Q (.ref d) M'):phi tab n 17 [.tup [x0,j,z, .ref p]] M Q:=zJ (s:=aj 21) (xs := "_law_scheme_here") (fz := 16) rfl (Bs (by lia)) (by lia) B F G q
theorem ck {M M':Mem} {p:Addr} (g:Ge M M') (h:M' p=none):M p=none:=by
 cases hz:M p with
 | none=>rfl
 | some o=>rw [g _ _ hz] at h;cases h
structure Cn (rs:List Tm) (f:K3->Int):Prop where
 srt:rs.Pairwise fun a b=>klt a.1 b.1
 nz:∀ r∈rs,r.2≠0
 cf:∀ k,cf rs k=f k
theorem Cn.task {rs:List Tm} {f:K3->Int} (h:Cn rs f):IsTask rs rs:=⟨h.srt,h.nz,fun _=>rfl,fun r j=>Fy j,Fl _⟩
theorem Cn.uniq {rs rs':List Tm} {f:K3->Int} (h:Cn rs f) (h':Cn rs' f):rs=rs':=h.task.uniq h'.task fun k=>(h.cf k).trans (h'.cf k).symm
theorem Cn.of {ts rs:List Tm} {f:K3->Int} (h:IsTask ts rs) (e:∀ k,Mi.cf ts k=f k):Cn rs f:=⟨h.srt,h.nz,fun k=>(h.cf k).trans (e k)⟩
theorem Cn.nd {rs:List Tm} {f:K3->Int} (h:Cn rs f):(rs.map (·.1)).Nodup:=h.task.nodup
theorem Bt {n:Nat} {l:List Nat} (q:l.Nodup) (h:∀ x∈l,x < n):l.length<=n:=by
 have p:l.Perm ((Hf n).filter fun x=>decide (x∈l)):=(Kw q (List.nodup_range.filter _)).mpr fun a=>by
  simp only [Hh,Kj,decide_eq_true_eq];exact ⟨fun j=>⟨h a j,j⟩,fun j=>j.2⟩
 have:=GG (fun x=>decide (x∈l)) (Hf n);rw [KQ] at this;rw [p.length_eq];exact this
theorem Cn.few {rs:List Tm} {q z B:Nat} {ps:List Pr} (G:∀ u∈ps,u.1.length=q/\u.2.1.length=z/\u.2.2.length=B) (h:Cn rs fun k=>Tn ps k.1 k.2.1 k.2.2) (h0:q<=12) (h1:z<=12) (h2:B<=12):rs.length<=1728:=by
 have box:∀ t∈rs,(0<=t.1.1/\t.1.1 < 12)/\(0<=t.1.2.1/\t.1.2.1 < 12)/\(0<=t.1.2.2/\t.1.2.2 < 12):=fun t j=>by
  have e:=gi h.nd j;rw [h.cf] at e;have:=uV G (by rw [e];exact h.nz t j)
  lia
 have key:(rs.map fun t=>(t.1.1*144+t.1.2.1*12+t.1.2.2).toNat).Nodup:=by
  have F:=h.nd;rw [GJ,G7] at F ⊢;refine KU (fun {a b} ha hb hab e=>hab ?_) F;have ba:=box a ha;have bb:=box b hb;refine L3 ?_ (L3 ?_ ?_) <;> lia
 have:=Bt (n := 1728) key fun x hx=>by
  obtain ⟨t,j,rfl⟩:=Fw.mp hx;have:=box t j;lia
 rw [Fd] at this;exact this
noncomputable def mvT (π:K3->K3) (rs:List Tm):List Tm:=rs.map fun t=>(π t.1,t.2)
theorem oB {π:K3->K3} (hi:∀ a b, π a = π b->a=b) {k:K3}:∀ {rs:List Tm},cf (mvT π rs) (π k)=cf rs k
 | [] => rfl
 | t::rs=>by
   have ih:=oB hi (k:=k) (rs:=rs);unfold mvT at ih ⊢;rw [FJ,aJ,ih,aJ];congr 1
   by_cases h:t.1=k
   ·rw [if_pos h,if_pos (by rw [h])]
   ·rw [if_neg h,if_neg fun z=>h (hi _ _ z)]
noncomputable def πt (k:K3):K3:=(k.2.1,k.2.2,k.1)
noncomputable def ιt (k:K3):K3:=(k.2.2,k.1,k.2.1)
noncomputable def πm (k:K3):K3:=(k.1,k.2.2,k.2.1)
theorem tι (k:K3) : πt (ιt k)=k:=rfl
theorem ιπ (k:K3) : ιt (πt k)=k:=rfl
theorem mm (k:K3) : πm (πm k)=k:=rfl
theorem Bu {rs:List Tm} {k:K3}:cf (mvT πt rs) k=cf rs (ιt k):=by
 have:=oB (π := πt) (fun a b e=>by rw [<- ιπ a,e, ιπ]) (k := ιt k) (rs:=rs)
 rw [tι] at this;exact this
theorem Bv {rs:List Tm} {k:K3}:cf (mvT πm rs) k=cf rs (πm k):=by
 have:=oB (π := πm) (fun a b e=>by rw [<- mm a,e,mm]) (k := πm k) (rs:=rs)
 rw [mm] at this;exact this
theorem oC {π:K3->K3} (hi:∀ a b, π a = π b->a=b) {rs:List Tm} (h:(rs.map (·.1)).Nodup):((mvT π rs).map (·.1)).Nodup:=by
 unfold mvT;rw [Gv];rw [GJ,G7] at h ⊢;exact h.imp fun j e=>j (hi _ _ e)
theorem it (a b:K3) (e : πt a = πt b):a=b:=by rw [<- ιπ a,e, ιπ]
theorem im (a b:K3) (e : πm a = πm b):a=b:=by rw [<- mm a,e,mm]
noncomputable def tP (u:Pr):Pr:=(u.2.1,u.2.2,u.1)
noncomputable def mP (u:Pr):Pr:=(u.2.1,u.1,u.2.2)
theorem y9 {k i j:Int}:∀ {ps:List Pr},Tn (ps.map tP) k i j=Tn ps j k i
 | [] => rfl
 | u::ps=>by
   rw [FJ,eK,eK,y9];unfold tP;dsimp only;rw [Nz (gz u.2.1 i*gz u.2.2 j), <- Int.mul_assoc]
theorem ya {k i j:Int}:∀ {ps:List Pr},Tn (ps.map mP) k i j=Tn ps k j i
 | [] => rfl
 | u::ps=>by
   rw [FJ,eK,eK,ya];unfold mP;dsimp only;rw [Nz (gz u.2.1 i)]
theorem ce {n:Nat} (hn : 2<=n) {x0 G J:D} {rs:List Tm} (hl:rs.length<=2000) {f:K3->Int} (j:Cn rs f) {p:Addr} {M:Mem} {Q:QD} (L:M p=some (.lst (rs.map tmD)))
 (q:∀ (rs':List Tm) p' M',Cn rs' (fun k=>f (ιt k))->rs'.length=rs.length->Ge M M'->M p'=none->M' p'=some (.lst (rs'.map tmD))->Q (.tup [G,J,x0, .ref p']) M'):phi tab n 1 [.tup [x0,G,J, .ref p]] M Q:=by
 refine ao (by lia) rfl rfl (ρ := [some _,none,none,none,none]) rfl ?_
 unfold d1 L2.Mi.K23.b1;walk_at "st";walk_at "st";refine ⟨_,ae L, ?_⟩;refine aG (f:=tmD) (ys:=rs) (I:=fun l ρ M' acc=>(∃ o0 z B F, ρ = [o0,z,B,F])/\M'=M/\acc=(mvT πt l).map tmD) rfl ⟨⟨_,_,_,_,rfl⟩,rfl,rfl⟩ (fun _ _ _ _ h=>by rw [h.2.1];exact ae L) ?_ ?_
 ·rintro l t r ρ M1 acc e ⟨⟨o0,z,B,F,rfl⟩,rfl,rfl⟩;refine ⟨_,rfl,fun N U => ?_⟩;have Y:=am e;walk_at "wp";exact ⟨by rw [Fb];lia,by rw [Fd];simp [mvT];rw [Fb];lia,U _ _ _ ⟨⟨_,_,_,_,rfl⟩,rfl,by simp [mvT,tmD, πt]⟩⟩
 ·rintro ρ M1 acc ⟨⟨o0,z,B,F,rfl⟩,rfl,rfl⟩ pt hpt;have g1:=Ge.new (o := .lst ((mvT πt rs).map tmD)) hpt;refine kl (s:=aj 1) rfl (by lia) (ae ab) (by simp [mvT];lia) fun rs' p' M' O g np e => ?_
  refine q rs' p' M' (Cn.of O fun k=>by rw [Bu,j.cf]) ?_ (g1.trans g) (ck g1 np) e
  have:=(O.full (oC it j.nd) fun t Z=>by obtain ⟨u,hu,rfl⟩:=Fw.mp Z;exact j.nz u hu).length_eq
  rw [this];simp [mvT]
theorem eM {n:Nat} (hn : 2<=n) {x0 G J:D} {rs:List Tm} (hl:rs.length<=2000) {f:K3->Int} (j:Cn rs f) {p:Addr} {M:Mem} {Q:QD} (L:M p=some (.lst (rs.map tmD)))
 (q:∀ (rs':List Tm) p' M',Cn rs' (fun k=>f (πm k))->rs'.length=rs.length->Ge M M'->M p'=none->M' p'=some (.lst (rs'.map tmD))->Q (.tup [G,x0,J, .ref p']) M'):phi tab n 3 [.tup [x0,G,J, .ref p]] M Q:=by
 refine ao (by lia) rfl rfl (ρ := [some _,none,none,none,none]) rfl ?_
 unfold d3 L2.Mi.K23.b3;walk_at "st";walk_at "st";refine ⟨_,ae L, ?_⟩;refine aG (f:=tmD) (ys:=rs) (I:=fun l ρ M' acc=>(∃ o0 z B F, ρ = [o0,z,B,F])/\M'=M/\acc=(mvT πm l).map tmD) rfl ⟨⟨_,_,_,_,rfl⟩,rfl,rfl⟩ (fun _ _ _ _ h=>by rw [h.2.1];exact ae L) ?_ ?_
 ·rintro l t r ρ M1 acc e ⟨⟨o0,z,B,F,rfl⟩,rfl,rfl⟩;refine ⟨_,rfl,fun N U => ?_⟩;have Y:=am e;walk_at "wp";exact ⟨by rw [Fb];lia,by rw [Fd];simp [mvT];rw [Fb];lia,U _ _ _ ⟨⟨_,_,_,_,rfl⟩,rfl,by simp [mvT,tmD, πm]⟩⟩
 ·rintro ρ M1 acc ⟨⟨o0,z,B,F,rfl⟩,rfl,rfl⟩ pt hpt;have g1:=Ge.new (o := .lst ((mvT πm rs).map tmD)) hpt;refine kl (s:=aj 1) rfl (by lia) (ae ab) (by simp [mvT];lia) fun rs' p' M' O g np e => ?_
  refine q rs' p' M' (Cn.of O fun k=>by rw [Bv,j.cf]) ?_ (g1.trans g) (ck g1 np) e
  have:=(O.full (oC im j.nd) fun t Z=>by obtain ⟨u,hu,rfl⟩:=Fw.mp Z;exact j.nz u hu).length_eq
  rw [this];simp [mvT]
theorem cI {n:Nat} (U : 1<=n) {x0 F G:D} {ps:List Pr} (Y:ps.length<=1000) {p:Addr} {M:Mem} {Q:QD} (J:M p=some (.lst (ps.map prD)))
 (q:∀ p' M',Ge M M'->M p'=none->M' p'=some (.lst ((ps.map tP).map prD))->Q (.tup [F,G,x0, .ref p']) M'):phi tab n 2 [.tup [x0,F,G, .ref p]] M Q:=by
 refine ao (by lia) rfl rfl (ρ := [some _,none,none,none,none]) rfl ?_
 unfold d2 L2.Mi.K23.b2;walk_at "st";walk_at "st";refine ⟨_,ae J, ?_⟩;refine aG (f:=prD) (ys:=ps) (I:=fun l ρ M' acc=>(∃ o0 z B, ρ = [o0,z,B])/\M'=M/\acc=(l.map tP).map prD) rfl ⟨⟨_,_,_,rfl⟩,rfl,rfl⟩ (fun _ _ _ _ h=>by rw [h.2.1];exact ae J) ?_ ?_
 ·rintro l t r ρ M1 acc e ⟨⟨o0,z,B,rfl⟩,rfl,rfl⟩;refine ⟨_,rfl,fun N L => ?_⟩;have O:=am e;walk_at "wp";exact ⟨by rw [Fb];lia,by rw [Fd,Fd,Fb];lia,L _ _ _ ⟨⟨_,_,_,rfl⟩,rfl,by simp [tP,prD]⟩⟩
 ·rintro ρ M1 acc ⟨⟨o0,z,B,rfl⟩,rfl,rfl⟩ pt j;exact ⟨by rw [Fb];lia,q pt _ (Ge.new j) j ab⟩
theorem gu {n:Nat} (U : 1<=n) {x0 F G:D} {ps:List Pr} (Y:ps.length<=1000) {p:Addr} {M:Mem} {Q:QD} (J:M p=some (.lst (ps.map prD)))
 (q:∀ p' M',Ge M M'->M p'=none->M' p'=some (.lst ((ps.map mP).map prD))->Q (.tup [F,x0,G, .ref p']) M'):phi tab n 4 [.tup [x0,F,G, .ref p]] M Q:=by
 refine ao (by lia) rfl rfl (ρ := [some _,none,none,none,none]) rfl ?_
 unfold d4 L2.Mi.K23.b4;walk_at "st";walk_at "st";refine ⟨_,ae J, ?_⟩;refine aG (f:=prD) (ys:=ps) (I:=fun l ρ M' acc=>(∃ o0 z B, ρ = [o0,z,B])/\M'=M/\acc=(l.map mP).map prD) rfl ⟨⟨_,_,_,rfl⟩,rfl,rfl⟩ (fun _ _ _ _ h=>by rw [h.2.1];exact ae J) ?_ ?_
 ·rintro l t r ρ M1 acc e ⟨⟨o0,z,B,rfl⟩,rfl,rfl⟩;refine ⟨_,rfl,fun N L => ?_⟩;have O:=am e;walk_at "wp";exact ⟨by rw [Fb];lia,by rw [Fd,Fd,Fb];lia,L _ _ _ ⟨⟨_,_,_,rfl⟩,rfl,by simp [mP,prD]⟩⟩
 ·rintro ρ M1 acc ⟨⟨o0,z,B,rfl⟩,rfl,rfl⟩ pt j;exact ⟨by rw [Fb];lia,q pt _ (Ge.new j) j ab⟩
theorem oE {L:List Tm} {d:Addr} {M:Mem} {N:NC} (z:(L.map (·.1)).Nodup) (hl:L.length<=10000000) (hd:M d=some (.dct true (L.map kcD)))
 (q:∀ (rs:List Tm) ρ M',rs.Perm L->(rs.Pairwise fun a b=>klt a.1 b.1)->Ge M M'->N ρ M' (rs.map tmD)) :
 jr [.ref d] M fun x M1 => ∃ ds,aC M1 x=some ds/\bp (bg 0) (cq (wOp fD (bU 0) (wAr jP (bv (wOp wIx (bU 1) (bU 0)) cb)))) (fun M=>aC M x=some ds) N ds [none,some (.ref d)] M1 []:=by
 refine ⟨d,true,_, .tup [.int, .int, .int],rfl,hd,rfl,fun kv F => ?_,fun ps ys G j B => ?_⟩
 ·obtain ⟨t,_,rfl⟩:=Fw.mp F;rfl
 obtain ⟨rs,J,rfl,O⟩:=oW z j B;have U:=Ge.new (o := .lst (rs.map fun t=>k3D t.1)) G;have d7:=U _ _ hd;have Y:=ab (M:=M) (a:=ps) (o := .lst (rs.map fun t=>k3D t.1));generalize ag M ps (.lst (rs.map fun t=>k3D t.1))=M7 at U d7 Y ⊢;have D4:rs.length<=10000000:=by rw [J.length_eq];lia
 refine ⟨_,ae Y, ?_⟩;refine aG (f:=fun t:Tm=>k3D t.1) (ys:=rs) (I:=fun l ρ M' acc=>(∃ o0, ρ = [o0,some (.ref d)])/\M'=M7/\acc=l.map tmD) rfl ⟨⟨_,rfl⟩,rfl,rfl⟩ (fun _ _ _ _ h=>by rw [h.2.1];exact ae Y) ?_ ?_
 ·rintro l t r ρ M8 acc e ⟨⟨o0,rfl⟩,rfl,rfl⟩;refine ⟨_,rfl,fun N' Z => ?_⟩;have D5:=am e;have ht:t∈L:=J.mem_iff.mp (by rw [e];simp)
  walk_at "wp";refine .inr (.inl ⟨true,_,_,d7,rfl,iF z ht, ?_⟩);refine ⟨by rw [Fb];lia, ?_⟩
  unfold k3D;walk_at "wp";refine ⟨.inr trivial,by rw [Fb];lia,by rw [Fd,Fb];lia,Z _ _ _ ⟨⟨_,rfl⟩,rfl, ?_⟩⟩
  rw [GO];rfl
 ·rintro ρ M8 acc ⟨⟨o0,rfl⟩,rfl,rfl⟩;exact q rs _ _ J O U
theorem oF {n:Nat} (U : 3<=n) {x0 j z:D} {ps:List Pr} (Y:(aM ps).length<=1000000) (G:∀ p∈ps,rO p) {p:Addr} {M:Mem} {Q:QD} (J:M p=some (.lst (ps.map prD)))
 (q:∀ (rs:List Tm) p' M',Cn rs (fun k=>Tn ps k.1 k.2.1 k.2.2)->Ge M M'->M p'=none->M' p'=some (.lst (rs.map tmD))->Q (.tup [x0,j,z, .ref p']) M'):phi tab n 19 [.tup [x0,j,z, .ref p]] M Q:=by
 refine ao (by lia) rfl rfl (ρ := [some _,none]) rfl ?_
 unfold d19 L2.Mi.K23.b19;walk_at "st";refine xi (by lia) J (by lia) G fun L d O B F g1 hd e1 => ?_
 walk_at "st";refine (show eE (.tup [x0,j,z, .ref p]) none (some 3) O _ from ?_);refine oE B.nd F e1 fun rs ρ M2 hpm hs g2 p' hp' => ?_;have g3:=g1.trans (g2.trans (Ge.new (o := .lst (rs.map tmD)) hp'));refine ⟨by rw [Fb];lia, .inr trivial,by rw [Fb];simp [fE,HT.sIx], ?_⟩
 exact q rs p' _ (Cn.of (B.task hpm hs) fun k=>by rw [B.cf,zL]) g3 (ck (g1.trans g2) hp') ab
theorem at3 {a b c:D} {s:Nat} (h:s < 3):atI [a,b,c] (s:Nat)=some ([a,b,c].getD s .non):=by
 match s,h with
 | 0,_=>rfl
 | 1,_=>rfl
 | 2,_=>rfl
theorem at4 {a b c e:D} {s:Nat} (h:s < 3):atI [a,b,c,e] (s:Nat)=some ([a,b,c].getD s .non):=by
 match s,h with
 | 0,_=>rfl
 | 1,_=>rfl
 | 2,_=>rfl
structure Or (o0 o1 o2:Nat) (π ι:K3->K3) (F:Pr->Pr):Prop where
 h0:o0 < 3
 h1:o1 < 3
 h2:o2 < 3
 key:∀ k i j:Int,[D.tup [[D.int i, .int j, .int k].getD o2 .non,[D.int i, .int j, .int k].getD o0 .non,[D.int i, .int j, .int k].getD o1 .non]]=[k3D (π (k,i,j))]
 pr:∀ u:Pr,D.tup [[D.tup (u.1.map .int), .tup (u.2.1.map .int), .tup (u.2.2.map .int)].getD o0 .non,[D.tup (u.1.map .int), .tup (u.2.1.map .int), .tup (u.2.2.map .int)].getD o1 .non,[D.tup (u.1.map .int), .tup (u.2.1.map .int), .tup (u.2.2.map .int)].getD o2 .non]=prD (F u)
 inj:∀ a b, π a = π b->a=b
 cf:∀ (rs:List Tm) k,Mi.cf (mvT π rs) k=Mi.cf rs (ι k)
theorem CV:Or 1 2 0 πt ιt tP:=⟨by decide,by decide,by decide,fun _ _ _=>rfl,fun _=>rfl,it,fun _ _=>Bu⟩
theorem CW:Or 1 0 2 πm πm mP:=⟨by decide,by decide,by decide,fun _ _ _=>rfl,fun _=>rfl,im,fun _ _=>Bv⟩
noncomputable abbrev oD (o0 o1 o2:Nat):D := .tup [.int (o0:Nat), .int (o1:Nat), .int (o2:Nat)]
noncomputable abbrev pk (xs:List D) (o:Nat):D:=xs.getD o .non
theorem gW {xs:List D} {e:List D} {o0 j z:Nat} (h0:atI xs (o0:Nat)=some (pk e o0)) (h1:atI xs (j:Nat)=some (pk e j)) (h2:atI xs (z:Nat)=some (pk e z)) {M:Mem} {N:NC} {chk:Mem->Prop} (B:chk M) {o:Option D} (q:∀ ρ,N ρ M [pk e o0,pk e j,pk e z]) :
 bp (bg 0) (cq (wOp wIx (bU 1) (bU 0))) chk N [.int (o0:Nat), .int (j:Nat), .int (z:Nat)] [o,some (.tup xs)] M []:=by
 refine ⟨B,_,rfl, ?_⟩;walk_at "wp";refine ⟨_,h0,by rw [Fb];lia,B,_,rfl, ?_⟩
 walk_at "wp";refine ⟨_,h1,by rw [Fb];simp,B,_,rfl, ?_⟩
 walk_at "wp";exact ⟨_,h2,by rw [Fb];simp,B,q _⟩
theorem xj {n:Nat} (hn : 1<=n) {o0 B G:Nat} {π ι:K3->K3} {F:Pr->Pr} (O:Or o0 B G π ι F) {x0 j z:D} {rs:List Tm} (hl:rs.length<=2000) {f:K3->Int} (Y:Cn rs f) {p:Addr} {M:Mem} {Q:QD} (hp:M p=some (.lst (rs.map tmD)))
 (q:∀ (rs':List Tm) p' M',Cn rs' (fun k=>f (ι k))->Ge M M'->M p'=none->M' p'=some (.lst (rs'.map tmD))->Q (.tup [pk [x0,j,z] o0,pk [x0,j,z] B,pk [x0,j,z] G, .ref p']) M'):phi tab n 20 [.tup [x0,j,z, .ref p],oD o0 B G] M Q:=by
 refine ao (by lia) rfl rfl (ρ := [some _,some _,none,none,none,none,none,none,none]) rfl ?_
 unfold d20 L2.Mi.K23.b20;walk_at "st";intro d hd;have g0:=Ge.new (o := .dct true []) hd;have e0:=ab (M:=M) (a:=d) (o := .dct true []);generalize ag M d (.dct true [])=M0 at g0 e0 ⊢;walk_at "st";refine ⟨_,rfl,_,ae (g0 _ _ hp), ?_⟩;refine aQ (f:=tmD) (ys:=rs) (I:=fun l ρ M'=>(∃ o3 o4 o5 o6 o7 o8, ρ = [some (.tup [x0,j,z, .ref p]),some (oD o0 B G),some (.ref d),o3,o4,o5,o6,o7,o8])/\Ge M M'/\M' d=some (.dct true ((mvT π l).map kcD))) rfl ⟨⟨_,_,_,_,_,_,rfl⟩,g0,e0⟩ (fun _ _ _ h=>ae (h.2.1 _ _ hp)) ?_ ?_
 ·rintro l t r ρ Z e ⟨⟨o3,o4,o5,o6,o7,o8,rfl⟩,g1,e1⟩;refine ⟨_,rfl,fun F' hF => ?_⟩;have D4:=am e;walk_at "st";refine ⟨by rw [Fb];lia, ?_⟩
  walk_at "st";refine gW (e := [.int t.1.2.1, .int t.1.2.2, .int t.1.1]) (at3 O.h0) (at3 O.h1) (at3 O.h2) (by first | rfl | trivial) fun ρ pn hpn => ?_
  have gn:=Ge.new (o := .lst [pk [.int t.1.2.1, .int t.1.2.2, .int t.1.1] o0,pk [.int t.1.2.1, .int t.1.2.2, .int t.1.1] B,pk [.int t.1.2.1, .int t.1.2.2, .int t.1.1] G]) hpn;have en:=ab (M:=Z) (a:=pn) (o := .lst [pk [.int t.1.2.1, .int t.1.2.2, .int t.1.1] o0,pk [.int t.1.2.1, .int t.1.2.2, .int t.1.1] B,pk [.int t.1.2.1, .int t.1.2.2, .int t.1.1] G]);generalize ag Z pn _=M2 at gn en ⊢;walk_at "st";refine aV en rfl (aV en rfl (aV en rfl ⟨by rw [Fb];lia, ?_⟩))
  have hk:=(List.cons.inj (O.key t.1.1 t.1.2.1 t.1.2.2)).1;rw [hk];refine fq (gn _ _ e1) (lL (π (t.1.1,t.1.2.1,t.1.2.2))) (by rw [Fd];simp [mvT];rw [Fb];lia) ?_
  rw [og];have J:oe (mvT π l) (π (t.1.1,t.1.2.1,t.1.2.2)) t.2=mvT π (l++[t]):=by
   unfold oe;rw [if_neg]
   ·simp [mvT]
   ·intro h;obtain ⟨x,hx,hd⟩:=HW.mp h;obtain ⟨u,hu,rfl⟩:=Fw.mp hx;have hh:=Y.nd;rw [e,GO,FJ] at hh;exact (Ic.mp hh).2.2 _ (Fy hu) _ Gd (O.inj _ _ (of_decide_eq_true hd))
  rw [J];exact hF _ _ ⟨⟨_,_,_,_,_,_,rfl⟩,(g1.trans gn).upd hd,ab⟩
 ·rintro ρ Z ⟨⟨o3,o4,o5,o6,o7,o8,rfl⟩,g1,e1⟩;dsimp only;walk_at "st";refine gW (e := [x0,j,z]) (at4 O.h0) (at4 O.h1) (at4 O.h2) (by first | rfl | trivial) fun ρ pn hpn=>⟨_,_,rfl,ae ab, ?_⟩
  have gn:=Ge.new (o := .lst [pk [x0,j,z] o0,pk [x0,j,z] B,pk [x0,j,z] G]) hpn;have e2:=gn _ _ e1;generalize ag Z pn _=M2 at gn e2 ⊢;refine oE (oC O.inj Y.nd) (by simp [mvT];lia) e2 fun rs' ρ M3 L hs g3 p' U => ?_
  refine ⟨by rw [Fb];lia, .inr trivial,by rw [Fb];simp, ?_⟩
  have g4:=g1.trans (gn.trans g3);refine q rs' p' _ ⟨hs,fun x hx => ?_,fun k => ?_⟩ (g4.trans (Ge.new U)) (ck g4 U) ab
  ·obtain ⟨u,hu,rfl⟩:=Fw.mp (L.mem_iff.mp hx);exact Y.nz u hu
  ·rw [kh L,O.cf,Y.cf]
theorem zS {n:Nat} (hn : 1<=n) {o0 G J:Nat} {π ι:K3->K3} {F:Pr->Pr} (O:Or o0 G J π ι F) {x0 j z:D} {ps:List Pr} (hl:ps.length<=1000) {p:Addr} {M:Mem} {Q:QD} (U:M p=some (.lst (ps.map prD)))
 (q:∀ p' M',Ge M M'->M p'=none->M' p'=some (.lst ((ps.map F).map prD))->Q (.tup [pk [x0,j,z] o0,pk [x0,j,z] G,pk [x0,j,z] J, .ref p']) M'):phi tab n 21 [.tup [x0,j,z, .ref p],oD o0 G J] M Q:=by
 refine ao (by lia) rfl rfl (ρ := [some _,some _,none]) rfl ?_
 unfold d21 L2.Mi.K23.b21;walk_at "st";refine ⟨_,rfl,_,ae U, ?_⟩;refine aG (f:=prD) (ys:=ps) (I:=fun l ρ M' acc=>(∃ o, ρ = [o,some (oD o0 G J)])/\Ge M M'/\acc=(l.map F).map prD) rfl ⟨⟨_,rfl⟩,Ge.refl,rfl⟩ (fun _ _ _ _ h=>ae (h.2.1 _ _ U)) ?_ ?_
 ·rintro l u r ρ L acc e ⟨⟨o,rfl⟩,g1,rfl⟩;refine ⟨_,rfl,fun N Y => ?_⟩;have Z:=am e;walk_at "wp";refine gW (e := [D.tup (u.1.map .int), .tup (u.2.1.map .int), .tup (u.2.2.map .int)]) (at3 O.h0) (at3 O.h1) (at3 O.h2) (by first | rfl | trivial) fun ρ pn hpn=>⟨_,_,rfl,ae ab, ?_⟩
  refine ⟨by rw [Fd,Fd,Fb];lia,Y _ _ _ ⟨⟨_,rfl⟩,g1.trans (Ge.new hpn), ?_⟩⟩
  rw [GO,GO];congr 1;show [D.tup _]=[prD (F u)];rw [<- O.pr u]
 ·rintro ρ L acc ⟨⟨o,rfl⟩,g1,rfl⟩ pq B;have g2:=g1.trans (Ge.new (o := .lst ((ps.map F).map prD)) B);have e2:=ab (M:=L) (a:=pq) (o := .lst ((ps.map F).map prD));generalize ag L pq (.lst ((ps.map F).map prD))=M2 at g2 e2 ⊢;walk_at "st";refine gW (e := [x0,j,z]) (at4 O.h0) (at4 O.h1) (at4 O.h2) (by first | rfl | trivial) fun ρ pn hpn=>⟨_,_,rfl,ae ab, ?_⟩
  refine ⟨by rw [Fb];lia, .inr trivial,by rw [Fb];simp, ?_⟩
  exact q pq _ (g2.trans (Ge.new hpn)) (ck g1 B) (Ge.new hpn _ _ e2)
theorem ql {M:Mem} {x y z:Int} {a b:Addr} {ts:List Tm} (j:ts.length<=100000) (q:M a=some (.lst (ts.map tmD))) (B:M b=some (.lst (ts.map tmD))) :
 Sm M 3 (.tup [.int x, .int y, .int z, .ref a]) (.tup [.int x, .int y, .int z, .ref b]):=by
 refine ⟨by simp,rfl,fun k d e h1 h2 => ?_⟩
 have:k=0∨k=1∨k=2∨k=3:=by
  have:=(FC.mp h1).1;simp at this;lia
 rcases this with rfl | rfl | rfl | rfl
 ·cases h1;cases h2;exact Sm.int
 ·cases h1;cases h2;exact Sm.int
 ·cases h1;cases h2;exact Sm.int
 ·cases h1;cases h2
  refine ⟨_,_,q,B,by rw [Fd];exact j,rfl,fun k d e h1 h2 => ?_⟩
  rw [h1] at h2;cases h2;rw [FX] at h1;obtain ⟨t,F,rfl⟩:=Iw.mp h1;exact dX (l := [t.1.1,t.1.2.1,t.1.2.2,t.2]) (by simp)
theorem yb {M:Mem} {x y z:Int} {a:Addr} {ts:List Tm} (h:M a=some (.lst (ts.map tmD))):rb 16 M (.tup [.int x, .int y, .int z, .ref a])=some (.tuple [.int x, .int y, .int z, .list (ts.map cz)]):=by
 have e:rb 15 M (.ref a)=some (.list (ts.map cz)):=by rw [dD h,nZ];rfl
 show (au (rb 15 M) [.int x, .int y, .int z, .ref a]).map Nl=_;simp only [au,e];simp [rb]
theorem lM {M:Mem} {x y z:Int} {a b:Addr} {ts:List Tm} {Q:QD} (j:M a=some (.lst (ts.map tmD))) (B:M b=some (.lst (ts.map tmD))) (q:Q (.bl false) M):wNe (.tup [.int x, .int y, .int z, .ref a]) (.tup [.int x, .int y, .int z, .ref b]) M Q:=by
 refine ⟨_,_,yb j,yb B, ?_⟩;rw [show Ga (.tuple [.int x, .int y, .int z, .list (ts.map cz)]) (.tuple [.int x, .int y, .int z, .list (ts.map cz)])=true by simp [Ga,GN,km]]
 exact q
structure Sc (N0 N1 N2:Nat) (ps:List Pr):Prop where
 h0 : 1<=N0/\N0<=12
 h1 : 1<=N1/\N1<=12
 h2 : 1<=N2/\N2<=12
 len:ps.length<=12
 ok:∀ u∈ps,ke N0 N1 N2 u
theorem Sc.lens {q z B:Nat} {ps:List Pr} (h:Sc q z B ps):∀ u∈ps,u.1.length=q/\u.2.1.length=z/\u.2.2.length=B:=fun u j=>⟨(h.ok u j).l0,(h.ok u j).l1,(h.ok u j).l2⟩
theorem Sc.pf {q z B:Nat} {ps:List Pr} (h:Sc q z B ps):∀ u∈ps,Pf q z B u:=fun u j=>by
 have big:∀ {l:List Int},dS l->Big l:=fun h x hx=>by have:=h x hx;lia
 exact ⟨big (h.ok u j).s0,big (h.ok u j).s1,big (h.ok u j).s2,(h.ok u j).l0,(h.ok u j).l1,(h.ok u j).l2⟩
theorem Sc.raw {j q z:Nat} {ps:List Pr} (h:Sc j q z ps):(aM ps).length<=1000000:=by
 have h0:=h.h0;have h1:=h.h1;have h2:=h.h2;have F:=h.len;have:=oz (a := 12) (b := 12) (c := 12) (ps:=ps) fun u B=>by obtain ⟨a,b,c⟩:=h.lens u B;lia
 lia
theorem Sc.fine {j q z:Nat} {ps:List Pr} (h:Sc j q z ps):∀ u∈ps,rO u:=fun u B=>by
 obtain ⟨a,b,c,d,e,f⟩:=h.pf u B;have h0:=h.h0;have h1:=h.h1;have h2:=h.h2;exact ⟨a,b,c,by lia,by lia,by lia⟩
theorem Sc.t {j q z:Nat} {ps:List Pr} (h:Sc j q z ps):Sc q z j (ps.map tP):=⟨h.h1,h.h2,h.h0,by rw [Fd];exact h.len,fun u B=>by
 obtain ⟨v,F,rfl⟩:=Fw.mp B;obtain ⟨a,b,c,d,e,f⟩:=h.ok v F;exact ⟨b,c,a,e,f,d⟩⟩
theorem Sc.m {j q z:Nat} {ps:List Pr} (h:Sc j q z ps):Sc q j z (ps.map mP):=⟨h.h1,h.h0,h.h2,by rw [Fd];exact h.len,fun u B=>by
 obtain ⟨v,F,rfl⟩:=Fw.mp B;obtain ⟨a,b,c,d,e,f⟩:=h.ok v F;exact ⟨b,a,c,e,d,f⟩⟩
noncomputable abbrev fT (ps:List Pr):K3->Int:=fun k=>Tn ps k.1 k.2.1 k.2.2
noncomputable abbrev sD (N0 N1 N2:Nat) (p:Addr):D := .tup [.int N0, .int N1, .int N2, .ref p]
structure S4 (pr pt pm pd:Addr) (ps qs:List Pr) (rs rs':List Tm) (M:Mem):Prop where
 r:M pr=some (.lst (ps.map prD))
 t:M pt=some (.lst (rs.map tmD))
 m:M pm=some (.lst (qs.map prD))
 d:M pd=some (.lst (rs'.map tmD))
theorem S4.ge {pr pt pm pd:Addr} {ps qs:List Pr} {rs rs':List Tm} {M M':Mem} (h:S4 pr pt pm pd ps qs rs rs' M) (g:Ge M M'):S4 pr pt pm pd ps qs rs rs' M':=⟨g _ _ h.r,g _ _ h.t,g _ _ h.m,g _ _ h.d⟩
theorem S4.upd {pr pt pm pd x:Addr} {ps qs:List Pr} {rs rs':List Tm} {M M':Mem} {o:O} (h:S4 pr pt pm pd ps qs rs rs' M) (h':S4 pr pt pm pd ps qs rs rs' M') (n:M x=none):S4 pr pt pm pd ps qs rs rs' (ag M' x o):=by
 have ne:∀ {a:Addr} {u:O},M a=some u->a≠x:=fun e z=>by rw [z,n] at e;cases e
 exact ⟨(ak (ne h.r)).trans h'.r,(ak (ne h.t)).trans h'.t,(ak (ne h.m)).trans h'.m,(ak (ne h.d)).trans h'.d⟩
noncomputable abbrev csD:List (Str×Nat) := [("mirrored",4),("task_mirrored",3),("task_turned",1),("turned",2)]
structure Cs (N0 N1 N2:Nat) (ps:List Pr) (rs:List Tm) (x:D) (o0 o1 o2:Nat) (π ι:K3->K3) (F:Pr->Pr) (m1 m2:Str) (i1 i2:Nat) (y0 y1 y2:Nat):Prop where
 ex:x = .tup [oD o0 o1 o2, .fn m1, .fn m2]
 c1:(m1,i1)∈csD
 c2:(m2,i2)∈csD
 or:Or o0 o1 o2 π ι F
 e0:pk [D.int N0, .int N1, .int N2] o0 = .int y0
 e1:pk [D.int N0, .int N1, .int N2] o1 = .int y1
 e2:pk [D.int N0, .int N1, .int N2] o2 = .int y2
 sc:Sc y0 y1 y2 (ps.map F)
 tn:∀ k:K3,Tn (ps.map F) k.1 k.2.1 k.2.2=fT ps (ι k)
 one:∀ {n:Nat} {p:Addr} {M:Mem} {Q:QD},2<=n->M p=some (.lst (ps.map prD))->(∀ p' M',Ge M M'->M p'=none->M' p'=some (.lst ((ps.map F).map prD))->Q (sD y0 y1 y2 p') M')->phi tab n i1 [sD N0 N1 N2 p] M Q
 oth:∀ {n:Nat} {p:Addr} {M:Mem} {Q:QD},2<=n->M p=some (.lst (rs.map tmD))->(∀ rs' p' M',Cn rs' (fun k=>fT ps (ι k))->rs'.length=rs.length->Ge M M'->M p'=none->M' p'=some (.lst (rs'.map tmD))->Q (sD y0 y1 y2 p') M')->phi tab n i2 [sD N0 N1 N2 p] M Q
theorem CY {j z B:Nat} {ps:List Pr} {rs:List Tm} (h:Sc j z B ps) (J:Cn rs (fT ps)) (L:rs.length<=2000):Cs j z B ps rs (.tup [oD 1 2 0, .fn "turned", .fn "task_turned"]) 1 2 0 πt ιt tP "turned" "task_turned" 2 1 z B j :=
 ⟨rfl,by simp,by simp,CV,rfl,rfl,rfl,h.t,fun k=>y9,fun G F q=>cI (by lia) (by have:=h.len;lia) F q,fun G F q=>ce G L J F q⟩
theorem CZ {j z B:Nat} {ps:List Pr} {rs:List Tm} (h:Sc j z B ps) (J:Cn rs (fT ps)) (L:rs.length<=2000):Cs j z B ps rs (.tup [oD 1 0 2, .fn "mirrored", .fn "task_mirrored"]) 1 0 2 πm πm mP "mirrored" "task_mirrored" 4 3 z j B :=
 ⟨rfl,by simp,by simp,CW,rfl,rfl,rfl,h.m,fun k=>ya,fun G F q=>gu (by lia) (by have:=h.len;lia) F q,fun G F q=>eM G L J F q⟩
theorem xk {k:Nat} (hk : 6<=k) {L O U:Nat} {ps:List Pr} {rs:List Tm} (hS:Sc L O U ps) (hC:Cn rs (fT ps)) (hl:rs.length<=1728) {pr pt:Addr} {M:Mem} {Q:QD} (hr:M pr=some (.lst (ps.map prD))) (ht:M pt=some (.lst (rs.map tmD)))
 (q:∀ M',Ge M M'->Q (.bl true) M'):phi tab k 22 [sD L O U pr,sD L O U pt] M Q:=by
 refine ao (by lia) rfl rfl (ρ := [some _,some _,none,none,none,none,none,none,none,none]) rfl ?_
 unfold d22 L2.Mi.K23.b22;walk_at "st";have s3 : 0+1+1+1<=Fj:=by rw [Fb];lia
 refine ⟨s3,s3,s3,s3,by rw [Fb];lia, ?_⟩
 refine aQ (f:=id) (ys := [.tup [oD 1 2 0, .fn "turned", .fn "task_turned"], .tup [oD 1 0 2, .fn "mirrored", .fn "task_mirrored"]]) (I:=fun l ρ M'=>(∃ o2 o3 o4 o5 o6 Y Z o9, ρ = [some (sD L O U pr),some (sD L O U pt),o2,o3,o4,o5,o6,Y,Z,o9])/\Ge M M') rfl ⟨⟨_,_,_,_,_,_,_,_,rfl⟩,Ge.refl⟩ (fun _ _ _ _=>by first | rfl | trivial) ?_ ?_
 ·rintro l x r ρ M1 e ⟨⟨o2,o3,o4,o5,o6,Y,Z,o9,rfl⟩,g1⟩;have hx:∃ o0 o1 o2 π ι F m1 m2 i1 i2 y0 y1 y2,Cs L O U ps rs x o0 o1 o2 π ι F m1 m2 i1 i2 y0 y1 y2:=by
   have hm:x∈[D.tup [oD 1 2 0, .fn "turned", .fn "task_turned"], .tup [oD 1 0 2, .fn "mirrored", .fn "task_mirrored"]]:=by rw [e];simp
   simp only [Fo,Gn,or_false] at hm
   rcases hm with rfl | rfl
   ·exact ⟨_,_,_,_,_,_,_,_,_,_,_,_,_,CY hS hC (by lia)⟩
   ·exact ⟨_,_,_,_,_,_,_,_,_,_,_,_,_,CZ hS hC (by lia)⟩
  obtain ⟨s0,s1,s2, π, ι,F,m1,m2,i1,i2,y0,y1,y2,hx⟩:=hx;rw [hx.ex];refine ⟨_,rfl,fun F' hF => ?_⟩;have B:=hx.sc;have Dd:=B.len;have D6:=g1 _ _ hr;have D7:=g1 _ _ ht;walk_at "st";refine zS (by lia) hx.or (by have:=hS.len;lia) D6 fun pm M2 g2 nm em => ?_
  refine xj (by lia) hx.or (by lia) hC (g2 _ _ D7) fun rs' pd M3 G g3 nd ed => ?_
  rw [hx.e0,hx.e1,hx.e2];have De:rs'.length<=1728:=Cn.few B.lens (rs:=rs') ⟨G.srt,G.nz,fun k=>by rw [G.cf, <- hx.tn]⟩ B.h0.2 B.h1.2 B.h2.2
  have g4:=g2.trans g3;have h3:S4 pr pt pm pd ps (ps.map F) rs rs' M3:=⟨g4 _ _ D6,g4 _ _ D7,g3 _ _ em,ed⟩;have g5:=g1.trans g4;clear g2 g3 g4 nm em nd ed;walk_at "st";refine ⟨by lia,by lia, ?_⟩
  refine aQ (I:=fun l2 ρ M'=>(∃ Y Z o9, ρ = [some (sD L O U pr),some (sD L O U pt),some (oD s0 s1 s2),some (.fn m1),some (.fn m2),some (sD y0 y1 y2 pm),some (sD y0 y1 y2 pd),Y,Z,o9])/\Ge M M'/\S4 pr pt pm pd ps (ps.map F) rs rs' M') dg ⟨⟨_,_,_,rfl⟩,g5,h3⟩ (fun _ _ _ _=>trivial) ?_ ?_
  ·rintro l2 j r2 ρ M4 e2 ⟨⟨Y,Z,o9,rfl⟩,g6,h4⟩;refine ⟨_,rfl,fun F2 Da => ?_⟩;walk_at "st";refine ⟨m1,rfl,i1,hx.c1,hx.one (by lia) h4.r fun pf M5 g7 nf ef => ?_⟩
   have h5:=h4.ge g7;refine ⟨m2,rfl,i2,hx.c2,hx.oth (by lia) h5.t fun ru pu M6 Db Df g8 nu eu => ?_⟩
   cases Db.uniq G
   have h6:=h5.ge g8;have Dc:pf≠pu:=fun z=>by rw [<- z,ef] at nu;cases nu
   have ef:=g8 _ _ ef;walk_at "st";refine iH (n := 4) (by lia) (zR (by lia) ef h6.m fun u hu=>by obtain ⟨a,b,c⟩:=B.lens u hu;have:=B.h0;have:=B.h1;have:=B.h2;lia) fun M7 g9 => ?_
   refine ⟨true,rfl, ?_⟩;rw [if_neg (by decide)]
   have h7:=h6.ge g9;refine iH (n := 3) (by lia) (ql (by lia) (g9 _ _ eu) h7.d) fun M8 D8 => ?_
   refine ⟨true,rfl, ?_⟩;rw [if_neg (by decide)]
   have h8:=h7.ge D8;have D4:=g9.trans D8;have ef:=D4 _ _ ef;have eu:=D4 _ _ eu;walk_at "st";refine oF (by lia) B.raw B.fine ef fun rv pv M9 D5 J nv ev => ?_
   cases Cn.uniq (f:=fun k=>fT ps (ι k)) ⟨D5.srt,D5.nz,fun k=>by rw [D5.cf,hx.tn]⟩ G
   refine lM ev (J _ _ eu) ?_;refine ⟨false,rfl, ?_⟩;rw [if_neg (by decide)]
   have h9:=h8.ge J;have ef:=J _ _ ef;have eu:=J _ _ eu;have gA:=g6.trans (g7.trans (g8.trans (D4.trans J)));have D9:=ck g7 nu;walk_at "st";refine ⟨_,rfl,⟨_,rfl,_,ef⟩,pf,_,rfl,rfl,ef, ?_⟩;have eu:=(ak (M:=M9) (o := .lst []) Dc.symm).trans eu;have hA:=h4.upd (o := .lst []) h9 nf;have gA:=gA.upd (o := .lst []) (ck g6 nf);generalize ag M9 pf (.lst [])=M10 at eu hA gA ⊢;walk_at "st";refine ⟨_,rfl,⟨_,rfl,_,eu⟩,pu,_,rfl,rfl,eu, ?_⟩;exact Da _ _ ⟨⟨_,_,_,rfl⟩,gA.upd (ck g6 D9),h4.upd hA D9⟩
  ·rintro ρ M4 ⟨⟨Y,Z,o9,rfl⟩,g6,h4⟩;dsimp only;walk_at "wp";exact hF _ _ ⟨⟨_,_,_,_,_,_,_,_,rfl⟩,g6⟩
 ·rintro ρ M1 ⟨⟨o2,o3,o4,o5,o6,Y,Z,o9,rfl⟩,g1⟩;dsimp only;walk_at "st";exact q _ g1
theorem xm {k:Nat} (hk : 7<=k) {bx:Addr} {M:Mem} {Q:QD} (hb:Box bx M) (q:∀ (j B F:Nat) (ps:List Pr) pr M',Sc j B F ps->M' pr=some (.lst (ps.map prD))->Q (sD j B F pr) M'):phi tab k 18 [.ref bx] M Q:=by
 refine ao (by lia) rfl rfl (ρ := [some _,none]) rfl ?_
 unfold d18 L2.Mi.K23.b18;walk_at "st";refine dH (by lia) hb (by decide) (by decide) fun v M1 v0 v1 x1 => ?_
 walk_at "wp";have hK:(if (v==0)=true then (1:Int) else 0)=0∨(if (v==0)=true then (1:Int) else 0)=1:=by split <;> simp
 generalize (if (v==0)=true then (1:Int) else 0)=K at hK ⊢
 walk_at "st";refine ⟨by lia,by lia, ?_⟩
 refine aG (f:=fun i=>D.int (i:Nat)) (I:=fun l ρ M' acc => ∃ ns:List Int,(∃ o, ρ = [o,some (.ref bx),some (.int K)])/\acc=ns.map .int/\ns.length=l.length/\(∀ y∈ns,1<=y/\y<=12)/\Box bx M') dg ⟨[],⟨_,rfl⟩,rfl,rfl,fun _ h=>by simp at h,x1.box⟩ (fun _ _ _ _ _=>trivial) ?_ ?_
 ·rintro l i r ρ M2 acc e ⟨ns,⟨o,rfl⟩,rfl,hl,L,b2⟩;refine ⟨_,rfl,fun N' D4 => ?_⟩;have J:=am e;rw [KQ] at J;have J:l.length < 3:=J;walk_at "wp";refine ⟨by rw [Fb];lia,fun pz D5 => ?_⟩
  have gz:=Ge.new (o := .lst [.int 5, .int 12]) D5;have ez:=ab (M:=M2) (a:=pz) (o := .lst [.int 5, .int 12]);have bz:=(Bx.of b2 gz).box;generalize ag M2 pz _=M3 at ez bz ⊢;obtain ⟨W,w0,w1,eW⟩:∃ W:Int,1<=W/\W<=12/\atI [D.int 5, .int 12] K=some (.int W):=by
   rcases hK with rfl | rfl
   ·exact ⟨5,by lia,by lia,rfl⟩
   ·exact ⟨12,by lia,by lia,rfl⟩
  refine aV ez eW ?_;refine dH (by lia) bz (by lia) (by lia) fun u M4 u0 u1 Y => ?_
  walk_at "wp";refine ⟨by rw [Fd,Fb];lia,D4 _ _ _ ⟨ns++[1+u],⟨_,rfl⟩,by simp,by simp [hl],fun y hy => ?_,Y.box⟩⟩
  rcases FE.mp hy with h | h
  ·exact L y h
  ·simp at h;subst h;lia
 rintro ρ M2 acc ⟨ns,⟨o,rfl⟩,rfl,D6,L,b2⟩ pl hpl;obtain ⟨x,y,z,rfl⟩:∃ x y z,ns=[x,y,z]:=by
  match ns,D6 with
  | [x,y,z],_=>exact ⟨x,y,z,rfl⟩
 have hx:=L x (by simp)
 have hy:=L y (by simp)
 have hz:=L z (by simp)
 obtain ⟨j,rfl⟩:∃ k:Nat,x=k:=⟨x.toNat,by lia⟩
 obtain ⟨B,rfl⟩:∃ k:Nat,y=k:=⟨y.toNat,by lia⟩
 obtain ⟨F,rfl⟩:∃ k:Nat,z=k:=⟨z.toNat,by lia⟩
 have G:=Bl b2 hpl;have g2:=Ge.new (o := .lst [.int j, .int B, .int F]) hpl;have e2:=ab (M:=M2) (a:=pl) (o := .lst [.int j, .int B, .int F]);have b3:=(Bx.of b2 g2).box;change phi _ _ _ _ (ag M2 pl (.lst [.int j, .int B, .int F])) _;generalize ag M2 pl (.lst [.int j, .int B, .int F])=M3 at e2 b3 ⊢;refine dH (by lia) b3 (by decide) (by decide) fun c M4 c0 c1 Y => ?_
 have Z:=Y.keep pl _ G e2;refine ⟨by rw [Fb];lia,fun O U => ?_⟩
 have g5:=Ge.new (o := .lst [.int c, .int 12]) U;have e5:=ab (M:=M4) (a:=O) (o := .lst [.int c, .int 12]);have b5:=(Bx.of Y.box g5).box;have Z:=g5 _ _ Z;generalize ag M4 O (.lst [.int c, .int 12])=M5 at e5 Z b5 ⊢;obtain ⟨C0,D7,eC⟩:∃ C0:Nat,C0<=12/\atI [D.int c, .int 12] K=some (.int (C0:Nat)):=by
  rcases hK with rfl | rfl
  ·exact ⟨c.toNat,by lia,by rw [Mr c0];rfl⟩
  ·exact ⟨12,by lia,rfl⟩
 refine aV e5 eC ?_;refine uN (s:=aj 18) (ft := 11) (fp := 13) rfl (dH (by lia)) (xh (by lia)) (by lia) (by lia) (by lia) (by lia) (by lia) b5 G Z fun ps pr M6 hlen hok x6 D8 er => ?_
 exact q j B F ps pr M6 ⟨by lia,by lia,by lia,by lia,hok⟩ er
theorem Ck {k:Nat} (Z : 4<=k) {j z F:Nat} {ps:List Pr} (B:Sc j z F ps) {pr:Addr} {M:Mem} {Q:QD} (J:M pr=some (.lst (ps.map prD)))
 (q:∀ (rs:List Tm) p' M',Cn rs (fT ps)->Ge M M'->M p'=none->M' p'=some (.lst (rs.map tmD))->Q (sD j z F p') M'):phi tab k 7 [sD j z F pr] M Q:=by
 have L:=B.len;have h0:=B.h0;have h1:=B.h1;have h2:=B.h2;have O:j*z<=12*12:=IU h0.2 h1.2;have U:ps.length*(j*z)<=12*(12*12):=IU L O;have m3:ps.length*(j*z)*F<=12*(12*12)*12:=IU U h2.2;exact rV (s:=aj 10) (sk:=aj 1) (sf:=aj 8) (sr:=aj 9) (ft := 0) (ff := 5) (fr := 6) rfl rfl rfl rfl (by lia) J (by lia) (by lia) (by lia) (by lia) (by lia) B.pf fun ts rs p' M' Y G g n e=>q rs p' M' (Cn.of Y fun k=>G _ _ _) g n e
theorem uX {M:Mem} {p a b:Addr} {ps:List Pr} {rs:List Tm} (h:M p=some (.lst [.ref a, .ref b])) (j:M a=some (.lst (ps.map prD))) (q:M b=some (.lst (rs.map tmD))):rb 16 M (.ref p)=some (.list [.list (ps.map cw), .list (rs.map cz)]):=by
 have e1:rb 15 M (.ref a)=some (.list (ps.map cw)):=by rw [dD j,jB];rfl
 have e2:rb 15 M (.ref b)=some (.list (rs.map cz)):=by rw [dD q,nZ];rfl
 rw [dD h];simp [au,e1,e2]
theorem zT {ps:List Pr} {rs:List Tm}:Ga (.list [.list (ps.map cw), .list (rs.map cz)]) (.list [.list (ps.map cw), .list (rs.map cz)])=true:=by
 simp [Ga,GN,xg,km]
theorem law_holds (ns:List Int) (hl:ns.length<=63):phi tab 40 23 [.con (ns.map D.int)] (fun _=>none) fun d _=>d = .bl true:=by
 refine ao (by lia) rfl rfl (ρ := [some _,none,none,none,none]) rfl ?_
 unfold d23 L2.Mi.K23.b23;walk_at "st";rw [Fd];refine ⟨by split <;> lia,by split <;> lia, ?_⟩
 refine aQ (I:=fun l ρ M' => ∃ o1 o2 o3 o4, ρ = [some (.con (ns.map D.int)),o1,o2,o3,o4]) dg ⟨_,_,_,_,rfl⟩ (fun _ _ _ hI=>trivial) ?_ ?_
 ·rintro l k r ρ M8 e ⟨o1,o2,o3,o4,rfl⟩;refine ⟨_,rfl,fun F hF => ?_⟩;walk_at "st";refine Bk (s:=aj 14) (fc := 8) (fm := 9) (sc:=aj 12) rfl rfl (qk (by lia)) (by lia) (by lia) fun bx x y hp => ?_
  refine xm (by lia) ⟨_,_,_,ab⟩ fun N0 N1 N2 ps pr M1 z er => ?_
  walk_at "st";refine Ck (by lia) z er fun rs pt M2 B g2 nt et => ?_
  have D4:=B.few z.lens z.h0.2 z.h1.2 z.h2.2;have er:=g2 _ _ er;clear g2 nt;walk_at "st";refine oF (by lia) z.raw z.fine er fun rv pv M3 D5 g3 nv ev => ?_
  cases D5.uniq B
  refine iH (n := 3) (by lia) (ql (by lia) (g3 _ _ et) ev) fun M4 g4 => ?_
  refine ⟨true,rfl, ?_⟩;rw [if_neg (by decide)]
  have er:=(g3.trans g4) _ _ er;have et:=(g3.trans g4) _ _ et;clear g3 g4 nv ev;walk_at "st";refine ⟨_,rfl,_,_,rfl,ae er,fun O h1 => ?_⟩;have g1:=Ge.new (o := .lst (ps.map prD)) h1;have e1:=ab (M:=M4) (a:=O) (o := .lst (ps.map prD));generalize ag M4 O (.lst (ps.map prD))=M5 at g1 e1 ⊢;refine ⟨_,rfl,_,_,rfl,ae (g1 _ _ et),fun p2 h2 => ?_⟩;have g2:=Ge.new (o := .lst (rs.map tmD)) h2;have e2:=ab (M:=M5) (a:=p2) (o := .lst (rs.map tmD));generalize ag M5 p2 (.lst (rs.map tmD))=M6 at g2 e2 ⊢;refine ⟨by rw [Fb];lia,fun pk hk => ?_⟩
  have g3:=Ge.new (o := .lst [.ref O, .ref p2]) hk;have ek:=ab (M:=M6) (a:=pk) (o := .lst [.ref O, .ref p2]);generalize ag M6 pk (.lst [.ref O, .ref p2])=M7 at g3 ek ⊢;have er:=(g1.trans (g2.trans g3)) _ _ er;have et:=(g1.trans (g2.trans g3)) _ _ et;have e1:=(g2.trans g3) _ _ e1;have e2:=g3 _ _ e2;clear g1 g2 g3 h1 h2 hk;have D6:=z.len;walk_at "st";refine xk (by lia) z B D4 er et fun Ma ga => ?_
  refine ⟨true,rfl, ?_⟩;rw [if_neg (by decide)]
  have er:=ga _ _ er;have et:=ga _ _ et;have e1:=ga _ _ e1;have e2:=ga _ _ e2;have ek:=ga _ _ ek;clear ga;walk_at "st";have j:∀ {F:Pr->Pr},(ps.map F).length<=1000:=by intro F;rw [Fd];lia
  have J:∀ {F G:Pr->Pr},((ps.map F).map G).length<=1000:=by intro F G;rw [Fd,Fd];lia
  refine cI (by lia) (by lia) er fun U Mb gb _ f1=>cI (by lia) j f1 fun Y Mc gc _ f2=>cI (by lia) J f2 fun q3 Md gd _ q => ?_
  have g1:=gb.trans (gc.trans gd);rw [show ((ps.map tP).map tP).map tP=ps by rw [Gv,Gv];exact List.map_id'' (fun u=>rfl) ps] at q
  refine rW rfl rfl rfl q (g1 _ _ er) ?_;refine ⟨false,rfl, ?_⟩;rw [if_neg (by decide)]
  have er:=g1 _ _ er;have et:=g1 _ _ et;have e1:=g1 _ _ e1;have e2:=g1 _ _ e2;have ek:=g1 _ _ ek;clear gb gc gd g1 f1 f2 q;refine gu (by lia) (by lia) er fun U Mb gb _ f1=>gu (by lia) j f1 fun Y Mc gc _ f2 => ?_
  have g1:=gb.trans gc;rw [show (ps.map mP).map mP=ps by rw [Gv];exact List.map_id'' (fun u=>rfl) ps] at f2
  refine rW rfl rfl rfl f2 (g1 _ _ er) ?_;refine ⟨false,rfl, ?_⟩;rw [if_neg (by decide)]
  have er:=g1 _ _ er;have et:=g1 _ _ et;have e1:=g1 _ _ e1;have e2:=g1 _ _ e2;have ek:=g1 _ _ ek;clear gb gc g1 f1 f2;walk_at "st";refine ce (by lia) (by lia) B et fun r1 U Mb c1 l1 gb _ f1=>ce (by lia) (by lia) c1 f1 fun r2 Y Mc c2 l2 gc _ f2=>ce (by lia) (by lia) c2 f2 fun r3 q3 Md Z l3 gd _ q => ?_
  have g1:=gb.trans (gc.trans gd)
  cases Cn.uniq (f:=fT ps) Z B
  refine lM q (g1 _ _ et) ?_;refine ⟨false,rfl, ?_⟩;rw [if_neg (by decide)]
  have er:=g1 _ _ er;have et:=g1 _ _ et;have e1:=g1 _ _ e1;have e2:=g1 _ _ e2;have ek:=g1 _ _ ek;clear gb gc gd g1 f1 f2 q c1 c2 Z l1 l2 l3;refine eM (by lia) (by lia) B et fun r1 U Mb c1 l1 gb _ f1=>eM (by lia) (by lia) c1 f1 fun r2 Y Mc c2 l2 gc _ f2 => ?_
  have g1:=gb.trans gc
  cases Cn.uniq (f:=fT ps) c2 B
  refine lM f2 (g1 _ _ et) ?_;refine ⟨false,rfl, ?_⟩;rw [if_neg (by decide)]
  have er:=g1 _ _ er;have et:=g1 _ _ et;have e1:=g1 _ _ e1;have e2:=g1 _ _ e2;have ek:=g1 _ _ ek;clear gb gc g1 f1 f2 c1 c2 l1 l2;walk_at "st";refine cI (by lia) (by lia) er fun U Mb gb _ f1=>gu (by lia) j f1 fun Y Mc gc _ f2 => ?_
  refine gu (by lia) (by lia) ((gb.trans gc) _ _ er) fun q3 Md gd _ q=>cI (by lia) j q fun q4 Me ge _ f4=>cI (by lia) J f4 fun q5 Mf gf _ L => ?_
  have g1:=gb.trans (gc.trans (gd.trans (ge.trans gf)));have f2:=(gd.trans (ge.trans gf)) _ _ f2;rw [show ((ps.map mP).map tP).map tP=(ps.map tP).map mP by rw [Gv,Gv,Gv];rfl] at L
  refine rW rfl rfl rfl f2 L ?_;refine ⟨false,rfl, ?_⟩;rw [if_neg (by decide)]
  have er:=g1 _ _ er;have et:=g1 _ _ et;have e1:=g1 _ _ e1;have e2:=g1 _ _ e2;have ek:=g1 _ _ ek;clear gb gc gd ge gf g1 f1 f2 q f4 L;walk_at "st";refine ce (by lia) (by lia) B et fun r1 U Mb c1 l1 gb _ f1=>eM (by lia) (by lia) c1 f1 fun r2 Y Mc c2 l2 gc _ f2 => ?_
  refine eM (by lia) (by lia) B ((gb.trans gc) _ _ et) fun r3 q3 Md Z l3 gd _ q=>ce (by lia) (by lia) Z q fun r4 q4 Me c4 l4 ge _ f4=>ce (by lia) (by lia) c4 f4 fun r5 q5 Mf c5 l5 gf _ L => ?_
  have g1:=gb.trans (gc.trans (gd.trans (ge.trans gf)));have f2:=(gd.trans (ge.trans gf)) _ _ f2
  cases Cn.uniq (f:=fun k=>fT ps (ιt (πm k))) c2 c5
  refine lM f2 L ?_;refine ⟨false,rfl, ?_⟩;rw [if_neg (by decide)]
  have er:=g1 _ _ er;have et:=g1 _ _ et;have e1:=g1 _ _ e1;have e2:=g1 _ _ e2;have ek:=g1 _ _ ek;clear gb gc gd ge gf g1 f1 f2 q f4 L c1 c2 Z c4 c5 l1 l2 l3 l4 l5;walk_at "st";refine ⟨_,rfl,_,rfl,by rw [Fb];lia,fun pz hz => ?_⟩
  have gz:=Ge.new (o := .lst [.ref pr, .ref pt]) hz;refine ⟨_,_,uX ab (gz _ _ er) (gz _ _ et),uX (gz _ _ ek) (gz _ _ e1) (gz _ _ e2), ?_⟩;rw [zT];refine ⟨_,rfl, ?_⟩;rw [if_neg (by decide)]
  exact hF _ _ ⟨_,_,_,_,rfl⟩
 ·rintro ρ M8 ⟨o1,o2,o3,o4,rfl⟩;dsimp only;walk_at "st"
end K23
end
end
end Mi
end L2
namespace PySem.W.Fast
theorem tw13490905027760174722:True:=trivial
theorem tw7216835354101858850:True:=trivial
theorem tw1229532966114212195:True:=trivial
theorem tw6035268963690532694:True:=trivial
theorem tw17179532353751912178:True:=trivial
theorem tw11568063173606270673:True:=trivial
theorem tw7051517658681288640:True:=trivial
theorem tw8863575260933273461:True:=trivial
theorem tw14132827389357524655:True:=trivial
theorem tw13702673456767801598:True:=trivial
theorem tw3694165004474963870:True:=trivial
theorem tw12929516675931439446:True:=trivial
theorem tw13895714293896816110:True:=trivial
theorem tw16202120591333379451:True:=trivial
theorem tw351164776019227803:True:=trivial
theorem tw3302129615848443591:True:=trivial
theorem tw15148673645466664723:True:=trivial
theorem tw1305652419710324780:True:=trivial
theorem tw339699209867645956:True:=trivial
theorem tw8822994604682047228:True:=trivial
theorem tw16758214418564770926:True:=trivial
theorem tw4004384574576319726:True:=trivial
theorem tw4434998859570813023:True:=trivial
theorem tw16123887028476776720:True:=trivial
theorem tw9023514856316156958:True:=trivial
theorem tw18230980215962056344:True:=trivial
theorem tw6009610865202636610:True:=trivial
theorem tw17976108979223798918:True:=trivial
theorem tw17047812502947857944:True:=trivial
theorem tw3186525500681009112:True:=trivial
theorem tw15602263226732950576:True:=trivial
theorem tw1654092449804778654:True:=trivial
theorem tw6051915387365019159:True:=trivial
theorem tw15031749588292915031:True:=trivial
theorem tw11480455200012774810:True:=trivial
theorem tw13809415509809813189:True:=trivial
theorem tw4342305070742629932:True:=trivial
theorem tw8108844408534571579:True:=trivial
theorem tw117225070953810566:True:=trivial
theorem tw17857002444916824204:True:=trivial
theorem tw18369871888527836175:True:=trivial
theorem tw2577610143185899243:True:=trivial
theorem tw3257947830794938804:True:=trivial
theorem tw8708476796554823242:True:=trivial
theorem tw15685699537927124724:True:=trivial
theorem tw8378010120972288830:True:=trivial
theorem tw6875270063868639766:True:=trivial
theorem tw14508071153194145509:True:=trivial
theorem tw11300588558137494192:True:=trivial
theorem tw6419497629205801150:True:=trivial
theorem tw2456107611724831567:True:=trivial
theorem tw1222665090919056258:True:=trivial
theorem tw15690092721173008237:True:=trivial
theorem tw14486956997016259249:True:=trivial
theorem tw9178389829502680486:True:=trivial
theorem tw5296084984615940169:True:=trivial
theorem tw11160781495316760602:True:=trivial
theorem tw5261272345761163472:True:=trivial
theorem tw10107275235297388587:True:=trivial
theorem tw15534153615221059018:True:=trivial
end PySem.W.Fast
open PySem.W in
set_option maxRecDepth 100000 in
set_option maxHeartbeats 0 in
theorem PySem.Challenge.cw_fewtimes_k23_turned_and_mirrored_holds : PySem.Challenge.rw_fewtimes_k23_turned_and_mirrored.Holds := by
 w_on;o_law;k_head;(case hw=>w_witness2)
 k_fill
 refine L2.Mi.K23.walk (l:=PySem.Challenge.rw_fewtimes_k23_turned_and_mirrored) rfl rfl L2.Mi.K23.law_holds (fun w h Y=>PySem.W.kIn_of Y) ?F
 case F =>
  intro w mg fa h KX G hmg;refine' L2.Mi.K23.all_mk KX G hmg ?z ?_ ?_ ?_ ?_ ?_ ?_ ?_ ?_ ?_ ?_ ?_ ?_ ?_ ?_ ?_ ?_ ?_ ?_ ?_ ?_ ?_ ?_ ?_ ?_ ?_ ?_ ?_ ?_ ?_ ?_ ?_ ?_ ?_ ?_ ?_ ?_ ?_ ?_ ?_ ?_ ?_ ?_ ?_ ?_ ?_ ?_ ?_ ?_ ?_ ?_ ?_ ?_ ?_ ?_ ?_ ?_ ?_ ?_ ?_ ?_ ?_ ?_ ?_ ?_ ?_ ?_ ?_ ?_ ?_ ?_ ?_ ?_ ?_ ?_ ?_ ?_ ?_ ?_ ?_ ?_ ?_ ?_ ?_ ?_ ?_ ?_ ?_ ?_ ?_ ?_ ?_ ?_ ?_ ?_ ?_ ?_
  case z =>
   intro x hx;simp only [L2.Mi.bltNames,List.mem_cons,List.not_mem_nil,or_false] at hx
   rcases hx with rfl | rfl | rfl | rfl | rfl | rfl | rfl | rfl | rfl | rfl | rfl | rfl | rfl | rfl | rfl | rfl | rfl | rfl | rfl | rfl <;> k_is
  all_goals try (show _=_;k_is)
